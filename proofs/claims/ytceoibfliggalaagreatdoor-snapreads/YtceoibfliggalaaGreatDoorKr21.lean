/-
  TEXTS: SnR, SnF, SnG, SnH.
-/
import Derived.Test.YtceoibfliggalaaGreatDoorKr16
import Derived.RowKit
import Derived.Test.YtceoibfliggalaaGreatDoorKr10
namespace Go.Proofs.YtceoibfliggalaaGreatDoor
open Tr Cg Go.RowKit
abbrev RS:=Option (List UInt8)
def bytF (n:Nat):RS→List UInt8×RS
 | none=>([],none)
 | some r=>if n≤r.length then(r.take n,some (r.drop n))else([],none)
def numGo:List UInt8→Int→Int
 | [],a=>a
 | b::l,a=>numGo l (wrap64 (a*256)+(b.toNat:Int))
theorem numGo_app:∀(l m:List UInt8) (a:Int),numGo (l++m) a=numGo m (numGo l a)
 | [],_,_=>rfl
 | _::l,m,_=>numGo_app l m _
def numF (s:RS):Int×RS:=(numGo (bytF 8 s).1 0,(bytF 8 s).2)
def numsF:Nat→RS→List Int×RS
 | 0,s=>([],s)
 | k+1,s=>((numF s).1::(numsF k (numF s).2).1,(numsF k (numF s).2).2)
def needF (b:Bool) (s:RS):RS:=if b=true then s else none
def lenF:RS→Nat
 | none=>0
 | some r=>r.length
def cntB (least:Nat) (s:RS):Bool:=decide (0≤(numF s).1)&&decide ((numF s).1≤((lenF (numF s).2 / least:Nat):Int))
def cntF (least:Nat) (s:RS):Int×RS:=(if needF (cntB least s) (numF s).2=none then 0 else(numF s).1,needF (cntB least s) (numF s).2)
theorem bytF_len (n:Nat) (s:RS):(bytF n s).1.length=0∨(bytF n s).1.length=n:=by
 unfold bytF
 split
 ·exact .inl rfl
 ·split
  ·rename_i h
   exact .inr (by simp;omega)
  ·exact .inl rfl
end Go.Proofs.YtceoibfliggalaaGreatDoor
namespace Go.Proofs.YtceoibfliggalaaGreatDoor
open Go.RowKit Wd Tr Cg Ld Lg
def BysAt (W:World) (x:Nat) (ao:Option Addr) (r:List UInt8):Prop:=∃g o,(0<r.length→ao=some ⟨g,o,none⟩∧g<x)∧∀k b,r[k]?=some b→W.cell? ⟨g,o+k,none⟩=some (.int .u8 (b.toNat:Int))
def Rd (W:World) (x:Nat):RS→Prop
 | none=>W.heap[x]?=some (.cells #[.slice none 0 0,.bool true] 91 (0,0))
 | some r=>∃ao cap,W.heap[x]?=some (.cells #[.slice ao r.length cap,.bool false] 91 (0,0))∧r.length≤cap∧(ao=none→cap=0)∧BysAt W x ao r∧r.length≤140737488355328
theorem cell_blk {w w':World} {g o:Nat} {v:Value} (h:w.cell? ⟨g,o,none⟩=some v) (e:w'.heap[g]?=w.heap[g]?):w'.cell? ⟨g,o,none⟩=some v:=by
 unfold World.cell? at h ⊢
 simp only at h ⊢
 rw [e]
 exact h
theorem Rd.other {W W':World} {x:Nat} {s:RS} (h:Rd W x s) (b:∀k,k≤x→W'.heap[k]?=W.heap[k]?):Rd W' x s:=by
 cases s with
 | none=>exact(b x (Nat.le_refl _)).trans (show W.heap[x]?=_ from h)
 | some r=>
  obtain⟨ao,c,p1,p2,p3,⟨g,o,p4,p5⟩,p6⟩:=h
  refine⟨ao,c,(b x (Nat.le_refl _)).trans p1,p2,p3,⟨g,o,p4,fun k u hu=>?_⟩,p6⟩
  have h0:0<r.length:=by have:=(List.getElem?_eq_some_iff.1 hu).1;omega
  exact cell_blk (p5 k u hu) (b g (by have:=(p4 h0).2;omega))
theorem rneed_yes {w:World} {x:Nat}:Calls Tryz.prog 64 #[.pointer (some ⟨x,0,none⟩),.bool true] w fun e w'=>e=.returned (.tuple #[])∧w'=w:=by
 go_enter Tryz.func64,Tryz.ntmps64
 go_wp2
 go_end0
 exact⟨rfl,rfl⟩
theorem rneed_no {w:World} {x:Nat} {ao:Option Addr} {n c:Nat} {b:Bool} (h:w.heap[x]?=some (.cells #[.slice ao n c,.bool b] 91 (0,0))):Calls Tryz.prog 64 #[.pointer (some ⟨x,0,none⟩),.bool false] w fun e w'=>e=.returned (.tuple #[])∧Rd w' x none∧Chg (fun k=>k=x) w w':=by
 have c0:w.cell? ⟨x,0,none⟩=some (.slice ao n c):=cells_at h rfl
 have f0:w.frozen? ⟨x,0,none⟩=false:=frozen_at h
 have h1:=heap_setCell_same w x 0 _ _ (.slice none 0 0) h
 have c1:(w.setCell ⟨x,0,none⟩ (.slice none 0 0)).cell? ⟨x,1,none⟩=some (.bool b):=cells_at h1 rfl
 have f1:(w.setCell ⟨x,0,none⟩ (.slice none 0 0)).frozen? ⟨x,1,none⟩=false:=frozen_at h1
 have h2:=heap_setCell_same _ x 1 _ _ (.bool true) h1
 have H2:Hid _:=h2
 clear h h1 h2
 go_enter Tryz.func64,Tryz.ntmps64
 go_wp2
 go_end0
 exact⟨rfl,H2.out,⟨rfl,rfl,rfl,by simp [World.setCell],fun i hi hne=>(Below.heap_setCell _ _ _ _ hne).trans (Below.heap_setCell _ _ _ _ hne)⟩⟩
theorem Rd.blk {w:World} {x:Nat} {s:RS} (h:Rd w x s):∃ao n c b,w.heap[x]?=some (.cells #[.slice ao n c,.bool b] 91 (0,0))∧n=lenF s∧(b=true↔s=none)∧n≤140737488355328:=by
 cases s with
 | none=>exact⟨none,0,0,true,h,rfl,by simp,by omega⟩
 | some r=>
  obtain⟨ao,c,h1,_,_,_,hl⟩:=h
  exact⟨ao,r.length,c,false,h1,rfl,by simp,hl⟩
theorem rneed_any {w:World} {x:Nat} {s:RS} (h:Rd w x s) (b:Bool):Calls Tryz.prog 64 #[.pointer (some ⟨x,0,none⟩),.bool b] w fun e w'=>e=.returned (.tuple #[])∧Rd w' x (needF b s)∧Chg (fun k=>k=x) w w':=by
 cases b with
 | true=>exact rneed_yes.mono fun e w' k=>⟨k.1,by rw [k.2];exact h,by rw [k.2];exact Chg.refl _ _⟩
 | false=>
  obtain⟨ao,n,c,b,h1,_⟩:=h.blk
  exact rneed_no h1
theorem BysAt.keep {w w':World} {x:Nat} {ao:Option Addr} {r:List UInt8} (h:BysAt w x ao r) (c:Chg (fun k=>k=x) w w'):BysAt w' x ao r:=by
 obtain⟨g,o,h1,h2⟩:=h
 refine⟨g,o,h1,fun k b hb=>?_⟩
 have h0:0<r.length:=by have:=(List.getElem?_eq_some_iff.1 hb).1;omega
 exact c.cell (h2 k b hb) (fun e=>by have h9:=(h1 h0).2;have e':g=x:=e;omega)
theorem BysAt.take {w:World} {x n:Nat} {ao:Option Addr} {r:List UInt8} (h:BysAt w x ao r):BysAt w x ao (r.take n):=by
 obtain⟨g,o,h1,h2⟩:=h
 refine⟨g,o,fun h0=>h1 (by rw [List.length_take]at h0;omega),fun k b hb=>h2 k b ?_⟩
 rw [List.getElem?_take]at hb
 split at hb
 ·exact hb
 ·cases hb
theorem BysAt.drop {w:World} {x n:Nat} {g o:Nat} {ao:Option Addr} {r:List UInt8} (h:BysAt w x (some ⟨g,o,none⟩) r) (h0:0<r.length) (ha:n<r.length→ao=some ⟨g,o+n,none⟩):BysAt w x ao (r.drop n):=by
 obtain⟨g',o',h1,h2⟩:=h
 have e:=(h1 h0).1
 cases e
 refine⟨g,o+n,fun h0=>⟨ha (by rw [List.length_drop]at h0;omega),(h1 (by omega)).2⟩,fun k b hb=>?_⟩
 rw [List.getElem?_drop]at hb
 have:=h2 (n+k) b hb
 rwa [Nat.add_assoc]
theorem BysAt.none (w:World) (x:Nat) (ao:Option Addr):BysAt w x ao []:=⟨0,0,fun h=>absurd h (by simp),fun k b h=>by simp at h⟩
def BytP (x n:Nat) (s:RS) (w:World) (e:Ending) (w':World):Prop:=∃ao c,e=.returned (.slice ao (bytF n s).1.length c)∧BysAt w' x ao (bytF n s).1∧Rd w' x (bytF n s).2∧Chg (fun k=>k=x) w w'
set_option maxRecDepth 20000 in
set_option maxHeartbeats 1000000 in
theorem bytes_bad {w:World} {x:Nat} {ao:Option Addr} {m c:Nat} {b:Bool} (h:w.heap[x]?=some (.cells #[.slice ao m c,.bool b] 91 (0,0))) (n:Nat) (hn:b=true∨m<n) (hb:b=true→m=0∧ao=none∧c=0):Calls Tryz.prog 65 #[.pointer (some ⟨x,0,none⟩),.int .i64 n] w fun e w'=>e=.returned (.slice none 0 0)∧Rd w' x none∧Chg (fun k=>k=x) w w':=by
 have c0:w.cell? ⟨x,0,none⟩=some (.slice ao m c):=cells_at h rfl
 by_cases hle:n≤m
 ·have hle':(n:Int)≤m:=by omega
  obtain rfl:b=true:=by rcases hn with e | e;exact e;omega
  obtain⟨rfl,rfl,rfl⟩:=hb rfl
  obtain rfl:n=0:=by omega
  clear hle' hn hb
  have c1:w.cell? ⟨x,1,none⟩=some (.bool true):=cells_at h rfl
  have H:Hid _:=h
  have hnd:=rneed_yes (w:=w) (x:=x)
  clear h
  go_enter Tryz.func65,Tryz.ntmps65
  go_wp2_with (go_at_call 64;refine hnd.mono ?_;rintro e w1 ⟨rfl,rfl⟩)
  go_ret
  exact⟨rfl,H.out,Chg.refl _ _⟩
 ·have hle':¬(n:Int)≤m:=by omega
  have hd:decide ((n:Int)≤m)=false:=decide_eq_false hle'
  have hnd:=rneed_no h
  clear h hn hb
  go_enter Tryz.func65,Tryz.ntmps65
  go_wp2_with (go_at_call 64;refine hnd.mono ?_;rintro e w1 ⟨rfl,hr,hC⟩;have c1:w1.cell? ⟨x,1,none⟩=some (.bool true):=cells_at (show w1.heap[x]?=_ from hr) rfl;have HR:Hid _:=hr;have HC:Hid _:=hC;clear hr hC)
  go_ret
  exact⟨rfl,HR.out,HC.out⟩
set_option maxRecDepth 20000 in
set_option maxHeartbeats 1000000 in
theorem bytes_good {w:World} {x:Nat} {ao:Option Addr} {m c:Nat} (h:w.heap[x]?=some (.cells #[.slice ao m c,.bool false] 91 (0,0))) (n:Nat) (hn:n≤m) (hc:m≤c) (hao:ao=none→c=0):Calls Tryz.prog 65 #[.pointer (some ⟨x,0,none⟩),.int .i64 n] w fun e w'=>e=.returned (.slice ao n c)∧(∃a',w'.heap[x]?=some (.cells #[.slice a' (m - n) (c - n),.bool false] 91 (0,0))∧(∀ad,ao=some ad→n<c→a'=some (ad.add n))∧(a'=none→ao=none))∧Chg (fun k=>k=x) w w':=by
 have c0:w.cell? ⟨x,0,none⟩=some (.slice ao m c):=cells_at h rfl
 have c1:w.cell? ⟨x,1,none⟩=some (.bool false):=cells_at h rfl
 have f0:w.frozen? ⟨x,0,none⟩=false:=frozen_at h
 have hn':(n:Int)≤m:=by omega
 have hc':(n:Int)≤c:=by omega
 have hmc':(m:Int)≤c:=by omega
 have hnd:=rneed_yes (w:=w) (x:=x)
 have H:Hid _:=h
 clear h
 by_cases hcn:c=n
 ·obtain rfl:m=n:=by omega
  subst hcn
  have h1:=heap_setCell_same w x 0 _ _ (.slice ao 0 0) H.out
  have H1:Hid _:=h1
  clear h1
  go_enter Tryz.func65,Tryz.ntmps65
  go_wp2_with (go_at_call 64;refine hnd.mono ?_;rintro e w1 ⟨rfl,rfl⟩)
  go_ret
  refine⟨rfl,⟨ao,by rw [Nat.sub_self];exact H1.out,fun ad _ h=>by omega,fun h=>h⟩,⟨rfl,rfl,rfl,by simp [World.setCell],fun i hi hne=>Below.heap_setCell _ _ _ _ hne⟩⟩
 ·have h1:=heap_setCell_same w x 0 _ _ (.slice (ao.map fun x=>x.add n) (m - n) (c - n)) H.out
  have H1:Hid _:=h1
  clear h1
  go_enter Tryz.func65,Tryz.ntmps65
  go_wp2_with (go_at_call 64;refine hnd.mono ?_;rintro e w1 ⟨rfl,rfl⟩)
  go_ret
  refine⟨rfl,⟨_,H1.out,fun ad e _=>by rw [e];rfl,fun h=>by cases ao with | none=>rfl | some a=>cases h⟩,⟨rfl,rfl,rfl,by simp [World.setCell],fun i hi hne=>Below.heap_setCell _ _ _ _ hne⟩⟩
theorem bytes_any {w:World} {x:Nat} {s:RS} (h:Rd w x s) (n:Nat):Calls Tryz.prog 65 #[.pointer (some ⟨x,0,none⟩),.int .i64 n] w (BytP x n s w):=by
 cases s with
 | none=>exact(bytes_bad (show w.heap[x]?=_ from h) n (.inl rfl) (fun _=>⟨rfl,rfl,rfl⟩)).mono fun e w' k=>⟨none,0,k.1,BysAt.none _ _ _,k.2.1,k.2.2⟩
 | some r=>
  obtain⟨ao,c,h1,h2,h3,h4,h5⟩:=h
  by_cases hn:n≤r.length
  ·have e:bytF n (some r)=(r.take n,some (r.drop n)):=if_pos hn
   refine(bytes_good h1 n hn h2 h3).mono ?_
   rintro e' w' ⟨rfl,⟨a',k1,k2,k3⟩,hC⟩
   refine⟨ao,c,?_,?_,?_,hC⟩
   ·rw [e,List.length_take,Nat.min_eq_left hn]
   ·rw [e]
    exact(h4.keep hC).take
   ·rw [e]
    refine⟨a',c - n,by rw [List.length_drop];exact k1,by rw [List.length_drop];omega,fun h=>by have:=h3 (k3 h);omega,?_,by rw [List.length_drop];omega⟩
    by_cases h0:0<r.length
    ·obtain ⟨g,o,p1,p2⟩:=h4
     have ea:=(p1 h0).1
     subst ea
     refine BysAt.drop (BysAt.keep ⟨g,o,p1,p2⟩ hC) h0 (fun hl=>?_)
     rw [k2 _ rfl (by omega)]
     unfold Addr.add
     split<;>simp_all
    ·have e0:r.drop n= []:=List.drop_of_length_le (by omega)
     rw [e0]
     exact BysAt.none _ _ _
  ·have e:bytF n (some r)=([],none):=if_neg hn
   refine(bytes_bad h1 n (.inr (by omega)) (fun h=>by cases h)).mono ?_
   rintro e' w' ⟨rfl,k1,k2⟩
   rw [show BytP x n (some r) w=_ from rfl]
   unfold BytP
   rw [e]
   exact⟨none,0,rfl,BysAt.none _ _ _,k1,k2⟩
end Go.Proofs.YtceoibfliggalaaGreatDoor
namespace Go.Proofs.YtceoibfliggalaaGreatDoor
open Go.RowKit Wd Tr Cg Ld Lg
theorem or_byte (n:Int) (b:Nat) (hb:b<256):bits .or .i64 (wrap64 (n*256)) (wrap64 (b:Int))=wrap64 (n*256)+(b:Int):=by
 have e:wrap64 (b:Int)=b:=by unfold wrap64;omega
 have h1:wrap64 (n*256) % 256=0:=by unfold wrap64;omega
 have h2: -9223372036854775808≤wrap64 (n*256)∧wrap64 (n*256)≤9223372036854775807:=by unfold wrap64;omega
 rw [e]
 generalize wrap64 (n*256)=a at *
 show IntKind.i64.wrap ((BitVec.ofInt 64 a ||| BitVec.ofInt 64 (b:Int)).toNat:Int)=_
 rw [BitVec.toNat_or,BitVec.toNat_ofInt,BitVec.toNat_ofInt]
 have eb:((b:Int) % ((2^64:Nat):Int)).toNat=b:=by omega
 obtain⟨q,hq⟩:∃q,(a % ((2^64:Nat):Int)).toNat=2^8*q:=⟨(a % ((2^64:Nat):Int)).toNat / 256,by omega⟩
 rw [eb,hq,←Nat.two_pow_add_eq_or_of_lt (show b<2^8 from hb),←hq,IntKind.wrap_i64]
 omega
set_option maxRecDepth 20000 in
set_option maxHeartbeats 400000 in
theorem rnumber_any {w:World} {x:Nat} {s:RS} (h:Rd w x s):Calls Tryz.prog 115 #[.pointer (some ⟨x,0,none⟩)] w fun e w'=>e=.returned (.int .i64 (numF s).1)∧Rd w' x (numF s).2∧Chg (fun k=>k=x) w w':=by
 have hby:=bytes_any h 8
 clear h
 unfold numF
 unfold BytP at hby
 have hbl:=bytF_len 8 s
 generalize bytF 8 s=r at *
 obtain⟨l,s'⟩:=r
 simp only at hby hbl ⊢
 obtain⟨m,hm⟩:∃m,l.length=m:=⟨_,rfl⟩
 rw [hm]at hby hbl
 have HM:Hid _:=hm
 clear hm
 go_enter Tryz.func115,Tryz.ntmps115
 go_wp2_with (go_at_call 65;refine hby.mono ?_;rintro e w1 ⟨ao,c,rfl,hB,hR,hC⟩)
 have HB:Hid _:=hB
 have HR:Hid _:=hR
 have HC:Hid _:=hC
 clear hB hR hC hby
 go_loopg [3,5,9] m (fun gk p3 u pk wr=>∃(i:Nat),i+gk=m∧pk=.int .i64 i∧p3=.int .i64 (numGo (l.take i) 0)∧w1=wr)
 case atStart=>exact⟨0,by omega,rfl,rfl,rfl⟩
 case round=>
  obtain⟨i,hi,rfl,rfl,rfl⟩:=hrel
  by_cases hlt:i<m
  ·have hlt':(i:Int)<m:=by omega
   obtain⟨b,hb⟩:∃b,l[i]?=some b:=⟨_,List.getElem?_eq_getElem (by rw [HM.out];exact hlt)⟩
   obtain⟨g,o,h1,h2⟩:=HB.out
   obtain rfl:=(h1 (by rw [HM.out];omega)).1
   have c0:=h2 i b hb
   have en:numGo (l.take (i+1)) 0=wrap64 (numGo (l.take i) 0*256)+(b.toNat:Int):=by
    rw [List.take_add_one,hb,Option.toList_some,numGo_app]
    rfl
   generalize numGo (l.take i) 0=n at *
   have ho:=or_byte n b.toNat b.toNat_lt
   have HE:Hid _:=en
   clear h1 h2 hb en
   go_wp2
   go_roundg (m - (i+1))
   case measure=>omega
   case rel=>exact⟨i+1,by omega,by go_num,by rw [HE.out],rfl⟩
  ·have hlt':¬(i:Int)<m:=by omega
   obtain rfl:i=m:=by omega
   rw [List.take_of_length_le (by rw [HM.out];exact Nat.le_refl _)]
   go_wp2
   go_ret
   exact⟨rfl,HR.out,HC.out⟩
set_option maxRecDepth 20000 in
set_option maxHeartbeats 400000 in
theorem rcount_1B {w:World} {x:Nat} {n:Int} {s':RS} (hnu:Calls Tryz.prog 115 #[.pointer (some ⟨x,0,none⟩)] w fun e w'=>e=.returned (.int .i64 n)∧Rd w' x s'∧Chg (fun k=>k=x) w w') {B:Bool} (hB:(decide (0≤n)&&decide (n≤((lenF s' / 1:Nat):Int)))=B):Calls Tryz.prog 67 #[.pointer (some ⟨x,0,none⟩),.int .i64 1] w fun e w'=>e=.returned (.int .i64 (if needF B s'=none then 0 else n))∧Rd w' x (needF B s')∧Chg (fun k=>k=x) w w':=by
 go_enter Tryz.func67,Tryz.ntmps67
 go_upto_region 2 with(go_at_call 115;refine hnu.mono ?_;rintro e w1 ⟨rfl,hR,hC⟩)
 obtain⟨ao,m,c,b,hb,hm,hbs,hml⟩:=hR.blk
 have c0:w1.cell? ⟨x,0,none⟩=some (.slice ao m c):=cells_at hb rfl
 have HC:Hid _:=hC
 rw [← hm]at hB
 clear hC hb hbs hnu hm
 have hw:wrap64 ((m:Int))=(m:Int):=by unfold wrap64;omega
 by_cases hn:0≤n
 ·by_cases hq:n≤(m:Int)
  ·obtain rfl:B=true:=by rw [← hB];simp;omega
   have hd:decide (n≤(m:Int))=true:=decide_eq_true hq
   have hnd:=rneed_any hR true
   clear hR hB
   go_upto_region 3 with(go_at_call 64;refine hnd.mono ?_;rintro e w2 ⟨rfl,hR2,hC2⟩)
   obtain⟨ao2,m2,c2,b2,hb2,_,hbs2,_⟩:=hR2.blk
   have d1:w2.cell? ⟨x,1,none⟩=some (.bool b2):=cells_at hb2 rfl
   have HR2:Hid _:=hR2
   have HC2:Hid _:=hC2
   clear hb2 hR2 hC2 hnd c0
   cases b2 with
   | true=>
    have E2:Hid (needF true s'=none):=hbs2.1 rfl
    clear hbs2
    go_wp2
    go_ret
    have h9:=HR2.out
    rw [E2.out]at h9
    exact⟨rfl,h9,HC.out.trans HC2.out (fun _ _ e=>e)⟩
   | false=>
    have E2:Hid (¬needF true s'=none):=fun e=>by have:=hbs2.2 e;cases this
    clear hbs2
    go_wp2
    go_ret
    exact⟨rfl,HR2.out,HC.out.trans HC2.out (fun _ _ e=>e)⟩
  ·obtain rfl:B=false:=by rw [← hB];simp;omega
   have hd:decide (n≤(m:Int))=false:=decide_eq_false hq
   have hnd:=rneed_any hR false
   clear hR hB
   go_upto_region 3 with(go_at_call 64;refine hnd.mono ?_;rintro e w2 ⟨rfl,hR2,hC2⟩)
   obtain⟨ao2,m2,c2,b2,hb2,_,hbs2,_⟩:=hR2.blk
   have d1:w2.cell? ⟨x,1,none⟩=some (.bool b2):=cells_at hb2 rfl
   have HR2:Hid _:=hR2
   have HC2:Hid _:=hC2
   clear hb2 hR2 hC2 hnd c0
   cases b2 with
   | true=>
    have E2:Hid (needF false s'=none):=hbs2.1 rfl
    clear hbs2
    go_wp2
    go_ret
    have h9:=HR2.out
    rw [E2.out]at h9
    exact⟨rfl,h9,HC.out.trans HC2.out (fun _ _ e=>e)⟩
   | false=>exact absurd (hbs2.2 rfl) (by decide)
 ·obtain rfl:B=false:=by rw [← hB];simp;omega
  have hnd:=rneed_any hR false
  clear hR hB
  go_upto_region 3 with(go_at_call 64;refine hnd.mono ?_;rintro e w2 ⟨rfl,hR2,hC2⟩)
  obtain⟨ao2,m2,c2,b2,hb2,_,hbs2,_⟩:=hR2.blk
  have d1:w2.cell? ⟨x,1,none⟩=some (.bool b2):=cells_at hb2 rfl
  have HR2:Hid _:=hR2
  have HC2:Hid _:=hC2
  clear hb2 hR2 hC2 hnd c0
  cases b2 with
  | true=>
   have E2:Hid (needF false s'=none):=hbs2.1 rfl
   clear hbs2
   go_wp2
   go_ret
   have h9:=HR2.out
   rw [E2.out]at h9
   exact⟨rfl,h9,HC.out.trans HC2.out (fun _ _ e=>e)⟩
  | false=>exact absurd (hbs2.2 rfl) (by decide)
theorem rcount_1 {w:World} {x:Nat} {s:RS} (h:Rd w x s):Calls Tryz.prog 67 #[.pointer (some ⟨x,0,none⟩),.int .i64 1] w fun e w'=>e=.returned (.int .i64 (cntF 1 s).1)∧Rd w' x (cntF 1 s).2∧Chg (fun k=>k=x) w w':=rcount_1B (rnumber_any h) rfl
set_option maxRecDepth 20000 in
set_option maxHeartbeats 400000 in
theorem rcount_8B {w:World} {x:Nat} {n:Int} {s':RS} (hnu:Calls Tryz.prog 115 #[.pointer (some ⟨x,0,none⟩)] w fun e w'=>e=.returned (.int .i64 n)∧Rd w' x s'∧Chg (fun k=>k=x) w w') {B:Bool} (hB:(decide (0≤n)&&decide (n≤((lenF s' / 8:Nat):Int)))=B):Calls Tryz.prog 67 #[.pointer (some ⟨x,0,none⟩),.int .i64 8] w fun e w'=>e=.returned (.int .i64 (if needF B s'=none then 0 else n))∧Rd w' x (needF B s')∧Chg (fun k=>k=x) w w':=by
 go_enter Tryz.func67,Tryz.ntmps67
 go_upto_region 2 with(go_at_call 115;refine hnu.mono ?_;rintro e w1 ⟨rfl,hR,hC⟩)
 obtain⟨ao,m,c,b,hb,hm,hbs,hml⟩:=hR.blk
 have c0:w1.cell? ⟨x,0,none⟩=some (.slice ao m c):=cells_at hb rfl
 have HC:Hid _:=hC
 rw [← hm]at hB
 clear hC hb hbs hnu hm
 have hw:wrap64 ((m:Int) / 8)=(m:Int) / 8:=by unfold wrap64;omega
 by_cases hn:0≤n
 ·by_cases hq:n≤(m:Int) / 8
  ·obtain rfl:B=true:=by rw [← hB];simp;omega
   have hd:decide (n≤(m:Int) / 8)=true:=decide_eq_true hq
   have hnd:=rneed_any hR true
   clear hR hB
   go_upto_region 3 with(go_at_call 64;refine hnd.mono ?_;rintro e w2 ⟨rfl,hR2,hC2⟩)
   obtain⟨ao2,m2,c2,b2,hb2,_,hbs2,_⟩:=hR2.blk
   have d1:w2.cell? ⟨x,1,none⟩=some (.bool b2):=cells_at hb2 rfl
   have HR2:Hid _:=hR2
   have HC2:Hid _:=hC2
   clear hb2 hR2 hC2 hnd c0
   cases b2 with
   | true=>
    have E2:Hid (needF true s'=none):=hbs2.1 rfl
    clear hbs2
    go_wp2
    go_ret
    have h9:=HR2.out
    rw [E2.out]at h9
    exact⟨rfl,h9,HC.out.trans HC2.out (fun _ _ e=>e)⟩
   | false=>
    have E2:Hid (¬needF true s'=none):=fun e=>by have:=hbs2.2 e;cases this
    clear hbs2
    go_wp2
    go_ret
    exact⟨rfl,HR2.out,HC.out.trans HC2.out (fun _ _ e=>e)⟩
  ·obtain rfl:B=false:=by rw [← hB];simp;omega
   have hd:decide (n≤(m:Int) / 8)=false:=decide_eq_false hq
   have hnd:=rneed_any hR false
   clear hR hB
   go_upto_region 3 with(go_at_call 64;refine hnd.mono ?_;rintro e w2 ⟨rfl,hR2,hC2⟩)
   obtain⟨ao2,m2,c2,b2,hb2,_,hbs2,_⟩:=hR2.blk
   have d1:w2.cell? ⟨x,1,none⟩=some (.bool b2):=cells_at hb2 rfl
   have HR2:Hid _:=hR2
   have HC2:Hid _:=hC2
   clear hb2 hR2 hC2 hnd c0
   cases b2 with
   | true=>
    have E2:Hid (needF false s'=none):=hbs2.1 rfl
    clear hbs2
    go_wp2
    go_ret
    have h9:=HR2.out
    rw [E2.out]at h9
    exact⟨rfl,h9,HC.out.trans HC2.out (fun _ _ e=>e)⟩
   | false=>exact absurd (hbs2.2 rfl) (by decide)
 ·obtain rfl:B=false:=by rw [← hB];simp;omega
  have hnd:=rneed_any hR false
  clear hR hB
  go_upto_region 3 with(go_at_call 64;refine hnd.mono ?_;rintro e w2 ⟨rfl,hR2,hC2⟩)
  obtain⟨ao2,m2,c2,b2,hb2,_,hbs2,_⟩:=hR2.blk
  have d1:w2.cell? ⟨x,1,none⟩=some (.bool b2):=cells_at hb2 rfl
  have HR2:Hid _:=hR2
  have HC2:Hid _:=hC2
  clear hb2 hR2 hC2 hnd c0
  cases b2 with
  | true=>
   have E2:Hid (needF false s'=none):=hbs2.1 rfl
   clear hbs2
   go_wp2
   go_ret
   have h9:=HR2.out
   rw [E2.out]at h9
   exact⟨rfl,h9,HC.out.trans HC2.out (fun _ _ e=>e)⟩
  | false=>exact absurd (hbs2.2 rfl) (by decide)
theorem rcount_8 {w:World} {x:Nat} {s:RS} (h:Rd w x s):Calls Tryz.prog 67 #[.pointer (some ⟨x,0,none⟩),.int .i64 8] w fun e w'=>e=.returned (.int .i64 (cntF 8 s).1)∧Rd w' x (cntF 8 s).2∧Chg (fun k=>k=x) w w':=rcount_8B (rnumber_any h) rfl
set_option maxRecDepth 20000 in
set_option maxHeartbeats 400000 in
theorem rcount_40B {w:World} {x:Nat} {n:Int} {s':RS} (hnu:Calls Tryz.prog 115 #[.pointer (some ⟨x,0,none⟩)] w fun e w'=>e=.returned (.int .i64 n)∧Rd w' x s'∧Chg (fun k=>k=x) w w') {B:Bool} (hB:(decide (0≤n)&&decide (n≤((lenF s' / 40:Nat):Int)))=B):Calls Tryz.prog 67 #[.pointer (some ⟨x,0,none⟩),.int .i64 40] w fun e w'=>e=.returned (.int .i64 (if needF B s'=none then 0 else n))∧Rd w' x (needF B s')∧Chg (fun k=>k=x) w w':=by
 go_enter Tryz.func67,Tryz.ntmps67
 go_upto_region 2 with(go_at_call 115;refine hnu.mono ?_;rintro e w1 ⟨rfl,hR,hC⟩)
 obtain⟨ao,m,c,b,hb,hm,hbs,hml⟩:=hR.blk
 have c0:w1.cell? ⟨x,0,none⟩=some (.slice ao m c):=cells_at hb rfl
 have HC:Hid _:=hC
 rw [← hm]at hB
 clear hC hb hbs hnu hm
 have hw:wrap64 ((m:Int) / 40)=(m:Int) / 40:=by unfold wrap64;omega
 by_cases hn:0≤n
 ·by_cases hq:n≤(m:Int) / 40
  ·obtain rfl:B=true:=by rw [← hB];simp;omega
   have hd:decide (n≤(m:Int) / 40)=true:=decide_eq_true hq
   have hnd:=rneed_any hR true
   clear hR hB
   go_upto_region 3 with(go_at_call 64;refine hnd.mono ?_;rintro e w2 ⟨rfl,hR2,hC2⟩)
   obtain⟨ao2,m2,c2,b2,hb2,_,hbs2,_⟩:=hR2.blk
   have d1:w2.cell? ⟨x,1,none⟩=some (.bool b2):=cells_at hb2 rfl
   have HR2:Hid _:=hR2
   have HC2:Hid _:=hC2
   clear hb2 hR2 hC2 hnd c0
   cases b2 with
   | true=>
    have E2:Hid (needF true s'=none):=hbs2.1 rfl
    clear hbs2
    go_wp2
    go_ret
    have h9:=HR2.out
    rw [E2.out]at h9
    exact⟨rfl,h9,HC.out.trans HC2.out (fun _ _ e=>e)⟩
   | false=>
    have E2:Hid (¬needF true s'=none):=fun e=>by have:=hbs2.2 e;cases this
    clear hbs2
    go_wp2
    go_ret
    exact⟨rfl,HR2.out,HC.out.trans HC2.out (fun _ _ e=>e)⟩
  ·obtain rfl:B=false:=by rw [← hB];simp;omega
   have hd:decide (n≤(m:Int) / 40)=false:=decide_eq_false hq
   have hnd:=rneed_any hR false
   clear hR hB
   go_upto_region 3 with(go_at_call 64;refine hnd.mono ?_;rintro e w2 ⟨rfl,hR2,hC2⟩)
   obtain⟨ao2,m2,c2,b2,hb2,_,hbs2,_⟩:=hR2.blk
   have d1:w2.cell? ⟨x,1,none⟩=some (.bool b2):=cells_at hb2 rfl
   have HR2:Hid _:=hR2
   have HC2:Hid _:=hC2
   clear hb2 hR2 hC2 hnd c0
   cases b2 with
   | true=>
    have E2:Hid (needF false s'=none):=hbs2.1 rfl
    clear hbs2
    go_wp2
    go_ret
    have h9:=HR2.out
    rw [E2.out]at h9
    exact⟨rfl,h9,HC.out.trans HC2.out (fun _ _ e=>e)⟩
   | false=>exact absurd (hbs2.2 rfl) (by decide)
 ·obtain rfl:B=false:=by rw [← hB];simp;omega
  have hnd:=rneed_any hR false
  clear hR hB
  go_upto_region 3 with(go_at_call 64;refine hnd.mono ?_;rintro e w2 ⟨rfl,hR2,hC2⟩)
  obtain⟨ao2,m2,c2,b2,hb2,_,hbs2,_⟩:=hR2.blk
  have d1:w2.cell? ⟨x,1,none⟩=some (.bool b2):=cells_at hb2 rfl
  have HR2:Hid _:=hR2
  have HC2:Hid _:=hC2
  clear hb2 hR2 hC2 hnd c0
  cases b2 with
  | true=>
   have E2:Hid (needF false s'=none):=hbs2.1 rfl
   clear hbs2
   go_wp2
   go_ret
   have h9:=HR2.out
   rw [E2.out]at h9
   exact⟨rfl,h9,HC.out.trans HC2.out (fun _ _ e=>e)⟩
  | false=>exact absurd (hbs2.2 rfl) (by decide)
theorem rcount_40 {w:World} {x:Nat} {s:RS} (h:Rd w x s):Calls Tryz.prog 67 #[.pointer (some ⟨x,0,none⟩),.int .i64 40] w fun e w'=>e=.returned (.int .i64 (cntF 40 s).1)∧Rd w' x (cntF 40 s).2∧Chg (fun k=>k=x) w w':=rcount_40B (rnumber_any h) rfl
set_option maxRecDepth 20000 in
set_option maxHeartbeats 400000 in
theorem rcount_64B {w:World} {x:Nat} {n:Int} {s':RS} (hnu:Calls Tryz.prog 115 #[.pointer (some ⟨x,0,none⟩)] w fun e w'=>e=.returned (.int .i64 n)∧Rd w' x s'∧Chg (fun k=>k=x) w w') {B:Bool} (hB:(decide (0≤n)&&decide (n≤((lenF s' / 64:Nat):Int)))=B):Calls Tryz.prog 67 #[.pointer (some ⟨x,0,none⟩),.int .i64 64] w fun e w'=>e=.returned (.int .i64 (if needF B s'=none then 0 else n))∧Rd w' x (needF B s')∧Chg (fun k=>k=x) w w':=by
 go_enter Tryz.func67,Tryz.ntmps67
 go_upto_region 2 with(go_at_call 115;refine hnu.mono ?_;rintro e w1 ⟨rfl,hR,hC⟩)
 obtain⟨ao,m,c,b,hb,hm,hbs,hml⟩:=hR.blk
 have c0:w1.cell? ⟨x,0,none⟩=some (.slice ao m c):=cells_at hb rfl
 have HC:Hid _:=hC
 rw [← hm]at hB
 clear hC hb hbs hnu hm
 have hw:wrap64 ((m:Int) / 64)=(m:Int) / 64:=by unfold wrap64;omega
 by_cases hn:0≤n
 ·by_cases hq:n≤(m:Int) / 64
  ·obtain rfl:B=true:=by rw [← hB];simp;omega
   have hd:decide (n≤(m:Int) / 64)=true:=decide_eq_true hq
   have hnd:=rneed_any hR true
   clear hR hB
   go_upto_region 3 with(go_at_call 64;refine hnd.mono ?_;rintro e w2 ⟨rfl,hR2,hC2⟩)
   obtain⟨ao2,m2,c2,b2,hb2,_,hbs2,_⟩:=hR2.blk
   have d1:w2.cell? ⟨x,1,none⟩=some (.bool b2):=cells_at hb2 rfl
   have HR2:Hid _:=hR2
   have HC2:Hid _:=hC2
   clear hb2 hR2 hC2 hnd c0
   cases b2 with
   | true=>
    have E2:Hid (needF true s'=none):=hbs2.1 rfl
    clear hbs2
    go_wp2
    go_ret
    have h9:=HR2.out
    rw [E2.out]at h9
    exact⟨rfl,h9,HC.out.trans HC2.out (fun _ _ e=>e)⟩
   | false=>
    have E2:Hid (¬needF true s'=none):=fun e=>by have:=hbs2.2 e;cases this
    clear hbs2
    go_wp2
    go_ret
    exact⟨rfl,HR2.out,HC.out.trans HC2.out (fun _ _ e=>e)⟩
  ·obtain rfl:B=false:=by rw [← hB];simp;omega
   have hd:decide (n≤(m:Int) / 64)=false:=decide_eq_false hq
   have hnd:=rneed_any hR false
   clear hR hB
   go_upto_region 3 with(go_at_call 64;refine hnd.mono ?_;rintro e w2 ⟨rfl,hR2,hC2⟩)
   obtain⟨ao2,m2,c2,b2,hb2,_,hbs2,_⟩:=hR2.blk
   have d1:w2.cell? ⟨x,1,none⟩=some (.bool b2):=cells_at hb2 rfl
   have HR2:Hid _:=hR2
   have HC2:Hid _:=hC2
   clear hb2 hR2 hC2 hnd c0
   cases b2 with
   | true=>
    have E2:Hid (needF false s'=none):=hbs2.1 rfl
    clear hbs2
    go_wp2
    go_ret
    have h9:=HR2.out
    rw [E2.out]at h9
    exact⟨rfl,h9,HC.out.trans HC2.out (fun _ _ e=>e)⟩
   | false=>exact absurd (hbs2.2 rfl) (by decide)
 ·obtain rfl:B=false:=by rw [← hB];simp;omega
  have hnd:=rneed_any hR false
  clear hR hB
  go_upto_region 3 with(go_at_call 64;refine hnd.mono ?_;rintro e w2 ⟨rfl,hR2,hC2⟩)
  obtain⟨ao2,m2,c2,b2,hb2,_,hbs2,_⟩:=hR2.blk
  have d1:w2.cell? ⟨x,1,none⟩=some (.bool b2):=cells_at hb2 rfl
  have HR2:Hid _:=hR2
  have HC2:Hid _:=hC2
  clear hb2 hR2 hC2 hnd c0
  cases b2 with
  | true=>
   have E2:Hid (needF false s'=none):=hbs2.1 rfl
   clear hbs2
   go_wp2
   go_ret
   have h9:=HR2.out
   rw [E2.out]at h9
   exact⟨rfl,h9,HC.out.trans HC2.out (fun _ _ e=>e)⟩
  | false=>exact absurd (hbs2.2 rfl) (by decide)
theorem rcount_64 {w:World} {x:Nat} {s:RS} (h:Rd w x s):Calls Tryz.prog 67 #[.pointer (some ⟨x,0,none⟩),.int .i64 64] w fun e w'=>e=.returned (.int .i64 (cntF 64 s).1)∧Rd w' x (cntF 64 s).2∧Chg (fun k=>k=x) w w':=rcount_64B (rnumber_any h) rfl
end Go.Proofs.YtceoibfliggalaaGreatDoor
namespace Go.Proofs.YtceoibfliggalaaGreatDoor
open Go.RowKit Wd Tr Cg Ld Lg
theorem ite_yes {c:Prop} [Decidable c] {A B:Prop} (h:c) (a:A):if c then A else B:=by rw [if_pos h];exact a
theorem Rd.lt {w:World} {x:Nat} {s:RS} (h:Rd w x s):x<w.heap.size:=by
 obtain⟨_,_,_,_,hb,_⟩:=h.blk
 exact(Array.getElem?_eq_some_iff.1 hb).1
theorem bl_row {B:Nat} {w W:World} (b:Below B w W) {g:Nat} (hg:B≤g) (cs:Array Value):Below B w (W.setRow g cs):=⟨b.os,b.tape,b.output,Nat.le_trans b.size (by simp [World.setRow]),fun i hi=>(setRow_other W g i cs (by omega)).trans (b.block i hi)⟩
theorem numsF_len:∀(k:Nat) (s:RS),(numsF k s).1.length=k
 | 0,_=>rfl
 | k+1,s=>by simp [numsF,numsF_len k]
theorem numsF_snoc:∀(k:Nat) (s:RS),numsF (k+1) s=((numsF k s).1++ [(numF (numsF k s).2).1],(numF (numsF k s).2).2)
 | 0,_=>rfl
 | k+1,s=>by
  have ih:=numsF_snoc k (numF s).2
  show ((numF s).1::(numsF (k+1) (numF s).2).1,(numsF (k+1) (numF s).2).2)=_
  rw [ih]
  rfl
theorem Tryz.infIz:(Tryz.prog.info? 3).map (fun i=>(i.zero,i.size,i.bytes))=some (some (.int .i64 0),1,8):=by kernel_rfl
theorem madeI (n:Nat):madeCells (Value.int .i64 0).cells (n*1)=(List.replicate n (Value.int .i64 0)).toArray:=by
 rw [show (Value.int .i64 0).cells= #[.int .i64 0]from rfl]
 apply Array.ext
 ·simp [madeCells]
 ·intro k h1 h2
  simp [madeCells,Nat.mod_one]
theorem make_int (w:World) {n:Nat} (hn:n*8≤281474976710656):∃w',(Instr.makeSlice 53 (.int .i64 (n:Int)) (.int .i64 (n:Int))).run Tryz.prog w=.ok (.slice (some ⟨w.heap.size,0,none⟩) n n) w'∧w'.heap[w.heap.size]?=some (.cells (List.replicate n (Value.int .i64 0)).toArray 3 (0,0))∧Below w.heap.size w w'∧w'.heap.size=w.heap.size+1:=by
 obtain⟨i0,hi0,hz0,hz1,hz2⟩:=info_parts Tryz.infIz
 have hmk:=run_make (P:=Tryz.prog) w 53 3 i0 _ Tryz.underlying53 hi0 hz0 .i64 .i64 (n:Int) (n:Int) (by omega) (Int.le_refl _) (by rw [hz2];omega) (by omega)
 simp only [Int.toNat_natCast,hz1]at hmk
 rw [madeI]at hmk
 exact⟨_,hmk,heap_alloc_new w _,(Below.refl _ _).alloc (Nat.le_refl _) _,by simp⟩
def rowI (l:List Int) (k:Nat):List Value:=l.map (Value.int .i64)++List.replicate (k - l.length) (Value.int .i64 0)
theorem rowI_set {l:List Int} {k:Nat} (h:l.length<k) (n:Int):(rowI l k).set l.length (Value.int .i64 n)=rowI (l++ [n]) k:=by
 unfold rowI
 rw [List.set_append_right _ _ (by simp)]
 simp only [List.length_map,Nat.sub_self,List.map_append,List.map_cons,List.map_nil,List.length_append,List.length_cons,List.length_nil,List.append_assoc]
 congr 1
 rw [show k - l.length=(k - (l.length+(0+1)))+1 by omega,List.replicate_succ]
 rfl
set_option maxRecDepth 20000 in
set_option maxHeartbeats 400000 in
theorem rnumbers_any {w:World} {x:Nat} {s:RS} (h:Rd w x s) (q:Nat) (hq:q*8≤281474976710656):Calls Tryz.prog 114 #[.pointer (some ⟨x,0,none⟩),.int .i64 q] w fun e w'=>∃g,e=.returned (.slice (some ⟨g,0,none⟩) q q)∧w.heap.size≤g∧w'.heap[g]?=some (.cells ((numsF q s).1.map (Value.int .i64)).toArray 3 (0,0))∧Rd w' x (numsF q s).2∧Chg (fun k=>k=x) w w':=by
 obtain⟨w1,hmk,hrow,b1,hz1⟩:=make_int w hq
 have hxl:x<w.heap.size:=by
  obtain⟨_,_,_,_,hb,_⟩:=h.blk
  exact(Array.getElem?_eq_some_iff.1 hb).1
 have h1:Rd w1 x s:=h.other (fun k hk=>b1.block k (by omega))
 have HR:Hid _:=h1
 have HW:Hid _:=hrow
 have HB:Hid _:=b1
 clear h h1 hrow b1
 go_enter Tryz.func114,Tryz.ntmps114
 go_wp2
 clear hmk
 go_loopg [6,11] q (fun gk u pk wr=>∃(i:Nat),i+gk=q∧pk=.int .i64 i∧wr.heap[w.heap.size]?=some (.cells (rowI (numsF i s).1 q).toArray 3 (0,0))∧Rd wr x (numsF i s).2∧Chg (fun k=>k=x) w wr)
 case atStart=>exact⟨0,by omega,rfl,by simpa [rowI,numsF]using HW.out,HR.out,Chg.of_below HB.out _⟩
 case round=>
  obtain⟨i,hi,rfl,hG,hR,hC⟩:=hrel
  by_cases hlt:i<q
  ·have hlt':(i:Int)<q:=by omega
   have hnu:=rnumber_any hR
   have hsn:=numsF_snoc i s
   have hln:=numsF_len i s
   have HG:Hid _:=hG
   have HC:Hid _:=hC
   have HSN:Hid _:=hsn
   have HLN:Hid _:=hln
   clear hG hC hR hsn hln
   go_wp2_with (go_at_call 115;refine hnu.mono ?_;rintro e w2 ⟨rfl,hR2,hC2⟩;have hG2:w2.heap[w.heap.size]?=some (.cells (rowI (numsF i s).1 q).toArray 3 (0,0)):=(hC2.block _ (Array.getElem?_eq_some_iff.1 HG.out).1 (by omega)).trans HG.out;have cg:∃v,w2.cell? ⟨w.heap.size,i,none⟩=some v:=⟨_,cells_at hG2 (by rw [List.getElem?_toArray];exact List.getElem?_eq_getElem (by unfold rowI;rw [List.length_append,List.length_map,List.length_replicate,HLN.out];omega))⟩;have fz:w2.frozen? ⟨w.heap.size,i,none⟩=false:=frozen_at hG2;obtain⟨v0,cg⟩:=cg;have HG2:Hid _:=hG2;have HR2:Hid _:=hR2;have HC2:Hid _:=hC2;clear hG2 hR2 hC2)
   go_roundg (q - (i+1))
   case measure=>omega
   case rel=>
    refine⟨i+1,by omega,by go_num,?_,?_,?_⟩
    ·have e:=heap_setCell_same w2 w.heap.size i _ _ (.int .i64 (numF (numsF i s).2).1) HG2.out
     rw [e,HSN.out]
     congr 2
     have:=rowI_set (l:=(numsF i s).1) (k:=q) (by rw [HLN.out];exact hlt) (numF (numsF i s).2).1
     rw [HLN.out]at this
     rw [← this]
     simp
    ·rw [HSN.out]
     exact Rd.other (s:=(numF (numsF i s).2).2) HR2.out (fun k hk=>Below.heap_setCell _ _ _ _ (show k≠w.heap.size by omega))
    ·exact (HC.out.trans HC2.out (fun _ _ e=>e)).trans (K':=fun k=>k=w.heap.size) ⟨rfl,rfl,rfl,by simp [World.setCell],fun j _ hj=>Below.heap_setCell _ _ _ _ hj⟩ (fun j hj e=>by omega)
  ·have hlt':¬(i:Int)<q:=by omega
   obtain rfl:i=q:=by omega
   have e:rowI (numsF i s).1 i=(numsF i s).1.map (Value.int .i64):=by unfold rowI;rw [numsF_len,Nat.sub_self];simp
   rw [e]at hG
   have HG:Hid _:=hG
   have HC:Hid _:=hC
   have HR2:Hid _:=hR
   clear hG hC hR e
   go_wp2
   go_ret
   exact⟨w.heap.size,rfl,Nat.le_refl _,HG.out,HR2.out,HC.out⟩
end Go.Proofs.YtceoibfliggalaaGreatDoor
