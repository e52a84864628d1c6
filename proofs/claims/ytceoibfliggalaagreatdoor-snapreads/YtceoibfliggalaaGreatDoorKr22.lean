/-
  TEXTS: TcA, TcB, TcC.
-/
import Derived.Test.YtceoibfliggalaaGreatDoorKr21
namespace Go.Proofs.YtceoibfliggalaaGreatDoor
open Go.RowKit Wd Tr Cg Ld Lg
structure Rf (W:World) (x:Nat) (s:RS):Prop where
 blk:∃ao m c b,W.heap[x]?=some (.cells #[.slice ao m c,.bool b] 99 (0,0))∧m≤c∧(ao=none→c=0)∧m≤140737488355328∧(b=true↔s=none)∧∀r,s=some r→m=r.length∧BysAt W x ao r
theorem Rf.other {W W':World} {x:Nat} {s:RS} (h:Rf W x s) (b:∀k,k≤x→W'.heap[k]?=W.heap[k]?):Rf W' x s:=by
 obtain⟨ao,m,c,bb,h1,h2,h3,h4,h5,h6⟩:=h.blk
 refine⟨ao,m,c,bb,(b x (Nat.le_refl _)).trans h1,h2,h3,h4,h5,fun r hr=>?_⟩
 obtain⟨e,g,o,p4,p5⟩:=h6 r hr
 refine⟨e,g,o,p4,fun k u hu=>?_⟩
 have h0:0<r.length:=by have:=(List.getElem?_eq_some_iff.1 hu).1;omega
 exact cell_blk (p5 k u hu) (b g (by have:=(p4 h0).2;omega))
theorem Rf.lt {w:World} {x:Nat} {s:RS} (h:Rf w x s):x<w.heap.size:=by
 obtain⟨_,_,_,_,hb,_⟩:=h.blk
 exact(Array.getElem?_eq_some_iff.1 hb).1
set_option maxRecDepth 20000 in
set_option maxHeartbeats 1000000 in
theorem ftake_bad {w:World} {x:Nat} {ao:Option Addr} {m c:Nat} {b:Bool} (h:w.heap[x]?=some (.cells #[.slice ao m c,.bool b] 99 (0,0))) (n:Nat) (hn:b=true∨m<n):Calls Tryz.prog 70 #[.pointer (some ⟨x,0,none⟩),.int .i64 n] w fun e w'=>e=.returned (.slice none 0 0)∧w'.heap[x]?=some (.cells #[.slice ao m c,.bool true] 99 (0,0))∧Chg (fun k=>k=x) w w':=by
 have c0:w.cell? ⟨x,0,none⟩=some (.slice ao m c):=cells_at h rfl
 have c1:w.cell? ⟨x,1,none⟩=some (.bool b):=cells_at h rfl
 have f1:w.frozen? ⟨x,1,none⟩=false:=frozen_at h
 have h1:=heap_setCell_same w x 1 _ _ (.bool true) h
 have H1:Hid _:=h1
 have hn0:¬(n:Int)<0:=by omega
 clear h h1
 cases b with
 | true=>
  clear hn
  go_enter Tryz.func70,Tryz.ntmps70
  go_wp2
  go_ret
  exact⟨rfl,H1.out,⟨rfl,rfl,rfl,by simp [World.setCell],fun i hi hne=>Below.heap_setCell _ _ _ _ hne⟩⟩
 | false=>
  have hm:(m:Int)<n:=by rcases hn with e | e;cases e;omega
  have hg:decide ((n:Int)>m)=true:=decide_eq_true hm
  clear hn
  go_enter Tryz.func70,Tryz.ntmps70
  go_wp2
  go_ret
  exact⟨rfl,H1.out,⟨rfl,rfl,rfl,by simp [World.setCell],fun i hi hne=>Below.heap_setCell _ _ _ _ hne⟩⟩
set_option maxRecDepth 20000 in
set_option maxHeartbeats 1000000 in
theorem ftake_good {w:World} {x:Nat} {ao:Option Addr} {m c:Nat} (h:w.heap[x]?=some (.cells #[.slice ao m c,.bool false] 99 (0,0))) (n:Nat) (hn:n≤m) (hc:m≤c):Calls Tryz.prog 70 #[.pointer (some ⟨x,0,none⟩),.int .i64 n] w fun e w'=>e=.returned (.slice ao n c)∧(∃a',w'.heap[x]?=some (.cells #[.slice a' (m - n) (c - n),.bool false] 99 (0,0))∧(∀ad,ao=some ad→n<c→a'=some (ad.add n))∧(a'=none→ao=none))∧Chg (fun k=>k=x) w w':=by
 have c0:w.cell? ⟨x,0,none⟩=some (.slice ao m c):=cells_at h rfl
 have c1:w.cell? ⟨x,1,none⟩=some (.bool false):=cells_at h rfl
 have f0:w.frozen? ⟨x,0,none⟩=false:=frozen_at h
 have hn0:¬(n:Int)<0:=by omega
 have hn':(n:Int)≤m:=by omega
 have hng:¬(m:Int)<n:=by omega
 have hc':(n:Int)≤c:=by omega
 have hmc':(m:Int)≤c:=by omega
 have H:Hid _:=h
 clear h
 by_cases hcn:c=n
 ·obtain rfl:m=n:=by omega
  subst hcn
  have h1:=heap_setCell_same w x 0 _ _ (.slice ao 0 0) H.out
  have H1:Hid _:=h1
  clear h1
  go_enter Tryz.func70,Tryz.ntmps70
  go_wp2
  go_ret
  refine⟨rfl,⟨ao,H1.out,fun h=>h⟩,⟨rfl,rfl,rfl,by simp [World.setCell],fun i hi hne=>Below.heap_setCell _ _ _ _ hne⟩⟩
 ·have h1:=heap_setCell_same w x 0 _ _ (.slice (ao.map fun x=>x.add n) (m - n) (c - n)) H.out
  have H1:Hid _:=h1
  clear h1
  go_enter Tryz.func70,Tryz.ntmps70
  go_wp2
  go_ret
  refine⟨rfl,⟨_,H1.out,fun ad e _=>by rw [e];rfl,fun h=>by cases ao with | none=>rfl | some a=>cases h⟩,⟨rfl,rfl,rfl,by simp [World.setCell],fun i hi hne=>Below.heap_setCell _ _ _ _ hne⟩⟩
def TakP (x n:Nat) (s:RS) (w:World) (e:Ending) (w':World):Prop:=∃ao c,e=.returned (.slice ao (bytF n s).1.length c)∧BysAt w' x ao (bytF n s).1∧Rf w' x (bytF n s).2∧Chg (fun k=>k=x) w w'
theorem ftake_any {w:World} {x:Nat} {s:RS} (h:Rf w x s) (n:Nat):Calls Tryz.prog 70 #[.pointer (some ⟨x,0,none⟩),.int .i64 n] w (TakP x n s w):=by
 obtain⟨ao,m,c,b,h1,h2,h3,h4,h5,h6⟩:=h.blk
 cases s with
 | none=>
  obtain rfl:b=true:=h5.2 rfl
  exact(ftake_bad h1 n (.inl rfl)).mono fun e w' k=>⟨none,0,k.1,BysAt.none _ _ _,⟨ao,m,c,true,k.2.1,h2,h3,h4,h5,nofun⟩,k.2.2⟩
 | some r=>
  obtain rfl:b=false:=by cases b with | false=>rfl | true=>exact absurd (h5.1 rfl) nofun
  obtain⟨rfl,hB⟩:=h6 r rfl
  by_cases hn:n≤r.length
  ·have e:bytF n (some r)=(r.take n,some (r.drop n)):=if_pos hn
   refine(ftake_good h1 n hn h2).mono ?_
   rintro e' w' ⟨rfl,⟨a',k1,k2,k3⟩,hC⟩
   refine⟨ao,c,?_,?_,?_,hC⟩
   ·rw [e,List.length_take,Nat.min_eq_left hn]
   ·rw [e]
    exact(hB.keep hC).take
   ·rw [e]
    refine⟨a',r.length - n,c - n,false,k1,by omega,fun h=>by have:=h3 (k3 h);omega,by omega,by simp,fun r' hr'=>?_⟩
    cases hr'
    refine⟨by rw [List.length_drop],?_⟩
    by_cases h0:0<r.length
    ·obtain ⟨g,o,p1,p2⟩:=hB
     have ea:=(p1 h0).1
     subst ea
     refine BysAt.drop (BysAt.keep ⟨g,o,p1,p2⟩ hC) h0 (fun hl=>?_)
     rw [k2 _ rfl (by omega)]
     unfold Addr.add
     split<;>simp_all
    ·have e0:r.drop n= []:=List.drop_of_length_le (by omega)
     rw [e0]
     exact BysAt.none _ _ _
  ·have e:bytF n (some r)=([],none):=if_neg hn
   refine(ftake_bad h1 n (.inr (by omega))).mono ?_
   rintro e' w' ⟨rfl,k1,k2⟩
   unfold TakP
   rw [e]
   exact⟨none,0,rfl,BysAt.none _ _ _,⟨ao,r.length,c,true,k1,h2,h3,h4,by simp,nofun⟩,k2⟩
end Go.Proofs.YtceoibfliggalaaGreatDoor
namespace Go.Proofs.YtceoibfliggalaaGreatDoor
open Go.RowKit Wd Tr Cg Ld Lg
theorem or_byteU (n:Int) (b:Nat) (hb:b<256):bits .or .u64 (n*256 % 18446744073709551616) ((b:Int) % 18446744073709551616)=n*256 % 18446744073709551616+(b:Int):=by
 have e:(b:Int) % 18446744073709551616=b:=by omega
 have h1:(n*256 % 18446744073709551616) % 256=0:=by omega
 have h2:0≤n*256 % 18446744073709551616∧n*256 % 18446744073709551616<18446744073709551616:=by omega
 rw [e]
 generalize n*256 % 18446744073709551616=a at *
 show IntKind.u64.wrap ((BitVec.ofInt 64 a ||| BitVec.ofInt 64 (b:Int)).toNat:Int)=_
 rw [BitVec.toNat_or,BitVec.toNat_ofInt,BitVec.toNat_ofInt]
 have eb:((b:Int) % ((2^64:Nat):Int)).toNat=b:=by omega
 obtain⟨q,hq⟩:∃q,(a % ((2^64:Nat):Int)).toNat=2^8*q:=⟨(a % ((2^64:Nat):Int)).toNat / 256,by omega⟩
 rw [eb,hq,←Nat.two_pow_add_eq_or_of_lt (show b<2^8 from hb),←hq,IntKind.wrap_u64]
 omega
theorem numGo_r64:∀(l:List UInt8) (a:Int), -9223372036854775808≤a∧a≤9223372036854775807→ -9223372036854775808≤numGo l a∧numGo l a≤9223372036854775807
 | [],_,h=>h
 | b::l,a,_=>numGo_r64 l _ (by have:=b.toNat_lt;unfold wrap64;omega)
def wrdV (s:RS):Int:=(numF s).1 % 18446744073709551616
set_option maxRecDepth 20000 in
set_option maxHeartbeats 400000 in
theorem fword_any {w:World} {x:Nat} {s:RS} (h:Rf w x s):Calls Tryz.prog 116 #[.pointer (some ⟨x,0,none⟩)] w fun e w'=>e=.returned (.int .u64 (wrdV s))∧Rf w' x (numF s).2∧Chg (fun k=>k=x) w w':=by
 have hby:=ftake_any h 8
 clear h
 unfold wrdV numF
 unfold TakP at hby
 have hbl:=bytF_len 8 s
 generalize bytF 8 s=r at *
 obtain⟨l,s'⟩:=r
 simp only at hby hbl ⊢
 obtain⟨m,hm⟩:∃m,l.length=m:=⟨_,rfl⟩
 rw [hm]at hby hbl
 have HM:Hid _:=hm
 clear hm
 go_enter Tryz.func116,Tryz.ntmps116
 go_wp2_with (go_at_call 70;refine hby.mono ?_;rintro e w1 ⟨ao,c,rfl,hB,hR,hC⟩)
 have HB:Hid _:=hB
 have HR:Hid _:=hR
 have HC:Hid _:=hC
 clear hB hR hC hby
 go_loopg [4,5] m (fun gk u pk wr=>∃(i:Nat),i+gk=m∧pk=.int .i64 i∧u=.int .u64 (numGo (l.take i) 0 % 18446744073709551616)∧w1=wr)
 case atStart=>exact⟨0,by omega,rfl,rfl,rfl⟩
 case round=>
  obtain⟨i,hi,rfl,rfl,rfl⟩:=hrel
  by_cases hlt:i<m
  ·have hlt':(i:Int)<m:=by omega
   obtain⟨b,hb⟩:∃b,l[i]?=some b:=⟨_,List.getElem?_eq_getElem (by rw [HM.out];exact hlt)⟩
   obtain⟨g,o,h1,h2⟩:=HB.out
   obtain rfl:=(h1 (by rw [HM.out];omega)).1
   have c0:=h2 i b hb
   have en:numGo (l.take (i+1)) 0 % 18446744073709551616=(numGo (l.take i) 0 % 18446744073709551616)*256 % 18446744073709551616+(b.toNat:Int):=by
    rw [List.take_add_one,hb,Option.toList_some,numGo_app]
    show (wrap64 (numGo (l.take i) 0*256)+(b.toNat:Int)) % 18446744073709551616=_
    have:=b.toNat_lt
    unfold wrap64
    omega
   generalize numGo (l.take i) 0 % 18446744073709551616=n at *
   have ho:=or_byteU n b.toNat b.toNat_lt
   have HE:Hid _:=en
   clear h1 h2 hb en
   go_wp2
   go_roundg (m - (i+1))
   case measure=>omega
   case rel=>exact⟨i+1,by omega,by go_num,by rw [HE.out,←ho];simp only [IntKind.wrap_u64],rfl⟩
  ·have hlt':¬(i:Int)<m:=by omega
   obtain rfl:i=m:=by omega
   rw [List.take_of_length_le (by rw [HM.out];exact Nat.le_refl _)]
   go_wp2
   go_ret
   exact⟨rfl,HR.out,HC.out⟩
theorem numF_rng (s:RS): -9223372036854775808≤(numF s).1∧(numF s).1≤9223372036854775807:=numGo_r64 _ _ (by omega)
set_option maxRecDepth 20000 in
set_option maxHeartbeats 400000 in
theorem fint_any {w:World} {x:Nat} {s:RS} (h:Rf w x s):Calls Tryz.prog 71 #[.pointer (some ⟨x,0,none⟩)] w fun e w'=>e=.returned (.int .i64 (numF s).1)∧Rf w' x (numF s).2∧Chg (fun k=>k=x) w w':=by
 have hwd:=fword_any h
 have hr:=numF_rng s
 have hx:wrap64 (wrdV s)=(numF s).1:=by unfold wrdV wrap64;omega
 generalize wrdV s=v at *
 generalize numF s=r at *
 obtain⟨n,s'⟩:=r
 simp only at hwd hx ⊢
 subst hx
 clear h hr
 go_enter Tryz.func71,Tryz.ntmps71
 go_wp2_with (go_at_call 116;refine hwd.mono ?_;rintro e w1 ⟨rfl,hR,hC⟩;have HR:Hid _:=hR;have HC:Hid _:=hC;clear hR hC)
 go_ret
 exact⟨rfl,HR.out,HC.out⟩
end Go.Proofs.YtceoibfliggalaaGreatDoor
namespace Go.Proofs.YtceoibfliggalaaGreatDoor
open Go.RowKit Wd Tr Cg Ld Lg
theorem numF_none {s:RS} (h:(numF s).2=none):(numF s).1=0:=by
 unfold numF at h ⊢
 simp only at h ⊢
 cases s with
 | none=>rfl
 | some r=>
  unfold bytF at h ⊢
  simp only at h ⊢
  split at h
  ·cases h
  ·rename_i hn
   rw [if_neg hn]
   rfl
set_option maxRecDepth 20000 in
set_option maxHeartbeats 1000000 in
theorem fmany_any {w:World} {x:Nat} {s:RS} (h:Rf w x s) {k:Nat} (hk:0<k∧k≤64):Calls Tryz.prog 72 #[.pointer (some ⟨x,0,none⟩),.int .i64 k] w fun e w'=>e=.returned (.int .i64 (cntF k s).1)∧Rf w' x (cntF k s).2∧Chg (fun k=>k=x) w w':=by
 have hnu:=fint_any h
 have hnn:=numF_none (s:=s)
 have hrg:=numF_rng s
 unfold cntF cntB
 generalize numF s=r at *
 obtain⟨n,s'⟩:=r
 simp only at hnu hnn hrg ⊢
 clear h
 have hk0:¬(k:Int)=0:=by omega
 obtain⟨S,hS⟩:∃S,needF (decide (0≤n)&&decide (n≤((lenF s' / k:Nat):Int))) s'=S:=⟨_,rfl⟩
 rw [hS]
 obtain⟨V,hV⟩:∃V:Int,(if S=none then 0 else n)=V:=⟨_,rfl⟩
 rw [hV]
 go_enter Tryz.func72,Tryz.ntmps72
 go_upto_region 2 with(go_at_call 71;refine hnu.mono ?_;rintro e w1 ⟨rfl,hR,hC⟩)
 obtain⟨ao,m,c,b,hb,p2,p3,p4,p5,p6⟩:=hR.blk
 have HC:Hid _:=hC
 have c0:w1.cell? ⟨x,0,none⟩=some (.slice ao m c):=cells_at hb rfl
 have c1:w1.cell? ⟨x,1,none⟩=some (.bool b):=cells_at hb rfl
 have f1:w1.frozen? ⟨x,1,none⟩=false:=frozen_at hb
 have h1:=heap_setCell_same w1 x 1 _ _ (.bool true) hb
 have H1:Hid _:=h1
 have hl9:lenF s'=m∨s'=none:=by
  cases s' with
  | none=>exact .inr rfl
  | some r=>exact .inl ((p6 r rfl).1.symm)
 obtain⟨q,hq⟩:∃q:Nat,m / k=q:=⟨_,rfl⟩
 have hqm:q≤m:=by rw [← hq];exact Nat.div_le_self m k
 have hqi:(m:Int) / k=q:=by rw [← hq];rfl
 have hw:wrap64 (q:Int)=q:=by unfold wrap64;omega
 have HR:Hid (Rf w1 x s'):=⟨⟨ao,m,c,b,hb,p2,p3,p4,p5,p6⟩⟩
 by_cases hgood:0≤n∧n≤q
 ·obtain ⟨hn0,hn1⟩:=hgood
  have hn0':¬n<0:=by omega
  have hn1':¬n>q:=by omega
  have HE:Hid (S=s'∧V=n):=by
   have hs:S=s':=by
    rw [← hS]
    rcases hl9 with e | e
    ·rw [e,hq,decide_eq_true hn0,decide_eq_true hn1]
     rfl
    ·subst e
     unfold needF
     split<;>rfl
   refine⟨hs,?_⟩
   rw [← hV,hs]
   split
   ·rename_i h
    exact(hnn h).symm
   ·rfl
  clear hb h1 hnu p2 p3 p4 p5 p6 hC hS hV hl9 hnn
  go_wp2
  go_ret
  exact⟨by rw [HE.out.2];rfl,by rw [HE.out.1];exact HR.out,HC.out⟩
 ·have hsn:s'≠none:=fun e=>hgood (by rw [hnn e];omega)
  have hlm:lenF s'=m:=by rcases hl9 with e | e;exact e;exact absurd e hsn
  have HE:Hid (S=none∧V=0):=by
   have hs:S=none:=by
    rw [← hS,hlm,hq]
    have:(decide (0≤n)&&decide (n≤(q:Int)))=false:=by simp;omega
    rw [this]
    rfl
   exact⟨hs,by rw [← hV,hs,if_pos rfl]⟩
  have HX:Hid (Rf (w1.setCell ⟨x,1,none⟩ (.bool true)) x none):=⟨⟨ao,m,c,true,h1,p2,p3,p4,by simp,nofun⟩⟩
  clear hb h1 hnu p2 p3 p4 p5 p6 hC hS hV hl9 hnn
  by_cases hn0:n<0
  ·go_wp2
   go_ret
   exact⟨by rw [HE.out.2];rfl,by rw [HE.out.1];exact HX.out,HC.out.trans ⟨rfl,rfl,rfl,by simp [World.setCell],fun i hi hne=>Below.heap_setCell _ _ _ _ hne⟩ (fun _ _ e=>e)⟩
  ·have hn1:n>q:=by omega
   go_wp2
   go_ret
   exact⟨by rw [HE.out.2];rfl,by rw [HE.out.1];exact HX.out,HC.out.trans ⟨rfl,rfl,rfl,by simp [World.setCell],fun i hi hne=>Below.heap_setCell _ _ _ _ hne⟩ (fun _ _ e=>e)⟩
end Go.Proofs.YtceoibfliggalaaGreatDoor
