/-
  TEXTS: SpD, TaA, TaB, TaC.
-/
import Derived.Test.YtceoibfliggalaaGreatDoorKw15
import Derived.Test.YtceoibfliggalaaGreatDoorKw16
import Derived.Test.YtceoibfliggalaaGreatDoorKw20
import Derived.Test.YtceoibfliggalaaGreatDoorKw17
import Derived.ArgAppend
import Derived.Lib.AppendStr
namespace Go.Proofs.YtceoibfliggalaaGreatDoor
open Go.RowKit Wd Tr Cg Lg
def u8s (l:List UInt8):List Value:=l.map fun b=>Value.int .u8 (b.toNat:Int)
theorem u8s_len (l:List UInt8):(u8s l).length=l.length*1:=by simp [u8s]
theorem u8s_one (l:List UInt8):∀u∈u8s l,u.oneCell'=true:=by
 intro u hu
 obtain⟨x,_,rfl⟩:=List.mem_map.1 hu
 rfl
theorem u8s_app (a b:List UInt8):u8s (a++b)=u8s a++u8s b:=by unfold u8s;rw [List.map_append]
def BytAt (W:World) (ao:Option Addr) (r:List UInt8):Prop:=∃g o,(0<r.length→ao=some ⟨g,o,none⟩)∧∀k b,r[k]?=some b→W.cell? ⟨g,o+k,none⟩=some (.int .u8 (b.toNat:Int))
theorem BytAt.below {W W':World} {ao:Option Addr} {r:List UInt8} (h:BytAt W ao r) (b:Below W.heap.size W W'):BytAt W' ao r:=by
 obtain⟨g,o,h1,h2⟩:=h
 exact⟨g,o,h1,fun k u hu=>cellB b (h2 k u hu)⟩
theorem byt_flat {W:World} {ao:Option Addr} {l:List UInt8} (h:BytAt W ao l):∀ad,ao=some ad→∀j u,(u8s l)[j]?=some u→W.cell? (ad.add j)=some u:=by
 intro ad had j u hu
 obtain⟨g,o,h1,h2⟩:=h
 unfold u8s at hu
 rw [List.getElem?_map]at hu
 cases hx:l[j]? with
 | none=>rw [hx]at hu;cases hu
 | some x=>
  rw [hx]at hu
  cases hu
  have hp:0<l.length:=by have:=(List.getElem?_eq_some_iff.1 hx).1;omega
  rw [h1 hp]at had
  cases had
  have:=h2 j x hx
  rwa [Addr.add_lit]
end Go.Proofs.YtceoibfliggalaaGreatDoor
namespace Go.Proofs.YtceoibfliggalaaGreatDoor
open Go.RowKit Wd Tr Cg Lg
structure Gr (w w':World) (v v':Value):Prop where
 g:w.grownBy w' v.ownBlock
 o:v'.ownBlock=v.ownBlock∨∃k,v'.ownBlock=some k∧w.heap.size≤k
theorem Gr.refl (w:World) (v:Value):Gr w w v v:=⟨⟨rfl,rfl,rfl,Nat.le_refl _,fun _ _ _=>rfl⟩,.inl rfl⟩
theorem Gr.trans {w w1 w2:World} {v v1 v2:Value} (a:Gr w w1 v v1) (b:Gr w1 w2 v1 v2):Gr w w2 v v2:=by
 refine⟨⟨b.g.os.trans a.g.os,b.g.tape.trans a.g.tape,b.g.output.trans a.g.output,Nat.le_trans a.g.size b.g.size,fun i hi hne=>?_⟩,?_⟩
 ·refine (b.g.block i (Nat.lt_of_lt_of_le hi a.g.size) fun e=>?_).trans (a.g.block i hi hne)
  rcases a.o with h | ⟨k,h,hk⟩
  ·exact hne (e.trans h)
  ·rw [h]at e
   cases e
   omega
 ·rcases b.o with h | ⟨k,h,hk⟩
  ·rcases a.o with h' | ⟨k',h',hk'⟩
   ·exact .inl (h.trans h')
   ·exact .inr ⟨k',h.trans h',hk'⟩
  ·exact .inr ⟨k,h,Nat.le_trans a.g.size hk⟩
theorem Gr.below {w w':World} {v v':Value} {B:Nat} (h:Gr w w' v v') (hB:B≤w.heap.size) (hv:∀k,v.ownBlock=some k→B≤k):Below B w w':=⟨h.g.os,h.g.tape,h.g.output,h.g.size,fun i hi=>h.g.block i (by omega) (fun e=>by have:=hv i e.symm;omega)⟩
def OwB (w:World) (B:Nat) (v:Value) (r:List UInt8):Prop:=w.ownsRow B 5 1 v r.length (u8s r)
def Ful (w:World) (v:Value) (r:List UInt8):Prop:=∃g:Nat,v=.slice (some ⟨g,0,none⟩) r.length r.length∧g<w.heap.size∧BytAt w (some ⟨g,0,none⟩) r
def Src (w:World) (B:Nat) (v:Value) (r:List UInt8):Prop:=OwB w B v r∨Ful w v r
theorem Src.low {w:World} {B:Nat} {v:Value} {r:List UInt8} (h:Src w B v r):∀k,v.ownBlock=some k→k<w.heap.size:=by
 intro k hk
 rcases h with h | ⟨g,rfl,hg,_⟩
 ·exact (World.ownsRow.lt h k hk).2
 ·cases hk
  exact hg
theorem Src.alloc {w w':World} {B:Nat} {v:Value} {r:List UInt8} (h:Src w B v r) (b:Below w.heap.size w w'):Src w' B v r:=by
 rcases h with h | ⟨g,e,hg,hb⟩
 ·exact .inl (row_stand h (fun k hk=>b.block k (World.ownsRow.lt h k hk).2))
 ·exact .inr ⟨g,e,Nat.lt_of_lt_of_le hg b.size,hb.below b⟩
theorem wp_app_src {P:Program} {w:World} {ops:Array Oper} {rest:List Oper} {o:Oper} {a:Act} {Q:Exit→Act→World→Prop} (hgd:o.guard=none) (s x:Operand) (t:TypeId) (ho:o.op=.call {callee:=.builtin .append,args:= #[s,x],argTypes:= #[t,t]})
  (B:Nat) (i:TypeInfo) (ht:P.underlying t=some (.slice 5)) (hi:P.info? 5=some i) (hz:i.zero=some (.int .u8 0)) (hsize:i.size=1) (hby:i.bytes=1)
  (v:Value) (r bs:List UInt8) (hs:a.eval s=v) (hsrc:Src w B v r) (ad:Addr) (c:Nat) (hx:a.eval x=.slice (some ad) bs.length c) (hb0:0<bs.length) (hnews:∀j u,(u8s bs)[j]?=some u→w.cell? (ad.add j)=some u)
  (hl:r.length+bs.length≤140737488355328) (hB:B≤w.heap.size)
  (h:∀v' w',OwB w' B v' (r++bs)→Gr w w' v v'→wpList P ops Q rest (a.put o.dst v') w'):wpList P ops Q (o::rest) a w:=by
 have hm:r.length+bs.length≤maxLen:=Nat.le_trans hl (by decide)
 rcases hsrc with hown | ⟨g,rfl,hg,g',o',h1,h2⟩
 ·refine wpList_append_mv hgd s x t ho B 5 i _ 1 1 ht hi hz hsize hby rfl (by decide) v r.length (u8s r) hs hown (some ad) bs.length c (u8s bs) hx (fun e=>by cases e) (u8s_len bs) (fun ad' e=>by cases e;exact hnews) (u8s_one bs) hm (by omega) hB ?_
  intro v' w' o2 g2 m2
  refine h v' w' (by show World.ownsRow _ _ _ _ _ _ _;rw [List.length_append,u8s_app];exact o2) ⟨g2,m2.imp id fun e=>⟨_,e,Nat.le_refl _⟩⟩
 ·have holds:∀j u,(u8s r)[j]?=some u→w.cell? ⟨g,0+j,none⟩=some u:=fun j u hu=>by
   have:=byt_flat (W:=w) (ao:=some ⟨g,0,none⟩) (l:=r) ⟨g',o',h1,h2⟩ ⟨g,0,none⟩ rfl j u hu
   rwa [Addr.add_lit]at this
  refine wpList_append_arg w hgd s x t ho 5 i _ 1 1 ht hi hz hsize hby rfl (by decide) g 0 r.length r.length (u8s r) hs (u8s_len r) holds ad bs.length c (u8s bs) hx (u8s_len bs) hnews (u8s_one bs) (fun e=>by omega) hm (by omega) (fun e=>by omega) ?_
  intro _ v' w' o2 g2
  refine h v' w' ?_ ⟨⟨g2.os,g2.tape,g2.output,g2.size,fun k hk _=>g2.block k hk (by simp)⟩,?_⟩
  ·show World.ownsRow _ _ _ _ _ _ _
   rw [List.length_append,u8s_app]
   exact o2.mono hB
  ·rcases o2.2 with⟨_,e⟩ | ⟨g2',cap,cur,e,hb,_⟩
   ·omega
   ·exact .inr ⟨g2',by rw [e];rfl,hb⟩
theorem gr_alloc {w w':World} (b:Below w.heap.size w w') (v:Value):Gr w w' v v:=⟨⟨b.os,b.tape,b.output,b.size,fun i hi _=>b.block i hi⟩,.inl rfl⟩
theorem be_at (n:Int) (i:Nat) (hi:i<8):(be8 n)[i]?=some (byU n (7 - i)):=by
 obtain rfl | rfl | rfl | rfl | rfl | rfl | rfl | rfl:i=0∨i=1∨i=2∨i=3∨i=4∨i=5∨i=6∨i=7:=by omega
 all_goals rfl
theorem top_byte (n:Int) (i:Nat) (hi:i<8):(n*256^i % 18446744073709551616) / 72057594037927936 % 256=((byU n (7 - i)).toNat:Int):=by
 rw [byU_nat]
 obtain rfl | rfl | rfl | rfl | rfl | rfl | rfl | rfl:i=0∨i=1∨i=2∨i=3∨i=4∨i=5∨i=6∨i=7:=by omega
 ·rw [show (256:Int)^0=1 by decide,show (2:Int)^(8*(7 - 0))=72057594037927936 by decide];omega
 ·rw [show (256:Int)^1=256 by decide,show (2:Int)^(8*(7 - 1))=281474976710656 by decide];omega
 ·rw [show (256:Int)^2=65536 by decide,show (2:Int)^(8*(7 - 2))=1099511627776 by decide];omega
 ·rw [show (256:Int)^3=16777216 by decide,show (2:Int)^(8*(7 - 3))=4294967296 by decide];omega
 ·rw [show (256:Int)^4=4294967296 by decide,show (2:Int)^(8*(7 - 4))=16777216 by decide];omega
 ·rw [show (256:Int)^5=1099511627776 by decide,show (2:Int)^(8*(7 - 5))=65536 by decide];omega
 ·rw [show (256:Int)^6=281474976710656 by decide,show (2:Int)^(8*(7 - 6))=256 by decide];omega
 ·rw [show (256:Int)^7=72057594037927936 by decide,show (2:Int)^(8*(7 - 7))=1 by decide];omega
set_option maxRecDepth 20000 in
set_option maxHeartbeats 1000000 in
theorem fnumber_any {w:World} {B:Nat} {v:Value} {r:List UInt8} (n:Int) (h:Src w B v r) (hB:B≤w.heap.size) (hl:r.length+8≤140737488355328):
  Calls Tryz.prog 62 #[v,.int .u64 (n % 18446744073709551616)] w fun e w'=>∃v',e=.returned v'∧OwB w' B v' (r++be8 n)∧Gr w w' v v':=by
 obtain⟨i0,hi0,hz00,hz01,hz02⟩:=info_parts Tryz.infBz
 have HB:Hid (B≤w.heap.size):=hB
 have HO:Hid (Src w B v r):=h
 clear h hB
 go_enter Tryz.func62,Tryz.ntmps62
 go_wp2
 go_loopg [0,1,5] 8 (fun gk pv pn pk wr=>∃(i:Nat),i+gk=8∧pk=.int .i64 i∧pn=.int .u64 (n*256^i % 18446744073709551616)∧Src wr B pv (r++(be8 n).take i)∧(i=8→OwB wr B pv (r++(be8 n).take i))∧Gr w wr v pv)
 case atStart=>exact⟨0,by omega,rfl,by rw [Int.pow_zero,Int.mul_one],by rw [List.take_zero,List.append_nil];exact HO.out,(fun e=>by cases e),Gr.refl _ _⟩
 case round=>
  obtain⟨i,hi,rfl,rfl,ho,h8,hg⟩:=hrel
  by_cases hlt:i<8
  ·have hlt':(i:Int)<8:=by omega
   have HT:Hid _:=top_byte n i hlt
   have HBE:Hid _:=be_at n i hlt
   have HM:Hid (n*256^(i+1) % 18446744073709551616=(n*256^i % 18446744073709551616)*256 % 18446744073709551616):=(show _=_ from by rw [Int.pow_succ,←Int.mul_assoc];omega)
   have HTK:Hid ((be8 n).take (i+1)=(be8 n).take i++ [byU n (7 - i)]):=(show _=_ from by rw [List.take_add_one,be_at n i hlt];rfl)
   generalize n*256^i % 18446744073709551616=m at *
   obtain⟨rr,hrr⟩:∃rr,r++(be8 n).take i=rr:=⟨_,rfl⟩
   have hrl:rr.length=r.length+i:=by rw [← hrr,List.length_append,List.length_take,be8_len];omega
   have HRR:Hid (r++(be8 n).take (i+1)=rr++ [byU n (7 - i)]):=(show _=_ from by rw [HTK.out,←List.append_assoc,hrr])
   rw [hrr]at ho
   have HG:Hid (Gr w wr v u0):=hg
   obtain⟨W1,hW1⟩:∃W1,wr.alloc (.cells #[.int .u8 (m / 72057594037927936 % 256)] 5)=W1:=⟨_,rfl⟩
   have b1:Below wr.heap.size wr W1:=by rw [← hW1];exact(Below.refl _ wr).alloc (Nat.le_refl _) _
   have HB1:Hid (Below wr.heap.size wr W1):=b1
   have HR1:Hid (Src W1 B u0 rr):=ho.alloc b1
   have HBW:Hid (B≤W1.heap.size):=Nat.le_trans HB.out (Nat.le_trans hg.g.size b1.size)
   have HCE:Hid (∀j u,(u8s [byU n (7 - i)])[j]?=some u→W1.cell? ((⟨wr.heap.size,0,none⟩:Addr).add j)=some u):=by
    intro j u hu
    rw [Addr.add_lit,Nat.zero_add,←hW1]
    refine cells_at (heap_alloc_new wr _) ?_
    rw [show u8s [byU n (7 - i)]= [Value.int .u8 ((byU n (7 - i)).toNat:Int)]from rfl,←HT.out]at hu
    simpa using hu
   have hlen1:rr.length+1≤140737488355328:=by omega
   clear hrr ho hg b1 hrl h8
   go_upto_region 5 with(at_builtin;refine wp_app_src rfl (.tmp 10) (.tmp 14) 35 rfl B i0 Tryz.underlying35 hi0 hz00 hz01 hz02 u0 rr [byU n (7 - i)] rfl HR1.out ⟨wr.heap.size,0,none⟩ 1 rfl (Nat.succ_pos _) HCE.out hlen1 HBW.out ?_;intro v2 w2 o2 g2;have HO2:Hid (OwB w2 B v2 (rr++ [byU n (7 - i)])):=o2;have HG2:Hid (Gr w w2 v v2):=HG.out.trans ((gr_alloc HB1.out u0).trans g2);clear o2 g2)
   clear hW1
   go_wp2
   go_roundg (8 - (i+1))
   case measure=>omega
   case rel=>exact⟨i+1,by omega,rfl,by rw [HM.out];rfl,by rw [HRR.out];exact .inl HO2.out,(fun _=>by rw [HRR.out];exact HO2.out),HG2.out⟩
  ·obtain rfl:i=8:=by omega
   have h8:=h8 rfl
   rw [show (be8 n).take 8=be8 n from rfl]at h8
   have HO1:Hid (OwB wr B u0 (r++be8 n)):=h8
   have HG:Hid (Gr w wr v u0):=hg
   clear ho hg h8
   go_wp2
   go_ret
   exact⟨u0,rfl,HO1.out,HG.out⟩
end Go.Proofs.YtceoibfliggalaaGreatDoor
namespace Go.Proofs.YtceoibfliggalaaGreatDoor
open Go.RowKit Wd Tr Cg Lg
theorem Gr.ints {w w':World} {v v':Value} {ao:Option Addr} {l:List Int} (h:Gr w w' v v') (hA:IntsAt w ao l) (hne:∀g o s,ao=some ⟨g,o,s⟩→0<l.length→v.ownBlock≠some g):IntsAt w' ao l:=by
 obtain⟨g,o,h1,h2⟩:=hA
 refine⟨g,o,h1,fun k n hn=>?_⟩
 have hp:0<l.length:=by have:=(List.getElem?_eq_some_iff.1 hn).1;omega
 have hc:=h2 k n hn
 have hlt:=World.block_lt_of_cell? w _ hc
 have hb:=h.g.block g hlt (fun e=>hne g o none (h1 hp) hp e.symm)
 unfold World.cell? at hc ⊢
 rw [hb]
 exact hc
theorem nums_take {l:List Int} {i:Nat} {n:Int} (h:l[i]?=some n):numsB (l.take (i+1))=numsB (l.take i)++be8 n:=by
 obtain⟨hi,rfl⟩:=List.getElem?_eq_some_iff.1 h
 rw [List.take_succ_eq_append_getElem hi,nums_app]
 congr 1
set_option maxRecDepth 20000 in
set_option maxHeartbeats 1000000 in
theorem fnumbers_any {w:World} {B:Nat} {v:Value} {r:List UInt8} {ao:Option Addr} {l:List Int} {c:Nat} (h:Src w B v r) (hB:B≤w.heap.size) (hA:IntsAt w ao l) (hne:∀g o s,ao=some ⟨g,o,s⟩→0<l.length→v.ownBlock≠some g) (hpos:0<l.length∨OwB w B v r) (hll:l.length*8≤140737488355328) (hl:r.length+l.length*8≤140737488355328):
  Calls Tryz.prog 61 #[v,.slice ao l.length c] w fun e w'=>∃v',e=.returned v'∧OwB w' B v' (r++numsB l)∧Gr w w' v v':=by
 have HB:Hid (B≤w.heap.size):=hB
 have HO:Hid (Src w B v r):=h
 have HAT:Hid (∀ {x:World} {u:Value},Gr w x v u→IntsAt x ao l):=fun g=>g.ints hA hne
 have HPO:Hid (0<l.length∨OwB w B v r):=hpos
 obtain⟨q,hq⟩:∃q,l.length=q:=⟨_,rfl⟩
 have HQ:Hid (l.length=q):=hq
 rw [hq]at hl hll ⊢
 clear h hB hA hne hq hpos
 go_enter Tryz.func61,Tryz.ntmps61
 go_wp2
 go_loopg [0,5] q (fun gk pv pk wr=>∃(i:Nat),i+gk=q∧pk=.int .i64 i∧Src wr B pv (r++numsB (l.take i))∧(0<i∨OwB w B v r→OwB wr B pv (r++numsB (l.take i)))∧Gr w wr v pv)
 case atStart=>exact⟨0,by omega,rfl,by rw [List.take_zero,show numsB []= []from rfl,List.append_nil];exact HO.out,(fun e=>by rw [List.take_zero,show numsB []= []from rfl,List.append_nil];exact e.resolve_left (Nat.lt_irrefl 0)),Gr.refl _ _⟩
 case round=>
  obtain⟨i,hi,rfl,ho,h8,hg⟩:=hrel
  by_cases hlt:i<q
  ·have hlt':(i:Int)<q:=by omega
   obtain⟨n,hn⟩:∃n,l[i]?=some n:=⟨_,List.getElem?_eq_getElem (by rw [HQ.out];exact hlt)⟩
   obtain⟨g,o,h1,h2⟩:=HAT.out hg
   have e1:=h1 (by rw [HQ.out];omega)
   subst e1
   have d0:=h2 i n hn
   have HTK:Hid (numsB (l.take (i+1))=numsB (l.take i)++be8 n):=nums_take hn
   obtain⟨rr,hrr⟩:∃rr,r++numsB (l.take i)=rr:=⟨_,rfl⟩
   have hrl:rr.length=r.length+i*8:=by rw [← hrr,List.length_append,nums_len,List.length_take,HQ.out];omega
   have HRR:Hid (r++numsB (l.take (i+1))=rr++be8 n):=(show _=_ from by rw [HTK.out,←List.append_assoc,hrr])
   rw [hrr]at ho
   have HNU:Hid _:=fnumber_any n ho (Nat.le_trans HB.out hg.g.size) (by omega)
   have HG:Hid (Gr w wr v u0):=hg
   clear hrr ho hg h1 h2 hn hrl h8
   go_wp2_with (go_at_call 62;refine(show Calls _ _ _ _ _ from HNU.out).mono ?_;rintro e w2 ⟨v2,rfl,o2,g2⟩;have HO2:Hid (OwB w2 B v2 (rr++be8 n)):=o2;have HG2:Hid (Gr w w2 v v2):=HG.out.trans g2;clear o2 g2)
   go_roundg (q - (i+1))
   case measure=>omega
   case rel=>exact⟨i+1,by omega,rfl,by rw [HRR.out];exact .inl HO2.out,(fun _=>by rw [HRR.out];exact HO2.out),HG2.out⟩
  ·have hlt':¬(i:Int)<q:=by omega
   obtain rfl:i=q:=by omega
   have h8:=h8 (HPO.out.imp (fun e=>by rw [HQ.out]at e;exact e) id)
   rw [List.take_of_length_le (by rw [HQ.out];exact Nat.le_refl _)]at h8
   have HO1:Hid (OwB wr B u0 (r++numsB l)):=h8
   have HG:Hid (Gr w wr v u0):=hg
   clear ho hg h8
   go_wp2
   go_ret
   exact⟨u0,rfl,HO1.out,HG.out⟩
end Go.Proofs.YtceoibfliggalaaGreatDoor
namespace Go.Proofs.YtceoibfliggalaaGreatDoor
open Go.RowKit Wd Tr Cg Lg Lib
theorem str_mv {P:Program} {w:World} (base:Nat) (t u ty e:TypeId) (i:TypeInfo) (ht:P.underlying t=some (.slice e)) (hu:P.underlying u=some .string) (hi:P.info? e=some i) (hz:i.zero=some (.int .u8 0)) (hsize:i.size=1) (hby:i.bytes=1)
  (v:Value) (n:Nat) (xs:List Value) (hown:w.ownsRow base e 1 v n xs) (s:ByteArray) (hn:0<n) (h63:n+s.size≤maxLen) (hbytes:n+s.size≤140737488355328) (hbase:base≤w.heap.size):
  ∃v' w',(Builtin.append_ #[t,u] ty #[v,.string s]).run P w=.ok v' w'∧w'.ownsRow base e 1 v' (n+s.size) (xs++strCells s)∧w.grownBy w' v.ownBlock∧(v'.ownBlock=v.ownBlock∨v'.ownBlock=some w.heap.size):=by
 obtain⟨v',w',hr,h2,h3,_⟩:=run_append_own_string (P:=P) w base t u ty e i ht hu hi hz hsize hby v n xs hown s h63 hbytes hbase
 refine⟨v',w',hr,h2,h3,?_⟩
 have hsm:n+s.size≤9223372036854775807:=by simp only [maxLen]at h63;omega
 rcases hown.2 with⟨_,h0⟩ | ⟨g,cap,cur,rfl,hb,hg,hle,hm,hcs,htk⟩
 ·omega
 ·by_cases hroom:n+s.size≤cap
  ·have hr':=run_append_room_string (P:=P) w t u ty e i ht hu hi hsize g n cap cur hg s hroom (by omega)
   rw [hr]at hr'
   injection hr' with e1 _
   exact .inl (by rw [e1];rfl)
  ·have hr':=run_append_grow_string (P:=P) w t u ty e i (.int .u8 0) ht hu hi hz ⟨g,0,none⟩ n cap xs (by rw [hsize];exact hown.1) (hown.cells (g:=g) rfl) s (by omega) (by omega) (by rw [hby];exact growslice_fits (by omega) (by omega))
   rw [hr]at hr'
   injection hr' with e1 _
   exact .inr (by rw [e1];rfl)
theorem wp_str_mv {P:Program} {w:World} {ops:Array Oper} {rest:List Oper} {o:Oper} {a:Act} {Q:Exit→Act→World→Prop} (hgd:o.guard=none) (sl x:Operand) (t u:TypeId) (ho:o.op=.call {callee:=.builtin .append,args:= #[sl,x],argTypes:= #[t,u]})
  (base:Nat) (e:TypeId) (i:TypeInfo) (ht:P.underlying t=some (.slice e)) (hu:P.underlying u=some .string) (hi:P.info? e=some i) (hz:i.zero=some (.int .u8 0)) (hsize:i.size=1) (hby:i.bytes=1)
  (v:Value) (n:Nat) (xs:List Value) (hs:a.eval sl=v) (hown:w.ownsRow base e 1 v n xs) (s:ByteArray) (hx:a.eval x=.string s) (hn:0<n) (h63:n+s.size≤maxLen) (hbytes:n+s.size≤140737488355328) (hbase:base≤w.heap.size)
  (h:∀v' w',w'.ownsRow base e 1 v' (n+s.size) (xs++strCells s)→w.grownBy w' v.ownBlock→(v'.ownBlock=v.ownBlock∨v'.ownBlock=some w.heap.size)→wpList P ops Q rest (a.put o.dst v') w'):wpList P ops Q (o::rest) a w:=by
 obtain⟨v',w',hr,h2,h3,h4⟩:=str_mv (P:=P) base t u o.type e i ht hu hi hz hsize hby v n xs hown s hn h63 hbytes hbase
 refine wpList_plain hgd fun K hK=>?_
 unfold Oper.wp execOp
 simp only [ho,resolve,invoke,builtin,Sem.run_bind,Sem.run_pure,Result.andThen_ok,List.map_toArray,List.map_cons,List.map_nil,hs,hx,hr]
 exact hK _ _ (h v' w' h2 h3 h4)
theorem str_u8 (s:ByteArray):strCells s=u8s s.data.toList:=by
 unfold strCells u8s
 rfl
end Go.Proofs.YtceoibfliggalaaGreatDoor
