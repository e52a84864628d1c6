/-
  TEXTS: TbA, SpN, TcH, TcI.
-/
import Derived.Test.YtceoibfliggalaaGreatDoorKr19
import Derived.Test.YtceoibfliggalaaGreatDoorKr16
import Derived.Test.YtceoibfliggalaaGreatDoorKr40
import Derived.Test.YtceoibfliggalaaGreatDoorKr18
import Derived.Lib.SlBytesConst
import Derived.Lib.AppendStr
import Derived.ArgAppend
import Derived.Deep.DeepAppendWide
import Derived.Deep.AppendLies
namespace Go.Proofs.YtceoibfliggalaaGreatDoor
open Go.RowKit Wd Tr Cg Lg
theorem tag_ne {W:World} {B B' e e' sz sz' n n':Nat} {v v':Value} {xs xs':List Value} (h:W.ownsRow B e sz v n xs) (h':W.ownsRow B' e' sz' v' n' xs') (he:e≠e'):∀g,v.ownBlock=some g→v'.ownBlock≠some g:=by
 intro g hg hg'
 rcases h.2 with⟨rfl,_⟩ | ⟨b,cap,cur,rfl,_,h2,_⟩
 ·cases hg
 ·rcases h'.2 with⟨rfl,_⟩ | ⟨b',cap',cur',rfl,_,h2',_⟩
  ·cases hg'
  ·cases hg
   cases hg'
   rw [h2]at h2'
   cases h2'
   exact he rfl
end Go.Proofs.YtceoibfliggalaaGreatDoor
namespace Go.Proofs.YtceoibfliggalaaGreatDoor
open Go.RowKit Wd Tr Cg Ld Lg
theorem numsF_size:∀(k:Nat) (s:RS),(numsF k s).1.length=k
 | 0,_=>rfl
 | k+1,s=>by
  unfold numsF
  rw [List.length_cons,numsF_size k]
theorem rd2_ten (r:List UInt8):∃(c:Cf) (now hd:Int),(rd2 r).1= [c.nodes,c.queue,c.limit,c.age,c.fair,c.size,c.period,c.half,now,hd]:=by
 have h:(rd2 r).1.length=10:=numsF_size 10 _
 generalize (rd2 r).1=l at h
 match l,h with
 | [a0,a1,a2,a3,a4,a5,a6,a7,a8,a9],_=>exact⟨⟨a0,a1,a2,a3,a4,a5,a6,a7⟩,a8,a9,rfl⟩
theorem get_form {w w':World} {r:List UInt8} {e:Ending} {c:Cf} {now hd:Int} (h2:(rd2 r).1= [c.nodes,c.queue,c.limit,c.age,c.fair,c.size,c.period,c.half,now,hd]) (h:GetP w r e w'):Below w.heap.size w w'∧
  (if rd7 r=none then e=.returned (.tuple #[.agg #[.int .i64 0,.int .i64 0,.int .i64 0,.int .i64 0,.int .i64 0,.int .i64 0,.int .i64 0,.int .i64 0,.int .i64 0,.slice none 0 0,.slice none 0 0,.int .i64 0],.int .i64 190])else if auditV (chkZ c) ⟨c,now,(rd4 r).1,(rd6 r).1,hd⟩=0 then ∃gA gJ,∃qs:List Pj,qs.map Pj.v=(rd6 r).1∧e=.returned (.tuple #[.agg (stC c now (.slice (some ⟨gA,0,none⟩) (rd4 r).1.length (rd4 r).1.length) (.slice (some ⟨gJ,0,none⟩) qs.length qs.length) hd),.int .i64 0])∧RdS w' w.heap.size gA gJ (rd4 r).1 qs else e=.returned (.tuple #[.agg #[.int .i64 0,.int .i64 0,.int .i64 0,.int .i64 0,.int .i64 0,.int .i64 0,.int .i64 0,.int .i64 0,.int .i64 0,.slice none 0 0,.slice none 0 0,.int .i64 0],.int .i64 191])):=by
 obtain⟨c1,now1,hd1,gA,gJ,qs,hr,hqs,hif,hb⟩:=h
 rw [h2]at hr
 simp only [List.cons.injEq,and_true]at hr
 obtain⟨e0,e1,e2,e3,e4,e5,e6,e7,e8,e9⟩:=hr
 obtain rfl:c=c1:=by
  obtain⟨a0,a1,a2,a3,a4,a5,a6,a7⟩:=c
  obtain⟨b0,b1,b2,b3,b4,b5,b6,b7⟩:=c1
  simp only at e0 e1 e2 e3 e4 e5 e6 e7
  subst e0 e1 e2 e3 e4 e5 e6 e7
  rfl
 subst e8 e9
 refine⟨hb,?_⟩
 by_cases h7:rd7 r=none
 ·rw [if_pos h7]at hif ⊢
  exact hif
 ·rw [if_neg h7]at hif ⊢
  rw [hqs]at hif
  by_cases hau:auditV (chkZ c) ⟨c,now,(rd4 r).1,(rd6 r).1,hd⟩=0
  ·rw [if_pos hau]at hif ⊢
   exact⟨gA,gJ,qs,hqs,hif.1,hif.2⟩
  ·rw [if_neg hau]at hif ⊢
   exact hif
end Go.Proofs.YtceoibfliggalaaGreatDoor
namespace Go.Proofs.YtceoibfliggalaaGreatDoor
open Go Go.RowKit Wd Tr Cg Ld Lg
abbrev mrk (j:Nat):Value:=.int .i64 (-10 - (j:Int))
structure SpI (W:World) (gA gJ nA:Nat) (qs:List Pj) (i k a:Nat):Prop where
 accs:0<nA→∃cs:Array Value,W.heap[gA]?=some (.cells cs 52 (0,0))∧cs.size=nA*5∧∀j,j<a→cs[j*5+1]?=some (mrk j)
 jobs:0<qs.length→∃cs:Array Value,W.heap[gJ]?=some (.cells cs 55 (0,0))∧cs.size=qs.length*8∧(∀j,j<i→cs[j*8]?=some (mrk j))∧∀(j:Nat) (q:Pj),qs[j]?=some q→cs[j*8+7]?=some (.slice q.sa q.v.set.length q.sc)
 sets:∀(j:Nat) (q:Pj),qs[j]?=some q→∃(g:Nat) (cs:Array Value),q.sa=some ⟨g,0,none⟩∧W.heap[g]?=some (.cells cs 3 (0,0))∧cs.size=q.v.set.length∧∀t,t<cs.size→(j<i∨(j=i∧t<k))→cs[t]?=some (mrk j)
def SpK (gA gJ nA:Nat) (qs:List Pj) (b:Nat):Prop:=(0<nA∧b=gA)∨(0<qs.length∧b=gJ)∨∃q∈qs,q.sa=some ⟨b,0,none⟩
section
variable {W:World} {gA gJ nA:Nat} {qs:List Pj} {i k a:Nat}
theorem SpI.low (h:SpI W gA gJ nA qs i k a) {b:Nat} (hb:SpK gA gJ nA qs b):b<W.heap.size:=by
 rcases hb with⟨h0,rfl⟩ | ⟨h0,rfl⟩ | ⟨q,hq,e⟩
 ·obtain ⟨_,h1,_⟩:=h.accs h0
  exact(Array.getElem?_eq_some_iff.1 h1).1
 ·obtain ⟨_,h1,_⟩:=h.jobs h0
  exact(Array.getElem?_eq_some_iff.1 h1).1
 ·obtain ⟨j,hj⟩:=List.mem_iff_getElem?.1 hq
  obtain⟨g,cs,e1,h1,_⟩:=h.sets j q hj
  rw [e]at e1
  cases e1
  exact(Array.getElem?_eq_some_iff.1 h1).1
theorem SpI.keep {W':World} (h:SpI W gA gJ nA qs i k a) (hk:∀b,SpK gA gJ nA qs b→W'.heap[b]?=W.heap[b]?):SpI W' gA gJ nA qs i k a:=by
 refine⟨fun h0=>?_,fun h0=>?_,fun j q hq=>?_⟩
 ·obtain ⟨cs,h1,h2⟩:=h.accs h0
  exact⟨cs,(hk gA (.inl ⟨h0,rfl⟩)).trans h1,h2⟩
 ·obtain ⟨cs,h1,h2⟩:=h.jobs h0
  exact⟨cs,(hk gJ (.inr (.inl ⟨h0,rfl⟩))).trans h1,h2⟩
 ·obtain ⟨g,cs,e,h1,h2⟩:=h.sets j q hq
  exact⟨g,cs,e,(hk g (.inr (.inr ⟨q,List.mem_of_getElem? hq,e⟩))).trans h1,h2⟩
theorem SpI.below {W':World} (h:SpI W gA gJ nA qs i k a) (b:Below W.heap.size W W'):SpI W' gA gJ nA qs i k a:=h.keep (fun _ hb=>b.block _ (h.low hb))
theorem SpI.jslice (h:SpI W gA gJ nA qs i k a) {j:Nat} {q:Pj} (hq:qs[j]?=some q):W.cell? ⟨gJ,j*8+7,none⟩=some (.slice q.sa q.v.set.length q.sc):=by
 have hl:=(List.getElem?_eq_some_iff.1 hq).1
 obtain⟨cs,h1,_,_,h4⟩:=h.jobs (by omega)
 exact cells_at h1 (h4 j q hq)
theorem SpI.jready (h:SpI W gA gJ nA qs i k a) {j:Nat} (hj:j<qs.length):(∃v,W.cell? ⟨gJ,j*8,none⟩=some v)∧W.frozen? ⟨gJ,j*8,none⟩=false:=by
 obtain⟨cs,h1,h2,_⟩:=h.jobs (by omega)
 exact⟨⟨_,cells_at h1 (Array.getElem?_eq_getElem (by omega))⟩,frozen_at h1⟩
theorem SpI.aready (h:SpI W gA gJ nA qs i k a) {j:Nat} (hj:j<nA):(∃v,W.cell? ⟨gA,j*5+1,none⟩=some v)∧W.frozen? ⟨gA,j*5+1,none⟩=false:=by
 obtain⟨cs,h1,h2,_⟩:=h.accs (by omega)
 exact⟨⟨_,cells_at h1 (Array.getElem?_eq_getElem (by omega))⟩,frozen_at h1⟩
theorem SpI.sready (h:SpI W gA gJ nA qs i k a) {j:Nat} {q:Pj} (hq:qs[j]?=some q) {g t:Nat} (e:q.sa=some ⟨g,0,none⟩) (ht:t<q.v.set.length):(∃v,W.cell? ⟨g,t,none⟩=some v)∧W.frozen? ⟨g,t,none⟩=false:=by
 obtain⟨g',cs,e1,h1,h2,_⟩:=h.sets j q hq
 rw [e]at e1
 cases e1
 exact⟨⟨_,cells_at h1 (Array.getElem?_eq_getElem (by omega))⟩,frozen_at h1⟩
theorem SpI.saddr (h:SpI W gA gJ nA qs i k a) {j:Nat} {q:Pj} (hq:qs[j]?=some q):∃g,q.sa=some ⟨g,0,none⟩:=by
 obtain⟨g,_,e,_⟩:=h.sets j q hq
 exact⟨g,e⟩
theorem SpI.tags (h:SpI W gA gJ nA qs i k a):(0<nA→0<qs.length→gA≠gJ)∧∀(j:Nat) (q:Pj) (g:Nat),qs[j]?=some q→q.sa=some ⟨g,0,none⟩→(0<nA→g≠gA)∧g≠gJ:=by
 refine⟨fun h1 h2 e=>?_,fun j q g hq e=>?_⟩
 ·obtain ⟨_,p1,_⟩:=h.accs h1
  obtain⟨_,p2,_⟩:=h.jobs h2
  subst e
  rw [p1]at p2
  cases p2
 ·have hl:=(List.getElem?_eq_some_iff.1 hq).1
  obtain⟨g',_,e1,p3,_⟩:=h.sets j q hq
  rw [e]at e1
  cases e1
  refine⟨fun h1 e=>?_,fun e=>?_⟩
  ·obtain ⟨_,p1,_⟩:=h.accs h1
   subst e
   rw [p1]at p3
   cases p3
  ·obtain ⟨_,p2,_⟩:=h.jobs (by omega)
   subst e
   rw [p2]at p3
   cases p3
theorem at_set {cs:Array Value} {o:Nat} (v:Value) (j:Nat) (ho:o<cs.size):(cs.setIfInBounds o v)[j]?=if j=o then some v else cs[j]?:=by
 rw [Array.getElem?_setIfInBounds]
 by_cases e:o=j
 ·subst e
  simp [ho]
 ·rw [if_neg e,if_neg (fun h=>e h.symm)]
theorem SpI.set (h:SpI W gA gJ nA qs i k a) (hx:SetsApart qs) {q:Pj} (hq:qs[i]?=some q) {g:Nat} (e:q.sa=some ⟨g,0,none⟩) (hk:k<q.v.set.length):SpI (W.setCell ⟨g,k,none⟩ (mrk i)) gA gJ nA qs i (k+1) a:=by
 have htg:=h.tags
 have hg:=htg.2 i q g hq e
 refine⟨fun h0=>?_,fun h0=>?_,fun j p hp=>?_⟩
 ·obtain ⟨cs,h1,h2⟩:=h.accs h0
  exact⟨cs,(Below.heap_setCell _ _ _ _ (show gA≠g from(hg.1 h0).symm)).trans h1,h2⟩
 ·obtain ⟨cs,h1,h2⟩:=h.jobs h0
  exact⟨cs,(Below.heap_setCell _ _ _ _ (show gJ≠g from hg.2.symm)).trans h1,h2⟩
 ·obtain ⟨g',cs,e1,h1,h2,h3⟩:=h.sets j p hp
  by_cases hj:j=i
  ·subst hj
   rw [hq]at hp
   cases hp
   rw [e]at e1
   cases e1
   refine⟨g,_,e,heap_setCell_same W g k _ _ _ h1,by simp [h2],fun t ht hc=>?_⟩
   rw [Array.size_setIfInBounds]at ht
   rw [at_set _ _ (by omega)]
   by_cases e:t=k
   ·rw [if_pos e]
   ·rw [if_neg e]
    exact h3 t ht (by omega)
  ·have hne:g'≠g:=by
    rcases Nat.lt_or_ge j i with hlt | hge
    ·exact (List.pairwise_iff_getElem.1 hx) j i (List.getElem?_eq_some_iff.1 hp).1 (List.getElem?_eq_some_iff.1 hq).1 hlt g' g (by rw [(List.getElem?_eq_some_iff.1 hp).2];exact e1) (by rw [(List.getElem?_eq_some_iff.1 hq).2];exact e)
    ·exact ((List.pairwise_iff_getElem.1 hx) i j (List.getElem?_eq_some_iff.1 hq).1 (List.getElem?_eq_some_iff.1 hp).1 (by omega) g g' (by rw [(List.getElem?_eq_some_iff.1 hq).2];exact e) (by rw [(List.getElem?_eq_some_iff.1 hp).2];exact e1)).symm
   exact⟨g',cs,e1,(Below.heap_setCell _ _ _ _ hne).trans h1,h2,fun t ht hc=>h3 t ht (by omega)⟩
theorem SpI.job (h:SpI W gA gJ nA qs i k a) {q:Pj} (hq:qs[i]?=some q) (hk:k=q.v.set.length):SpI (W.setCell ⟨gJ,i*8,none⟩ (mrk i)) gA gJ nA qs (i+1) 0 a:=by
 have hl:=(List.getElem?_eq_some_iff.1 hq).1
 have htg:=h.tags
 refine⟨fun h0=>?_,fun h0=>?_,fun j p hp=>?_⟩
 ·obtain ⟨cs,h1,h2⟩:=h.accs h0
  exact⟨cs,(Below.heap_setCell _ _ _ _ (show gA≠gJ from htg.1 h0 (by omega))).trans h1,h2⟩
 ·obtain ⟨cs,h1,h2,h3,h4⟩:=h.jobs h0
  refine⟨_,heap_setCell_same W gJ (i*8) _ _ _ h1,by simp [h2],fun j hj=>?_,fun j p hp=>?_⟩
  ·rw [at_set _ _ (by omega)]
   by_cases e:j=i
   ·rw [if_pos (by omega),e]
   ·rw [if_neg (by omega)]
    exact h3 j (by omega)
  ·rw [at_set _ _ (by omega),if_neg (by omega)]
   exact h4 j p hp
 ·obtain ⟨g,cs,e1,h1,h2,h3⟩:=h.sets j p hp
  refine⟨g,cs,e1,(Below.heap_setCell _ _ _ _ (show g≠gJ from(htg.2 j p g hp e1).2)).trans h1,h2,fun t ht hc=>h3 t ht ?_⟩
  by_cases hj:j=i
  ·subst hj
   rw [hq]at hp
   cases hp
   exact .inr ⟨rfl,by omega⟩
  ·exact .inl (by omega)
theorem SpI.acc (h:SpI W gA gJ nA qs i k a) (ha:a<nA):SpI (W.setCell ⟨gA,a*5+1,none⟩ (mrk a)) gA gJ nA qs i k (a+1):=by
 have htg:=h.tags
 have h0:0<nA:=by omega
 refine⟨fun h0=>?_,fun h0'=>?_,fun j p hp=>?_⟩
 ·obtain ⟨cs,h1,h2,h3⟩:=h.accs h0
  refine⟨_,heap_setCell_same W gA (a*5+1) _ _ _ h1,by simp [h2],fun j hj=>?_⟩
  rw [at_set _ _ (by omega)]
  by_cases e:j=a
  ·rw [if_pos (by omega),e]
  ·rw [if_neg (by omega)]
   exact h3 j (by omega)
 ·obtain ⟨cs,h1,h2⟩:=h.jobs h0'
  exact⟨cs,(Below.heap_setCell _ _ _ _ (show gJ≠gA from(htg.1 h0 h0').symm)).trans h1,h2⟩
 ·obtain ⟨g,cs,e1,h1,h2⟩:=h.sets j p hp
  exact⟨g,cs,e1,(Below.heap_setCell _ _ _ _ (show g≠gA from(htg.2 j p g hp e1).1 h0)).trans h1,h2⟩
theorem SpI.jmark (h:SpI W gA gJ nA qs i k a) {j:Nat} (hj:j<i) (hl:j<qs.length):W.cell? ⟨gJ,j*8,none⟩=some (mrk j):=by
 obtain⟨cs,h1,_,h3,_⟩:=h.jobs (by omega)
 exact cells_at h1 (h3 j hj)
theorem SpI.amark (h:SpI W gA gJ nA qs i k a) {j:Nat} (hj:j<a) (hl:j<nA):W.cell? ⟨gA,j*5+1,none⟩=some (mrk j):=by
 obtain⟨cs,h1,_,h3⟩:=h.accs (by omega)
 exact cells_at h1 (h3 j hj)
theorem SpI.smark (h:SpI W gA gJ nA qs i k a) {j:Nat} {q:Pj} (hq:qs[j]?=some q) {g t:Nat} (e:q.sa=some ⟨g,0,none⟩) (ht:t<q.v.set.length) (hj:j<i):W.cell? ⟨g,t,none⟩=some (mrk j):=by
 obtain⟨g',cs,e1,h1,h2,h3⟩:=h.sets j q hq
 rw [e]at e1
 cases e1
 exact cells_at h1 (h3 t (by omega) (.inl hj))
end
theorem RdS.sp {W:World} {lo gA gJ:Nat} {la:List Ac} {qs:List Pj} (h:RdS W lo gA gJ la qs):SpI W gA gJ la.length qs 0 0 0:=by
 refine⟨fun _=>⟨_,h.acs,by simp [flatA_len],nofun⟩,fun _=>⟨_,h.jobs,by simp [flatJ_len],nofun,fun j q hq=>?_⟩,fun j q hq=>?_⟩
 ·rw [List.getElem?_toArray]
  exact(flatJ_at qs j q hq).2.2.2.2.2.2.2
 ·obtain ⟨g,e,_,_,h4⟩:=h.sets q (List.mem_of_getElem? hq)
  exact⟨g,_,e,h4,by simp,fun t _ hc=>by omega⟩
end Go.Proofs.YtceoibfliggalaaGreatDoor
namespace Go.Proofs.YtceoibfliggalaaGreatDoor
open Go Go.RowKit Wd Tr Cg Ld Lg
theorem cell_keep {w w':World} {a:Addr} {v:Value} (h:w.cell? a=some v) (e:w'.heap[a.block]?=w.heap[a.block]?):w'.cell? a=some v:=by
 unfold World.cell? at h ⊢
 rw [e]
 exact h
def FO (B:Nat) (W:World) (e sz:Nat) (v:Value) (n:Nat):Prop:=(∃(ao:Option Addr) (olds:List Value),v=.slice ao n n∧(ao=none→n=0)∧olds.length=n*sz∧(∀b,ao=some b→b.block<B∨n=0)∧∀b,ao=some b→∀j u,olds[j]?=some u→W.cell? (b.add j)=some u)∨∃xs,W.ownsRow B e sz v n xs
theorem FO.below {W W':World} {B e sz n:Nat} {v:Value} (h:FO B W e sz v n) (b:Below W.heap.size W W'):FO B W' e sz v n:=by
 rcases h with⟨ao,olds,h1,h2,h3,h4,h5⟩ | ⟨xs,h⟩
 ·refine .inl ⟨ao,olds,h1,h2,h3,fun b' e=>h4 b' e,fun b' e j u hu=>cellB b (h5 b' e j u hu)⟩
 ·exact .inr ⟨xs,row_stand h (fun k hk=>b.block k (World.ownsRow.lt h k hk).2)⟩
theorem wp_fo {P:Program} {w:World} {B:Nat} {ops:Array Oper} {rest:List Oper} {o:Oper} {a:Act} {Q:Exit→Act→World→Prop} (hgd:o.guard=none) (s x:Operand) (t:TypeId) (ho:o.op=.call {callee:=.builtin .append,args:= #[s,x],argTypes:= #[t,t]})
  (e:TypeId) (i:TypeInfo) (z:Value) (size bytes:Nat) (ht:P.underlying t=some (.slice e)) (hi:P.info? e=some i) (hz:i.zero=some z) (hsize:i.size=size) (hby:i.bytes=bytes) (hzs:z.cells.size=size) (hsz:0<size)
  (v:Value) (n:Nat) (hs:a.eval s=v) (h:FO B w e size v n) (hB:B≤w.heap.size) (ad:Addr) (news:List Value) (hx:a.eval x=.slice (some ad) 1 1) (hl:news.length=1*size) (hnews:∀j u,news[j]?=some u→w.cell? (ad.add j)=some u) (h1:∀u∈news,u.oneCell'=true)
  (hn:n≤4294967296) (hbb:bytes≤80)
  (hK:∀v' w',FO B w' e size v' (n+1)→Below B w w'→(∀(e' sz' n':Nat) (u:Value),e'≠e→FO B w e' sz' u n'→FO B w' e' sz' u n')→wpList P ops Q rest (a.put o.dst v') w'):wpList P ops Q (o::rest) a w:=by
 have hm:n+1≤maxLen:=by unfold maxLen;omega
 have hb1:(n+1)*bytes≤4294967297*80:=Nat.mul_le_mul (by omega) hbb
 have hb2:((n+1)+(n+1) / 4+192)*bytes≤8589935000*80:=Nat.mul_le_mul (by omega) hbb
 rcases h with⟨ao,olds,rfl,h2,h3,_,h4⟩ | ⟨xs,hown⟩
 ·refine wpList_append_grows w hgd s x t ho e i z size bytes ht hi hz hsize hby hzs hsz ao n n olds hs (fun e=>⟨h2 e,h2 e⟩) h3 h4 ad 1 1 news hx hl hnews h1 (by omega) hm (by omega) ?_
  intro v' w' o2 g2
  have hbl:Below w.heap.size w w':=⟨g2.os,g2.tape,g2.output,g2.size,fun k hk=>g2.block k hk (by simp)⟩
  exact hK v' w' (.inr ⟨_,own_base o2 hB⟩) (hbl.mono hB) (fun e' sz' n' u _ hf=>hf.below hbl)
 ·refine wpList_append_own_wide w hgd s x t ho B e i z size bytes ht hi hz hsize hby hzs hsz v n xs hs hown ad 1 1 news hx hl hnews h1 hm (by omega) hB ?_
  intro v' w' o2 g2 _
  refine hK v' w' (.inr ⟨_,o2⟩) ⟨g2.os,g2.tape,g2.output,g2.size,fun k hk=>g2.block k (by omega) (fun e=>by have:=World.ownsRow.lt hown k e.symm;omega)⟩ (fun e' sz' n' u hne hf=>?_)
  rcases hf with⟨ao,olds,p1,p2,p3,p4,p5⟩ | ⟨ys,hy⟩
  ·refine .inl ⟨ao,olds,p1,p2,p3,p4,fun b' e j u hu=>?_⟩
   have hcell:=p5 b' e j u hu
   have hbk:(b'.add j).block=b'.block:=by unfold Addr.add;split<;>rfl
   rcases p4 b' e with h0 | h0
   ·exact cell_keep hcell (g2.block _ (World.block_lt_of_cell? w _ hcell) (fun e9=>by have:=World.ownsRow.lt hown _ e9.symm;omega))
   ·subst h0
    have:olds= []:=List.length_eq_zero_iff.1 (by omega)
    rw [this]at hu
    simp at hu
  ·exact .inr ⟨ys,row_stand hy (fun k hk=>g2.block k (World.ownsRow.lt hy k hk).2 (fun e9=>tag_ne hy hown hne k hk e9.symm))⟩
theorem arr_cells {W:World} {g:Nat} {cs:Array Value} {t:TypeId} (h:W.heap[g]?=some (.cells cs t (0,0))):∀j u,cs.toList[j]?=some u→W.cell? ((⟨g,0,none⟩:Addr).add j)=some u:=fun j u hu=>by
 rw [Addr.add_lit,Nat.zero_add]
 exact cells_at h (by simpa using hu)
theorem SpI.foS {W:World} {gA gJ nA i k a:Nat} {qs:List Pj} (h:SpI W gA gJ nA qs i k a) {j:Nat} {q:Pj} (hq:qs[j]?=some q) {g n:Nat} (e:q.sa=some ⟨g,0,none⟩) (hn:q.v.set.length=n):FO W.heap.size W 3 1 (.slice (some ⟨g,0,none⟩) n n) n:=by
 obtain⟨g',cs,e1,h1,h2,_⟩:=h.sets j q hq
 rw [e]at e1
 cases e1
 exact .inl ⟨_,cs.toList,rfl,nofun,by rw [Array.length_toList];omega,fun b e=>by cases e;exact .inl (Array.getElem?_eq_some_iff.1 h1).1,fun b e=>by cases e;exact arr_cells h1⟩
theorem SpI.foJ {W:World} {gA gJ nA i k a:Nat} {qs:List Pj} (h:SpI W gA gJ nA qs i k a) {jo:Option Addr} {m:Nat} (hm:qs.length=m) (hJ:0<m→jo=some ⟨gJ,0,none⟩):FO W.heap.size W 55 8 (.slice jo m m) m:=by
 by_cases h0:0<m
 ·obtain rfl:=hJ h0
  obtain⟨cs,h1,h2,_⟩:=h.jobs (by omega)
  exact .inl ⟨_,cs.toList,rfl,nofun,by rw [Array.length_toList];omega,fun b e=>by cases e;exact .inl (Array.getElem?_eq_some_iff.1 h1).1,fun b e=>by cases e;exact arr_cells h1⟩
 ·obtain rfl:m=0:=by omega
  exact .inl ⟨jo,[],rfl,fun _=>rfl,rfl,fun _ _=>.inr rfl,fun b _ j u hu=>by simp at hu⟩
theorem SpI.foA {W:World} {gA gJ nA i k a:Nat} {qs:List Pj} (h:SpI W gA gJ nA qs i k a) {ao:Option Addr} (hA:0<nA→ao=some ⟨gA,0,none⟩):FO W.heap.size W 52 5 (.slice ao nA nA) nA:=by
 by_cases h0:0<nA
 ·obtain rfl:=hA h0
  obtain⟨cs,h1,h2,_⟩:=h.accs h0
  exact .inl ⟨_,cs.toList,rfl,nofun,by rw [Array.length_toList];omega,fun b e=>by cases e;exact .inl (Array.getElem?_eq_some_iff.1 h1).1,fun b e=>by cases e;exact arr_cells h1⟩
 ·obtain rfl:nA=0:=by omega
  exact .inl ⟨ao,[],rfl,fun _=>rfl,rfl,fun _ _=>.inr rfl,fun b _ j u hu=>by simp at hu⟩
set_option maxRecDepth 20000 in
set_option maxHeartbeats 8000000 in
theorem spoils_any {w:World} (c:Cf) (now hd:Int) {ao jo:Option Addr} {gA gJ nA m:Nat} {qs:List Pj} (hm:qs.length=m) (hA:0<nA→ao=some ⟨gA,0,none⟩) (hJ:0<m→jo=some ⟨gJ,0,none⟩) (h:SpI w gA gJ nA qs 0 0 0) (hx:SetsApart qs) (hsc:∀q∈qs,q.sc=q.v.set.length) (hb1:nA≤2147483647) (hb2:m≤2147483647) (hb3:∀q∈qs,q.v.set.length≤2147483647):
  Calls Tryz.prog 20 #[.agg #[.int .i64 c.nodes,.int .i64 c.queue,.int .i64 c.limit,.int .i64 c.age,.int .i64 c.fair,.int .i64 c.size,.int .i64 c.period,.int .i64 c.half,.int .i64 now,.slice ao nA nA,.slice jo m m,.int .i64 hd]] w fun e w'=>e=.returned (.bool true)∧Chg (SpK gA gJ nA qs) w w':=by
 obtain⟨W,hW⟩:∃W,w.alloc (.cells #[.int .i64 c.nodes,.int .i64 c.queue,.int .i64 c.limit,.int .i64 c.age,.int .i64 c.fair,.int .i64 c.size,.int .i64 c.period,.int .i64 c.half,.int .i64 now,.slice ao nA nA,.slice jo m m,.int .i64 hd] 27)=W:=⟨_,rfl⟩
 have bW:Below w.heap.size w W:=by rw [← hW];exact(Below.refl _ _).alloc (Nat.le_refl _) _
 have hbox:W.heap[w.heap.size]?=some (.cells #[.int .i64 c.nodes,.int .i64 c.queue,.int .i64 c.limit,.int .i64 c.age,.int .i64 c.fair,.int .i64 c.size,.int .i64 c.period,.int .i64 c.half,.int .i64 now,.slice ao nA nA,.slice jo m m,.int .i64 hd] 27 (0,0)):=by rw [← hW];exact heap_alloc_new w _
 have HLOW:Hid (∀b,SpK gA gJ nA qs b→b<w.heap.size):=fun b hb=>h.low hb
 have HSP:Hid (SpI W gA gJ nA qs 0 0 0):=h.below bW
 have HBW:Hid _:=bW
 have HX:Hid _:=hx
 have HM:Hid _:=hm
 have HSC:Hid _:=hsc
 have HB3:Hid _:=hb3
 have HA:Hid _:=hA
 have HJ:Hid _:=hJ
 have HCL:Hid (∀V:World,Chg (SpK gA gJ nA qs) W V→V.cell? ⟨w.heap.size,9,none⟩=some (.slice ao nA nA)∧V.cell? ⟨w.heap.size,10,none⟩=some (.slice jo m m)):=fun V hc=>by
  have h9:=(hc.block w.heap.size (Array.getElem?_eq_some_iff.1 hbox).1 (fun hk=>by have:=h.low hk;omega)).trans hbox
  exact⟨cells_at h9 rfl,cells_at h9 rfl⟩
 clear bW hbox h hx hm hsc hb3 hA hJ
 obtain⟨x,hxx⟩:∃x,w.heap.size=x:=⟨_,rfl⟩
 rw [hxx]at HCL
 have HXX:Hid _:=hxx
 clear hxx
 go_enter Tryz.func20,Tryz.ntmps20
 go_upto_region 1 with fail
 try rw [hW]
 rw [HXX.out]
 clear hW
 go_upto_block 0 with fail
 go_cut [] (fun y=>SpI y gA gJ nA qs m 0 0∧Chg (SpK gA gJ nA qs) W y)
 case first=>
  go_wp2_with fail
  go_loopg [3] m (fun gk pk wr=>∃i:Nat,i+gk=m∧pk=.int .i64 i∧SpI wr gA gJ nA qs i 0 0∧Chg (SpK gA gJ nA qs) W wr)
  case atStart=>exact⟨0,by omega,rfl,HSP.out,Chg.refl _ _⟩
  case round=>
   obtain⟨i,hi,rfl,hsp,hch⟩:=hrel
   obtain⟨_,c10⟩:=HCL.out wr hch
   by_cases hlt:i<m
   ·have hlt':(i:Int)<m:=by omega
    have hi0:(0:Int)≤i:=by omega
    obtain rfl:=HJ.out (by omega)
    obtain⟨q,hq⟩:∃q,qs[i]?=some q:=⟨_,List.getElem?_eq_getElem (by rw [HM.out];exact hlt)⟩
    obtain⟨g,hg⟩:=hsp.saddr hq
    have hsl:=hsp.jslice hq
    have hqm:=List.mem_of_getElem? hq
    rw [hg,HSC.out q hqm]at hsl
    obtain⟨n,hn⟩:∃n,q.v.set.length=n:=⟨_,rfl⟩
    have hnb:=HB3.out q hqm
    rw [hn]at hsl hnb
    have HQ:Hid _:=hq
    have HG:Hid _:=hg
    have HN:Hid _:=hn
    have HS1:Hid _:=hsp
    have HC1:Hid _:=hch
    clear hq hg hn hsp hch hqm
    go_wp2
    go_loopg [4] n (fun gk pk wr=>∃k:Nat,k+gk=n∧pk=.int .i64 k∧SpI wr gA gJ nA qs i k 0∧Chg (SpK gA gJ nA qs) W wr)
    case atStart=>exact⟨0,by omega,rfl,HS1.out,HC1.out⟩
    case round=>
     obtain⟨k,hk,rfl,hsp,hch⟩:=hrel
     clear c10 hsl
     obtain⟨_,c10⟩:=HCL.out wr hch
     have hsl:=hsp.jslice HQ.out
     rw [HG.out,HSC.out q (List.mem_of_getElem? HQ.out),HN.out]at hsl
     by_cases hlt2:k<n
     ·have hlt2':(k:Int)<n:=by omega
      have hk0:(0:Int)≤k:=by omega
      obtain⟨⟨v0,cv⟩,fv⟩:=hsp.sready HQ.out HG.out (t:=k) (by rw [HN.out];exact hlt2)
      have hnx:=hsp.set HX.out HQ.out HG.out (by rw [HN.out];exact hlt2)
      have HNX:Hid _:=hnx
      have hck:SpK gA gJ nA qs g:=.inr (.inr ⟨q,List.mem_of_getElem? HQ.out,HG.out⟩)
      have HCN:Hid (Chg (SpK gA gJ nA qs) W (wr.setCell ⟨g,k,none⟩ (mrk i))):=⟨hch.os,hch.tape,hch.output,Nat.le_trans hch.size (by simp [World.setCell]),fun b hb hne=>(Below.heap_setCell _ _ _ _ (show b≠g from fun e=>hne (e▸hck))).trans (hch.block b hb hne)⟩
      have hwr:wrap64 (-10 - (i:Int))= -10 - (i:Int):=by unfold wrap64;omega
      clear hsp hch hnx hck
      go_wp2
      go_roundg (n - (k+1))
      case measure=>omega
      case rel=>exact⟨k+1,by omega,by go_num,HNX.out,HCN.out⟩
     ·have hlt2':¬(k:Int)<n:=by omega
      obtain rfl:k=n:=by omega
      obtain⟨⟨v0,cv⟩,fv⟩:=hsp.jready (j:=i) (by rw [HM.out];exact hlt)
      have hnx:=hsp.job HQ.out HN.out.symm
      have HNX:Hid _:=hnx
      have hck:SpK gA gJ nA qs gJ:=.inr (.inl ⟨by rw [HM.out];omega,rfl⟩)
      have HCN:Hid (Chg (SpK gA gJ nA qs) W (wr.setCell ⟨gJ,i*8,none⟩ (mrk i))):=⟨hch.os,hch.tape,hch.output,Nat.le_trans hch.size (by simp [World.setCell]),fun b hb hne=>(Below.heap_setCell _ _ _ _ (show b≠gJ from fun e=>hne (e▸hck))).trans (hch.block b hb hne)⟩
      have hwr:wrap64 (-10 - (i:Int))= -10 - (i:Int):=by unfold wrap64;omega
      clear hsp hch hnx hck
      go_wp2
      go_roundg (m - (i+1))
      case measure=>omega
      case rel=>exact⟨i+1,by omega,by go_num,HNX.out,HCN.out⟩
   ·have hlt':¬(i:Int)<m:=by omega
    obtain rfl:i=m:=by omega
    have HS1:Hid _:=hsp
    have HC1:Hid _:=hch
    clear hsp hch
    go_wp2
    go_meet
    exact⟨HS1.out,HC1.out⟩
 case rest=>
 obtain⟨hsp,hch⟩:=hcut
 obtain⟨V1,hV⟩:∃V:World,V=wc:=⟨_,rfl⟩
 rw [← hV]at hsp hch
 rw [← hV]
 have HS1:Hid _:=hsp
 have HC1:Hid _:=hch
 clear hV hsp hch HSP
 go_upto_block 4 with fail
 go_cut [] (fun y=>SpI y gA gJ nA qs m 0 nA∧Chg (SpK gA gJ nA qs) W y)
 case first=>
  go_wp2_with fail
  go_loopg [5] nA (fun gk pk wr=>∃a:Nat,a+gk=nA∧pk=.int .i64 a∧SpI wr gA gJ nA qs m 0 a∧Chg (SpK gA gJ nA qs) W wr)
  case atStart=>exact⟨0,by omega,rfl,HS1.out,HC1.out⟩
  case round=>
   obtain⟨a,ha,rfl,hsp,hch⟩:=hrel
   obtain⟨c9,_⟩:=HCL.out wr hch
   by_cases hlt:a<nA
   ·have hlt':(a:Int)<nA:=by omega
    have ha0:(0:Int)≤a:=by omega
    obtain rfl:=HA.out (by omega)
    obtain⟨⟨v0,cv⟩,fv⟩:=hsp.aready hlt
    have hnx:=hsp.acc hlt
    have HNX:Hid _:=hnx
    have hck:SpK gA gJ nA qs gA:=.inl ⟨by omega,rfl⟩
    have HCN:Hid (Chg (SpK gA gJ nA qs) W (wr.setCell ⟨gA,a*5+1,none⟩ (mrk a))):=⟨hch.os,hch.tape,hch.output,Nat.le_trans hch.size (by simp [World.setCell]),fun b hb hne=>(Below.heap_setCell _ _ _ _ (show b≠gA from fun e=>hne (e▸hck))).trans (hch.block b hb hne)⟩
    have hwr:wrap64 (-10 - (a:Int))= -10 - (a:Int):=by unfold wrap64;omega
    clear hsp hch hnx hck
    go_wp2
    go_roundg (nA - (a+1))
    case measure=>omega
    case rel=>exact⟨a+1,by omega,by go_num,HNX.out,HCN.out⟩
   ·have hlt':¬(a:Int)<nA:=by omega
    obtain rfl:a=nA:=by omega
    have HS2:Hid _:=hsp
    have HC2:Hid _:=hch
    clear hsp hch
    go_wp2
    go_meet
    exact⟨HS2.out,HC2.out⟩
 case rest=>
 obtain⟨hsp,hch⟩:=hcut
 clear HS1 HC1
 obtain⟨V2,hV⟩:∃V:World,V=wc:=⟨_,rfl⟩
 rw [← hV]at hsp hch
 rw [← hV]
 have HS2:Hid _:=hsp
 have HC2:Hid _:=hch
 have HFJ:Hid (∀y,Below V2.heap.size V2 y→FO V2.heap.size y 55 8 (.slice jo m m) m):=fun y b=>(hsp.foJ HM.out HJ.out).below b
 have HFA:Hid (∀y,Below V2.heap.size V2 y→FO V2.heap.size y 52 5 (.slice ao nA nA) nA):=fun y b=>(hsp.foA HA.out).below b
 have HCY:Hid (∀y,Below V2.heap.size V2 y→y.cell? ⟨x,9,none⟩=some (.slice ao nA nA)∧y.cell? ⟨x,10,none⟩=some (.slice jo m m)):=fun y b=>by
  obtain⟨p,q⟩:=HCL.out V2 hch
  exact⟨cellB b p,cellB b q⟩
 obtain⟨i3,hi3,hz30,hz31,hz32⟩:=info_parts Tryz.infIz
 obtain⟨i5,hi5,hz50,hz51,hz52⟩:=info_parts Tryz.infAz
 obtain⟨i8,hi8,hz80,hz81,hz82⟩:=info_parts Tryz.infJz8
 clear hV hsp hch HCL
 go_upto_block 6 with fail
 go_cut [] (fun y=>Below V2.heap.size V2 y)
 case first=>
  go_wp2_with fail
  go_loopg [6] m (fun gk pk wr=>∃i:Nat,i+gk=m∧pk=.int .i64 i∧Below V2.heap.size V2 wr)
  case atStart=>exact⟨0,by omega,rfl,Below.refl _ _⟩
  case round=>
   obtain⟨i,hi,rfl,hbl⟩:=hrel
   obtain⟨_,c10⟩:=HCY.out wr hbl
   by_cases hlt:i<m
   ·have hlt':(i:Int)<m:=by omega
    have hi0:(0:Int)≤i:=by omega
    obtain rfl:=HJ.out (by omega)
    obtain⟨q,hq⟩:∃q,qs[i]?=some q:=⟨_,List.getElem?_eq_getElem (by rw [HM.out];exact hlt)⟩
    have hsp:=HS2.out.below hbl
    obtain⟨g,hg⟩:=hsp.saddr hq
    have hsl:=hsp.jslice hq
    have hqm:=List.mem_of_getElem? hq
    rw [hg,HSC.out q hqm]at hsl
    obtain⟨n,hn⟩:∃n,q.v.set.length=n:=⟨_,rfl⟩
    have hnb:=HB3.out q hqm
    rw [hn]at hsl hnb
    have HFS:Hid (FO V2.heap.size wr 3 1 (.slice (some ⟨g,0,none⟩) n n) n):=(HS2.out.foS hq hg hn).below hbl
    have HBL:Hid _:=hbl
    clear hq hg hn hsp hqm hbl
    go_wp2
    clear c10 hsl
    go_loopg [7,8] 9 (fun gk pv pk wr=>∃k:Nat,k+gk=9∧pk=.int .i64 k∧FO V2.heap.size wr 3 1 pv (n+k)∧Below V2.heap.size V2 wr)
    case atStart=>exact⟨0,by omega,rfl,HFS.out,HBL.out⟩
    case round=>
     obtain⟨k,hk,rfl,hfo,hbl⟩:=hrel
     by_cases hlt2:k<9
     ·have hlt2':(k:Int)<9:=by omega
      obtain⟨W5,hW5⟩:∃W5,wr.alloc (.cells #[.int .i64 (-9000)] 3)=W5:=⟨_,rfl⟩
      have b5:Below wr.heap.size wr W5:=by rw [← hW5];exact(Below.refl _ _).alloc (Nat.le_refl _) _
      have hn5:W5.heap[wr.heap.size]?=some (.cells #[.int .i64 (-9000)] 3 (0,0)):=by rw [← hW5];exact heap_alloc_new wr _
      have HFO:Hid (FO V2.heap.size W5 3 1 u7 (n+k)):=hfo.below b5
      have HB5:Hid (Below V2.heap.size V2 W5):=hbl.trans (b5.mono hbl.size)
      have HN5:Hid _:=hn5
      clear hfo hbl b5 hn5
      go_wp2_with (at_builtin;refine wp_fo (B:=V2.heap.size) rfl (.tmp 81) (.tmp 82) 53 rfl 3 i3 _ 1 8 Tryz.underlying53 hi3 hz30 hz31 hz32 rfl (by omega) u7 (n+k) rfl HFO.out HB5.out.size ⟨wr.heap.size,0,none⟩ [.int .i64 (-9000)] rfl rfl (World.news_of_block (cs:= #[.int .i64 (-9000)]) (t:=3) (fr:=(0,0)) HN5.out) (by simp [Value.oneCell']) (by omega) (by omega) ?_;intro v6 w6 hf6 hb6 _;have HF6:Hid _:=hf6;have HB6:Hid (Below V2.heap.size V2 w6):=HB5.out.trans hb6;clear hf6 hb6)
      go_roundg (9 - (k+1))
      case measure=>omega
      case rel=>exact⟨k+1,by omega,by go_num,HF6.out,HB6.out⟩
     ·have hlt2':¬(k:Int)<9:=by omega
      have HBL2:Hid _:=hbl
      clear hfo hbl
      go_wp2
      go_roundg (m - (i+1))
      case measure=>omega
      case rel=>exact⟨i+1,by omega,by go_num,HBL2.out⟩
   ·have hlt':¬(i:Int)<m:=by omega
    have HBL:Hid _:=hbl
    clear hbl
    go_wp2
    go_meet
    exact HBL.out
 case rest=>
 have hbl3:=hcut
 obtain⟨V3,hV⟩:∃V:World,V=wc:=⟨_,rfl⟩
 rw [← hV]at hbl3
 rw [← hV]
 have HB3':Hid (Below V2.heap.size V2 V3):=hbl3
 obtain⟨c9,c10⟩:=HCY.out V3 hbl3
 clear hV hbl3 hcut
 go_upto_block 10 with fail
 clear c9 c10
 go_cut [] (fun y=>Below V2.heap.size V2 y)
 case first=>
  go_wp2_with fail
  go_loopg [9,10,11] 9 (fun gk pj pa pk wr=>∃k:Nat,k+gk=9∧pk=.int .i64 k∧FO V2.heap.size wr 55 8 pj (m+k)∧FO V2.heap.size wr 52 5 pa (nA+k)∧Below V2.heap.size V2 wr)
  case atStart=>exact⟨0,by omega,rfl,HFJ.out V3 HB3'.out,HFA.out V3 HB3'.out,HB3'.out⟩
  case round=>
   obtain⟨k,hk,rfl,hfj,hfa,hbl⟩:=hrel
   by_cases hlt2:k<9
   ·have hlt2':(k:Int)<9:=by omega
    obtain⟨W5,hW5⟩:∃W5,wr.alloc (.cells #[.int .i64 (-9000),.int .i64 0,.int .i64 0,.int .i64 0,.int .i64 0,.int .i64 0,.int .i64 0,.slice none 0 0] 55)=W5:=⟨_,rfl⟩
    have b5:Below wr.heap.size wr W5:=by rw [← hW5];exact(Below.refl _ _).alloc (Nat.le_refl _) _
    have hn5:W5.heap[wr.heap.size]?=some (.cells #[.int .i64 (-9000),.int .i64 0,.int .i64 0,.int .i64 0,.int .i64 0,.int .i64 0,.int .i64 0,.slice none 0 0] 55 (0,0)):=by rw [← hW5];exact heap_alloc_new wr _
    have HFJ5:Hid (FO V2.heap.size W5 55 8 u9 (m+k)):=hfj.below b5
    have HFA5:Hid (FO V2.heap.size W5 52 5 u10 (nA+k)):=hfa.below b5
    have HB5:Hid (Below V2.heap.size V2 W5):=hbl.trans (b5.mono hbl.size)
    have HN5:Hid _:=hn5
    clear hfj hfa hbl b5 hn5
    go_upto_region 27 with(at_builtin;refine wp_fo (B:=V2.heap.size) rfl (.tmp 92) (.tmp 94) 25 rfl 55 i8 _ 8 80 Tryz.underlying25 hi8 hz80 hz81 hz82 rfl (by omega) u9 (m+k) rfl HFJ5.out HB5.out.size ⟨wr.heap.size,0,none⟩ [.int .i64 (-9000),.int .i64 0,.int .i64 0,.int .i64 0,.int .i64 0,.int .i64 0,.int .i64 0,.slice none 0 0] rfl rfl (World.news_of_block (cs:= #[.int .i64 (-9000),.int .i64 0,.int .i64 0,.int .i64 0,.int .i64 0,.int .i64 0,.int .i64 0,.slice none 0 0]) (t:=55) (fr:=(0,0)) HN5.out) (by simp [Value.oneCell']) (by omega) (by omega) ?_;intro v6 w6 hf6 hb6 ho6;have HF6:Hid (FO V2.heap.size w6 55 8 v6 (m+k+1)):=hf6;have HFA6:Hid (FO V2.heap.size w6 52 5 u10 (nA+k)):=ho6 52 5 (nA+k) u10 (by decide) HFA5.out;have HB6:Hid (Below V2.heap.size V2 w6):=HB5.out.trans hb6;clear hf6 hb6 ho6)
    clear HFJ5 HFA5 HB5 HN5 hW5
    obtain⟨W7,hW7⟩:∃W7,w6.alloc (.cells #[.string ⟨#[]⟩,.int .i64 (-9000),.int .i64 0,.bool false,.int .u64 0] 52)=W7:=⟨_,rfl⟩
    have b7:Below w6.heap.size w6 W7:=by rw [← hW7];exact(Below.refl _ _).alloc (Nat.le_refl _) _
    have hn7:W7.heap[w6.heap.size]?=some (.cells #[.string ⟨#[]⟩,.int .i64 (-9000),.int .i64 0,.bool false,.int .u64 0] 52 (0,0)):=by rw [← hW7];exact heap_alloc_new w6 _
    have HFJ7:Hid (FO V2.heap.size W7 55 8 v6 (m+k+1)):=HF6.out.below b7
    have HFA7:Hid (FO V2.heap.size W7 52 5 u10 (nA+k)):=HFA6.out.below b7
    have HB7:Hid (Below V2.heap.size V2 W7):=HB6.out.trans (b7.mono HB6.out.size)
    have HN7:Hid _:=hn7
    clear b7 hn7 HF6 HFA6 HB6
    go_wp2_with (at_builtin;refine wp_fo (B:=V2.heap.size) rfl (.tmp 96) (.tmp 98) 24 rfl 52 i5 _ 5 48 Tryz.underlying24 hi5 hz50 hz51 hz52 rfl (by omega) u10 (nA+k) rfl HFA7.out HB7.out.size ⟨w6.heap.size,0,none⟩ [.string ⟨#[]⟩,.int .i64 (-9000),.int .i64 0,.bool false,.int .u64 0] rfl rfl (World.news_of_block (cs:= #[.string ⟨#[]⟩,.int .i64 (-9000),.int .i64 0,.bool false,.int .u64 0]) (t:=52) (fr:=(0,0)) HN7.out) (by simp [Value.oneCell']) (by omega) (by omega) ?_;intro v8 w8 hf8 hb8 ho8;have HF8:Hid (FO V2.heap.size w8 52 5 v8 (nA+k+1)):=hf8;have HFJ8:Hid (FO V2.heap.size w8 55 8 v6 (m+k+1)):=ho8 55 8 (m+k+1) v6 (by decide) HFJ7.out;have HB8:Hid (Below V2.heap.size V2 w8):=HB7.out.trans hb8;clear hf8 hb8 ho8)
    go_roundg (9 - (k+1))
    case measure=>omega
    case rel=>exact⟨k+1,by omega,by go_num,HFJ8.out,HF8.out,HB8.out⟩
   ·have hlt2':¬(k:Int)<9:=by omega
    have HBL2:Hid _:=hbl
    clear hfj hfa hbl
    go_wp2
    go_meet
    exact HBL2.out
 case rest=>
 have hbl4:=hcut
 obtain⟨V4,hV⟩:∃V:World,V=wc:=⟨_,rfl⟩
 rw [← hV]at hbl4
 rw [← hV]
 obtain⟨k9,k10⟩:=HCY.out V4 hbl4
 have HS4:Hid (SpI V4 gA gJ nA qs m 0 nA):=HS2.out.below hbl4
 have HK9:Hid _:=k9
 have HK10:Hid _:=k10
 have HB4:Hid _:=hbl4
 clear hV hbl4 hcut HB3' HFJ HFA HCY k9 k10 hz30 hz31 hz32 hz50 hz51 hz52 hz80 hz81 hz82 hi3 hi5 hi8
 go_upto_block 12 with fail
 go_cut [] (fun y=>y=V4)
 case first=>
  go_wp2_with fail
  go_loopg [12] m (fun gk pk wr=>∃i:Nat,i+gk=m∧pk=.int .i64 i∧V4=wr)
  case atStart=>exact⟨0,by omega,rfl,rfl⟩
  case round=>
   obtain⟨i,hi,rfl,rfl⟩:=hrel
   have c10:=HK10.out
   by_cases hlt:i<m
   ·have hlt':(i:Int)<m:=by omega
    have hi0:(0:Int)≤i:=by omega
    obtain rfl:=HJ.out (by omega)
    obtain⟨q,hq⟩:∃q,qs[i]?=some q:=⟨_,List.getElem?_eq_getElem (by rw [HM.out];exact hlt)⟩
    obtain⟨g,hg⟩:=HS4.out.saddr hq
    have hsl:=HS4.out.jslice hq
    have hqm:=List.mem_of_getElem? hq
    rw [hg,HSC.out q hqm]at hsl
    obtain⟨n,hn⟩:∃n,q.v.set.length=n:=⟨_,rfl⟩
    have hnb:=HB3.out q hqm
    rw [hn]at hsl hnb
    have HSM:Hid (∀t,t<n→V4.cell? ⟨g,t,none⟩=some (mrk i)):=fun t ht=>HS4.out.smark hq hg (by rw [hn];exact ht) hlt
    have HJM:Hid (V4.cell? ⟨gJ,i*8,none⟩=some (mrk i)):=HS4.out.jmark hlt (by rw [HM.out];exact hlt)
    have hwr:wrap64 (-10 - (i:Int))= -10 - (i:Int):=by unfold wrap64;omega
    clear hq hg hn hqm
    go_wp2
    go_loopg [13] n (fun gk pk wr=>∃k:Nat,k+gk=n∧pk=.int .i64 k∧V4=wr)
    case atStart=>exact⟨0,by omega,rfl,rfl⟩
    case round=>
     obtain⟨k,hk,rfl,rfl⟩:=hrel
     by_cases hlt2:k<n
     ·have hlt2':(k:Int)<n:=by omega
      have hk0:(0:Int)≤k:=by omega
      have cs:=HSM.out k hlt2
      go_wp2
      go_roundg (n - (k+1))
      case measure=>omega
      case rel=>exact⟨k+1,by omega,by go_num,rfl⟩
     ·have hlt2':¬(k:Int)<n:=by omega
      obtain rfl:k=n:=by omega
      have cj:=HJM.out
      go_wp2
      go_roundg (m - (i+1))
      case measure=>omega
      case rel=>exact⟨i+1,by omega,by go_num,rfl⟩
   ·have hlt':¬(i:Int)<m:=by omega
    obtain rfl:i=m:=by omega
    go_wp2
    go_meet
    rfl
 case rest=>
 rw [hcut]
 clear hcut
 go_upto_block 16 with fail
 go_cut [] (fun y=>y=V4)
 case first=>
  go_wp2_with fail
  go_loopg [14] nA (fun gk pk wr=>∃i:Nat,i+gk=nA∧pk=.int .i64 i∧V4=wr)
  case atStart=>exact⟨0,by omega,rfl,rfl⟩
  case round=>
   obtain⟨i,hi,rfl,rfl⟩:=hrel
   have c9:=HK9.out
   by_cases hlt:i<nA
   ·have hlt':(i:Int)<nA:=by omega
    have hi0:(0:Int)≤i:=by omega
    obtain rfl:=HA.out (by omega)
    have ca:=HS4.out.amark hlt hlt
    have hwr:wrap64 (-10 - (i:Int))= -10 - (i:Int):=by unfold wrap64;omega
    go_wp2
    go_roundg (nA - (i+1))
    case measure=>omega
    case rel=>exact⟨i+1,by omega,by go_num,rfl⟩
   ·have hlt':¬(i:Int)<nA:=by omega
    obtain rfl:i=nA:=by omega
    go_wp2
    go_meet
    rfl
 case rest=>
 rw [hcut]
 clear hcut
 go_wp2
 go_ret
 exact⟨rfl,⟨HB4.out.os.trans (HC2.out.os.trans HBW.out.os),HB4.out.tape.trans (HC2.out.tape.trans HBW.out.tape),HB4.out.output.trans (HC2.out.output.trans HBW.out.output),Nat.le_trans HBW.out.size (Nat.le_trans HC2.out.size HB4.out.size),fun b hb hne=>(HB4.out.block b (Nat.lt_of_lt_of_le (Nat.lt_of_lt_of_le hb HBW.out.size) HC2.out.size)).trans ((HC2.out.block b (Nat.lt_of_lt_of_le hb HBW.out.size) hne).trans (HBW.out.block b hb))⟩⟩
end Go.Proofs.YtceoibfliggalaaGreatDoor
