/-
  TEXTS: TbC, TbD, TbE, TbF.
-/
import Derived.Test.YtceoibfliggalaaGreatDoorKw39
import Derived.Test.YtceoibfliggalaaGreatDoorKw43
import Derived.Test.YtceoibfliggalaaGreatDoorKw42
import Derived.Test.YtceoibfliggalaaGreatDoorKw40
import Derived.Test.YtceoibfliggalaaGreatDoorKw44
import Derived.Test.YtceoibfliggalaaGreatDoorKw28
namespace Go.Proofs.YtceoibfliggalaaGreatDoor
open Go.RowKit Wd Tr Cg Lg
theorem acs_left {W:World} {ao:Option Addr} {l:List Ac} {a:Ac} (h:AcsAt W ao (l++ [a])):AcsAt W ao l∧∀g,ao=some ⟨g,0,none⟩→W.cell? ⟨g,l.length*5,none⟩=some (.string a.nm):=by
 obtain⟨g,o,h1,h2⟩:=h
 refine⟨⟨g,o,fun _=>h1 (by rw [List.length_append];exact Nat.succ_pos _),fun k b hb=>h2 k b (by rw [List.getElem?_append_left (List.getElem?_eq_some_iff.1 hb).1];exact hb)⟩,fun g' e=>?_⟩
 have:=(h2 l.length a (by simp)).nm
 have e2:=h1 (by rw [List.length_append];exact Nat.succ_pos _)
 rw [e]at e2
 cases e2
 rwa [Nat.zero_add]at this
theorem ints_left {W:World} {ao:Option Addr} {l:List Int} {a:Int} (h:IntsAt W ao (l++ [a])):IntsAt W ao l∧∀g,ao=some ⟨g,0,none⟩→W.cell? ⟨g,l.length,none⟩=some (.int .i64 a):=by
 obtain⟨g,o,h1,h2⟩:=h
 refine⟨⟨g,o,fun _=>h1 (by rw [List.length_append];exact Nat.succ_pos _),fun k b hb=>h2 k b (by rw [List.getElem?_append_left (List.getElem?_eq_some_iff.1 hb).1];exact hb)⟩,fun g' e=>?_⟩
 have:=h2 l.length a (by simp)
 have e2:=h1 (by rw [List.length_append];exact Nat.succ_pos _)
 rw [e]at e2
 cases e2
 rwa [Nat.zero_add]at this
theorem jobs_left {W:World} {ao:Option Addr} {l:List Jb} {a:Jb} (h:JobsAt W ao (l++ [a])):JobsAt W ao l∧∀g,ao=some ⟨g,0,none⟩→W.cell? ⟨g,l.length*8,none⟩=some (.int .i64 a.ac):=by
 obtain⟨g,o,h1,h2⟩:=h
 refine⟨⟨g,o,fun _=>h1 (by rw [List.length_append];exact Nat.succ_pos _),fun k b hb=>h2 k b (by rw [List.getElem?_append_left (List.getElem?_eq_some_iff.1 hb).1];exact hb)⟩,fun g' e=>?_⟩
 have:=(h2 l.length a (by simp)).ac
 have e2:=h1 (by rw [List.length_append];exact Nat.succ_pos _)
 rw [e]at e2
 cases e2
 rwa [Nat.zero_add]at this
theorem Lent.accs {w:World} {B:Nat} {la:List Ac} {ps:List Pj} {ga ca gj cj:Nat} {vs:Value} {qs:List Pj} (h:Lent w B la ps ga ca gj cj vs qs):AcsAt w (some ⟨ga,0,none⟩) la∧w.cell? ⟨ga,la.length*5,none⟩=some (.string markA.nm):=by
 have:=acs_own (l:=la++ [markA]) (by rw [List.length_append];exact h.lnd.acc)
 exact⟨(acs_left this).1,(acs_left this).2 ga rfl⟩
theorem Lent.len {w:World} {B:Nat} {la:List Ac} {ps:List Pj} {ga ca gj cj:Nat} {vs:Value} {qs:List Pj} (h:Lent w B la ps ga ca gj cj vs qs):qs.length=ps.length:=by
 have:=congrArg List.length h.vals
 rwa [List.length_map,List.length_map]at this
theorem Lent.set {w:World} {B:Nat} {la:List Ac} {ps:List Pj} {ga ca gj cj:Nat} {vs:Value} {qs:List Pj} (h:Lent w B la ps ga ca gj cj vs qs) {q:Pj} (hq:q∈qs):∃g,q.sa=some ⟨g,0,none⟩∧q.v.set.length+1≤q.sc∧IntsAt w q.sa q.v.set∧w.cell? ⟨g,q.v.set.length,none⟩=some (.int .i64 (-77)):=by
 have h1:=h.lnd.sets q hq
 obtain⟨g,cap,e,hc⟩:=own_some h1
 have e2:q.sa=some ⟨g,0,none⟩∧q.sc=cap:=by
  unfold slV at e
  injection e with e1 e2 e3
  exact⟨e1,e3⟩
 have h2:=ints_own (l:=q.v.set++ [-77]) (ao:=q.sa) (cap:=q.sc) (B:=B) (W:=w) (by rw [List.length_append];exact h1)
 exact⟨g,e2.1,by rw [e2.2];exact hc,(ints_left h2).1,(ints_left h2).2 g e2.1⟩
theorem Lent.jobs {w:World} {B:Nat} {la:List Ac} {ps:List Pj} {ga ca gj cj:Nat} {vs:Value} {qs:List Pj} (h:Lent w B la ps ga ca gj cj vs qs):PjsAt w (some ⟨gj,0,none⟩) qs∧w.cell? ⟨gj,ps.length*8,none⟩=some (.int .i64 (-77)):=by
 have h1:=jobs_own (l:=qs++ [markJ]) (by have:=h.lnd.job;rw [List.length_append]at this ⊢;rw [show qs.length+ [markJ].length=ps.length+1 from by rw [h.len];rfl]at this ⊢;exact this)
 rw [List.map_append]at h1
 have h2:=jobs_left (a:=markJ.jb) h1
 refine⟨⟨h2.1,fun p hp=>?_⟩,?_⟩
 ·obtain ⟨_,_,_,h3,_⟩:=h.set hp
  exact h3
 ·have:=h2.2 gj rfl
  rw [List.length_map,h.len]at this
  exact this
theorem Lent.stand {w w':World} {B:Nat} {la:List Ac} {ps:List Pj} {ga ca gj cj:Nat} {vs:Value} {qs:List Pj} (h:Lent w B la ps ga ca gj cj vs qs) (b:Below w.heap.size w w'):Lent w' B la ps ga ca gj cj vs qs:=⟨h.lnd.stand b,h.vals⟩
structure Tn (B E:Nat) (w w':World):Prop where
 os:w'.os=w.os
 tape:w'.tape=w.tape
 output:w'.output=w.output
 size:w.heap.size≤w'.heap.size
 block:∀k,k<w.heap.size→(k<B∨E≤k)→w'.heap[k]?=w.heap[k]?
theorem Tn.refl (B E:Nat) (w:World):Tn B E w w:=⟨rfl,rfl,rfl,Nat.le_refl _,fun _ _ _=>rfl⟩
theorem Tn.of_below {B E:Nat} {w w':World} (b:Below w.heap.size w w'):Tn B E w w':=⟨b.os,b.tape,b.output,b.size,fun k hk _=>b.block k hk⟩
theorem Tn.trans {B E:Nat} {w w1 w2:World} (a:Tn B E w w1) (b:Tn B E w1 w2):Tn B E w w2:=⟨b.os.trans a.os,b.tape.trans a.tape,b.output.trans a.output,Nat.le_trans a.size b.size,fun k hk h=>(b.block k (Nat.lt_of_lt_of_le hk a.size) h).trans (a.block k hk h)⟩
theorem Tn.set {B E g:Nat} {w w':World} (a:Tn B E w w') (h1:B≤g) (h2:g<E) (i:Nat) (u:Value):Tn B E w (w'.setCell ⟨g,i,none⟩ u):=
 a.trans ⟨rfl,rfl,rfl,by rw [World.size_setCell];exact Nat.le_refl _,fun k _ h=>Below.heap_setCell _ _ _ _ (show k≠g by omega)⟩
def Blk (w:World) (B E e sz g n:Nat):Prop:=B≤g∧g<E∧∃cur,w.heap[g]?=some (.cells cur e (0,0))∧n*sz≤cur.size
theorem Blk.of_row {w:World} {B E e sz n g cap:Nat} {xs:List Value} (h:w.ownsRow B e sz (.slice (some ⟨g,0,none⟩) n cap) n xs) (hE:g<E):Blk w B E e sz g n:=by
 rcases h.2 with⟨e1,_⟩ | ⟨g',cap',cur,e1,h1,h2,h3,h4,h5,_⟩
 ·cases e1
 ·cases e1
  exact⟨h1,hE,cur,h2,by rw [h5];exact Nat.mul_le_mul_right _ h3⟩
theorem Blk.set {w:World} {B E e sz n g g':Nat} {cs:Array Value} {t:TypeId} (h:Blk w B E e sz g n) (hg:w.heap[g']?=some (.cells cs t (0,0))) (i:Nat) (u:Value):Blk (w.setCell ⟨g',i,none⟩ u) B E e sz g n:=by
 obtain⟨h1,h2,cur,h3,h4⟩:=h
 by_cases e1:g=g'
 ·subst e1
  exact⟨h1,h2,_,heap_setCell_same w g i _ e u h3,by rw [Array.size_setIfInBounds];exact h4⟩
 ·exact ⟨h1,h2,cur,(Below.heap_setCell _ _ _ _ e1).trans h3,h4⟩
theorem Blk.cell {w:World} {B E e sz n g:Nat} (h:Blk w B E e sz g n) {j:Nat} (hj:j<n*sz):∃u,w.cell? ⟨g,j,none⟩=some u∧w.frozen? ⟨g,j,none⟩=false:=by
 obtain⟨_,_,cur,h3,h4⟩:=h
 obtain⟨u,hu⟩:∃u,cur[j]?=some u:=⟨_,Array.getElem?_eq_getElem (show j<cur.size by omega)⟩
 exact⟨u,cells_at h3 hu,frozen_at h3⟩
theorem Blk.at {w:World} {B E e sz n g:Nat} (h:Blk w B E e sz g n):∃cur,w.heap[g]?=some (.cells cur e (0,0)):=by
 obtain⟨_,_,cur,h3,_⟩:=h
 exact⟨cur,h3⟩
end Go.Proofs.YtceoibfliggalaaGreatDoor
namespace Go.Proofs.YtceoibfliggalaaGreatDoor
open Go.RowKit Wd Tr Cg Lg
structure Ovr (W wr:World) (B E:Nat) (vs:Value) (ga gj:Nat) (L N:Nat) (qs:List Pj):Prop where
 tn:Tn B E W wr
 row:wr.ownsRow B 53 1 vs N (qs.map slV)
 acc:Blk wr B E 52 5 ga (L+1)
 job:Blk wr B E 55 8 gj (N+1)
 sets:∀q∈qs,∀g,q.sa=some ⟨g,0,none⟩→Blk wr B E 3 1 g (q.v.set.length+1)
theorem Ovr.put {W wr:World} {B E ga gj L N g i:Nat} {vs u:Value} {qs:List Pj} {cs:Array Value} {t:TypeId} (h:Ovr W wr B E vs ga gj L N qs) (hg:wr.heap[g]?=some (.cells cs t (0,0))) (h1:B≤g) (h2:g<E) (ht:53≠t):Ovr W (wr.setCell ⟨g,i,none⟩ u) B E vs ga gj L N qs:=
 ⟨h.tn.set h1 h2 i u,row_set h.row hg ht i u,h.acc.set hg i u,h.job.set hg i u,fun q hq g' e=>(h.sets q hq g' e).set hg i u⟩
theorem Ovr.puts {W:World} {B E ga gj L N g:Nat} {vs:Value} {qs:List Pj} {t:TypeId} (h1:B≤g) (h2:g<E) (ht:53≠t):∀(l:List Value) (i:Nat) (wr:World) (cs:Array Value),wr.heap[g]?=some (.cells cs t (0,0))→Ovr W wr B E vs ga gj L N qs→Ovr W (setsW g l i wr) B E vs ga gj L N qs
 | [],_,_,_,_,h=>h
 | u::l,i,wr,cs,hg,h=>Ovr.puts h1 h2 ht l (i+1) _ _ (heap_setCell_same wr g i cs t u hg) (h.put (i:=i) (u:=u) hg h1 h2 ht)
theorem Blk.below {w w':World} {B E e sz g n:Nat} (h:Blk w B E e sz g n) (b:Below w.heap.size w w'):Blk w' B E e sz g n:=by
 obtain⟨h1,h2,cur,h3,h4⟩:=h
 exact⟨h1,h2,cur,(b.block _ (lt_of_blk h3)).trans h3,h4⟩
theorem Ovr.below {W wr w':World} {B E ga gj L N:Nat} {vs:Value} {qs:List Pj} (h:Ovr W wr B E vs ga gj L N qs) (b:Below wr.heap.size wr w'):Ovr W w' B E vs ga gj L N qs:=
 ⟨h.tn.trans (Tn.of_below b),row_stand h.row (fun k hk=>b.block k (h.row.lt k hk).2),h.acc.below b,h.job.below b,fun q hq g e=>(h.sets q hq g e).below b⟩
set_option maxRecDepth 20000 in
set_option maxHeartbeats 8000000 in
theorem still_any {w wE:World} (c:Cf) (now:Int) {ao:Option Addr} {la:List Ac} {ca:Nat} {jo:Option Addr} {ps:List Pj} {cj:Nat} (hd:Int) (h:StIn w ao la ca jo ps cj) {B ga ca' gj cj':Nat} {vs:Value} {qs:List Pj} (hl:Lent wE B la ps ga ca' gj cj' vs qs) (hb:Below wE.heap.size wE w) (hla:la.length≤2147483647) (hps:ps.length≤2147483647) (hsl:∀p∈ps,p.v.set.length≤2147483647):
  Calls Tryz.prog 14 #[.agg (lsC c now (.slice (some ⟨ga,0,none⟩) la.length ca') (.slice (some ⟨gj,0,none⟩) ps.length cj') hd (.slice (some ⟨ga,0,none⟩) (la.length+1) ca') (.slice (some ⟨gj,0,none⟩) (ps.length+1) cj') vs),.agg (stL c now ao la.length ca jo ps.length cj hd)] w fun e w'=>e=.returned (.bool true)∧Tn B wE.heap.size w w':=by
 have hlw:=hl.stand hb
 obtain⟨g,o,hg,hrow⟩:=row_at h.jobs
 obtain⟨av,cv,hvs,hcv,hvn,hvg⟩:=own_val hl.lnd.row
 obtain⟨gA2,cA2,hA2,hcA⟩:=own_some hl.lnd.acc
 have hj0:=hl.lnd.job
 rw [List.length_append,show qs.length+ [markJ].length=ps.length+1 from by rw [hl.len];rfl]at hj0
 obtain⟨gJ2,cJ2,hJ2,hcJ⟩:=own_some hj0
 have hca:la.length+1≤ca':=by cases hA2;exact hcA
 have hcj:ps.length+1≤cj':=by cases hJ2;exact hcJ
 have hE:wE.heap.size≤w.heap.size:=hb.size
 have hWA:Blk w B wE.heap.size 52 5 ga (la.length+1):=Blk.of_row hlw.lnd.acc (hl.lnd.acc.lt ga rfl).2
 have hWJ:Blk w B wE.heap.size 55 8 gj (ps.length+1):=by
  have h9:=hlw.lnd.job
  rw [List.length_append,show qs.length+ [markJ].length=ps.length+1 from by rw [hl.len];rfl]at h9
  exact Blk.of_row h9 (hj0.lt gj rfl).2
 have hWS:∀q∈qs,∀g,q.sa=some ⟨g,0,none⟩→Blk w B wE.heap.size 3 1 g (q.v.set.length+1):=fun q hq g e=>by
  have h1:=hlw.lnd.sets q hq
  have h2:=hl.lnd.sets q hq
  unfold slV at h1 h2
  rw [e]at h1 h2
  exact Blk.of_row h1 (h2.lt g rfl).2
 obtain⟨W,hW⟩:∃W,(w.alloc (.cells (lsC c now (.slice (some ⟨ga,0,none⟩) la.length ca') (.slice (some ⟨gj,0,none⟩) ps.length cj') hd (.slice (some ⟨ga,0,none⟩) (la.length+1) ca') (.slice (some ⟨gj,0,none⟩) (ps.length+1) cj') vs) 33)).alloc (.cells (stL c now ao la.length ca jo ps.length cj hd) 27)=W:=⟨_,rfl⟩
 have bW:Below w.heap.size w W:=by rw [← hW];exact((Below.refl _ w).alloc (Nat.le_refl _) _).alloc (by simp) _
 have zW:W.heap.size=w.heap.size+2:=by rw [← hW];simp
 have hXB:W.heap[w.heap.size]?=some (.cells (lsC c now (.slice (some ⟨ga,0,none⟩) la.length ca') (.slice (some ⟨gj,0,none⟩) ps.length cj') hd (.slice (some ⟨ga,0,none⟩) (la.length+1) ca') (.slice (some ⟨gj,0,none⟩) (ps.length+1) cj') vs) 33 (0,0)):=by rw [← hW];exact(Below.heap_alloc _ _ _ (by simp)).trans (heap_alloc_new w _)
 have hSB:W.heap[w.heap.size+1]?=some (.cells (stL c now ao la.length ca jo ps.length cj hd) 27 (0,0)):=by
  have:=heap_alloc_new (w.alloc (.cells (lsC c now (.slice (some ⟨ga,0,none⟩) la.length ca') (.slice (some ⟨gj,0,none⟩) ps.length cj') hd (.slice (some ⟨ga,0,none⟩) (la.length+1) ca') (.slice (some ⟨gj,0,none⟩) (ps.length+1) cj') vs) 33)) (.cells (stL c now ao la.length ca jo ps.length cj hd) 27)
  rw [hW,World.size_alloc]at this
  exact this
 have hwW:=hlw.stand bW
 have HBW:Hid (Below w.heap.size w W):=bW
 have HAC:Hid (∀x,Below W.heap.size W x→x.cell? ⟨ga,la.length*5,none⟩=some (.string markA.nm)):=fun x b=>(hwW.stand b).accs.2
 have HJC:Hid (∀x,Below W.heap.size W x→x.cell? ⟨gj,ps.length*8,none⟩=some (.int .i64 (-77))):=fun x b=>(hwW.stand b).jobs.2
 have HSA:Hid (∀x,Below W.heap.size W x→Calls Tryz.prog 30 #[.slice (some ⟨ga,0,none⟩) la.length ca',.slice ao la.length ca] x (Tells x (la=la))):=fun x b=>sameAccounts_b ca' ca (hwW.stand b).accs.1 ((h.below bW).below b).acs (by omega)
 have HSJ:Hid (∀x,Below W.heap.size W x→Calls Tryz.prog 31 #[.slice (some ⟨gj,0,none⟩) ps.length cj',.slice jo ps.length cj] x (Tells x (qs.map Pj.v=ps.map Pj.v))):=fun x b=>by
  have h8:=sameJobs_b cj' cj (hwW.stand b).jobs.1 ((h.below bW).below b).jobs (by rw [hl.len];omega) (fun q hq=>by
   have h9:q.v∈ps.map Pj.v:=by rw [← hl.vals];exact List.mem_map_of_mem hq
   obtain⟨p,hp,e⟩:=List.mem_map.1 h9
   rw [← e]
   have:=hsl p hp
   omega)
  rw [hl.len]at h8
  exact h8
 have HPR:Hid (∀x,Below W.heap.size W x→∀(k:Nat) (p:Pj),ps[k]?=some p→∃(q:Pj) (gq:Nat),qs[k]?=some q∧q.v=p.v∧q.sa=some ⟨gq,0,none⟩∧p.v.set.length+1≤q.sc∧x.cell? ⟨gq,p.v.set.length,none⟩=some (.int .i64 (-77))∧JbAt x g (o+k*8) p.jb∧Calls Tryz.prog 32 #[.slice q.sa p.v.set.length q.sc,.slice p.sa p.v.set.length p.sc] x (Tells x True)):=fun x b k p hp=>by
  have e1:(qs.map Pj.v)[k]?=some p.v:=by rw [hl.vals,List.getElem?_map,hp];rfl
  rw [List.getElem?_map]at e1
  cases hq:qs[k]? with
  | none=>rw [hq]at e1;cases e1
  | some q=>
   rw [hq]at e1
   have e2:q.v=p.v:=Option.some.inj e1
   obtain⟨gq,s1,s2,s3,s4⟩:=(hwW.stand b).set (List.mem_of_getElem? hq)
   rw [e2]at s2 s3 s4
   have:=sameInts_b (w:=x) q.sc p.sc s3 (((h.below bW).below b).jobs.sets p (List.mem_of_getElem? hp)) (by have:=hsl p (List.mem_of_getElem? hp);omega)
   rw [show (p.v.set=p.v.set)=True from eq_self _]at this
   exact⟨q,gq,rfl,e2,s1,s2,s4,hrow x (bW.trans (b.mono bW.size)) k p hp,this⟩
 have HVR:Hid (∀x,Below W.heap.size W x→x.ownsRow B 53 1 vs qs.length (qs.map slV)):=fun x b=>(hwW.stand b).lnd.row
 have HOV:Hid (Ovr W W B wE.heap.size vs ga gj la.length qs.length qs):=⟨Tn.refl _ _ _,hwW.lnd.row,by
   have:=hwW.lnd.acc;exact Blk.of_row this (hl.lnd.acc.lt ga rfl).2,by
   have h9:=hwW.lnd.job
   rw [List.length_append,show qs.length+ [markJ].length=ps.length+1 from by rw [hl.len];rfl]at h9
   have:=Blk.of_row h9 (hj0.lt gj rfl).2
   rw [← hl.len]at this
   exact this,fun q hq g e=>by
   have h1:=hwW.lnd.sets q hq
   have h2:=hl.lnd.sets q hq
   unfold slV at h1 h2
   rw [e]at h1 h2
   exact Blk.of_row h1 (h2.lt g rfl).2⟩
 have HQN:Hid (∀k,k<ps.length→k<qs.length):=fun k hk=>by rw [hl.len];exact hk
 have HVL:Hid (qs.length=ps.length):=hl.len
 have HVV:Hid (qs.map Pj.v=ps.map Pj.v):=hl.vals
 have hCL:∀x:World,Tn B wE.heap.size W x→x.heap[w.heap.size]?=W.heap[w.heap.size]?∧x.heap[w.heap.size+1]?=W.heap[w.heap.size+1]?:=fun x b=>⟨b.block _ (by omega) (.inr hE),b.block _ (by omega) (.inr (by omega))⟩
 obtain⟨L,hL⟩:∃L,la.length=L:=⟨_,rfl⟩
 obtain⟨N,hN⟩:∃N,ps.length=N:=⟨_,rfl⟩
 rw [hl.len]at hvs hvn HOV HVR
 rw [hL]at hla hXB hSB HAC HSA HOV hca ⊢
 rw [hN]at hps hXB hSB HJC HSJ HOV HVR hg hvs hvn hcj HVL HQN ⊢
 subst hvs
 unfold lsC at hXB hW ⊢
 unfold stL at hSB hW ⊢
 have HCL:Hid (∀x:World,Tn B wE.heap.size W x→x.cell? ⟨w.heap.size,12,none⟩=some (.slice (some ⟨ga,0,none⟩) (L+1) ca')∧x.cell? ⟨w.heap.size,13,none⟩=some (.slice (some ⟨gj,0,none⟩) (N+1) cj')∧x.cell? ⟨w.heap.size,14,none⟩=some (.slice av N cv)∧x.cell? ⟨w.heap.size+1,9,none⟩=some (.slice ao L ca)∧x.cell? ⟨w.heap.size+1,10,none⟩=some (.slice jo N cj)):=fun x b=>by
  have h1:=(hCL x b).1.trans hXB
  have h2:=(hCL x b).2.trans hSB
  exact⟨cells_at h1 rfl,cells_at h1 rfl,cells_at h1 rfl,cells_at h2 rfl,cells_at h2 rfl⟩
 have HG:Hid (0<N→jo=some ⟨g,o,none⟩):=hg
 have HVG:Hid (0<N→∃gv,av=some ⟨gv,0,none⟩):=fun h0=>by
  cases av with
  | none=>have:=(hvn rfl).1;omega
  | some a=>obtain⟨gv,e,_⟩:=hvg a rfl;exact⟨gv,by rw [e]⟩
 have HNN:Hid (ps.length=N):=hN
 have HSL:Hid (∀p∈ps,p.v.set.length≤2147483647):=hsl
 have HE:Hid (∀x,Tn B wE.heap.size W x→Tn B wE.heap.size w x):=fun x b=>(Tn.of_below bW).trans b
 rw [hL,hN]at hW
 clear h hl hb hlw hrow hWA hWJ hWS hwW bW zW hXB hSB hCL hg hvn hvg hcv hj0 hA2 hcA hJ2 hcJ hE hL hN hsl
 generalize wE.heap.size=E at *
 generalize qs.length=QN at *
 obtain⟨d12,d13,d14,d9,d10⟩:=HCL.out W (Tn.refl _ _ _)
 go_enter Tryz.func14,Tryz.ntmps14
 go_upto_region 3 with fail
 clear hW
 have hl1:(L:Int)≤ca':=by omega
 have hl2:(L:Int)<(L:Int)+1:=by omega
 have hl3:(N:Int)≤cj':=by omega
 have hl4:(N:Int)<(N:Int)+1:=by omega
 have hl5:(0:Int)≤L:=by omega
 have hl6:(0:Int)≤N:=by omega
 clear d12 d13 d14 d9 d10
 have HIS1:Hid (∀ {x x':World} {e:Ending},Tells x (la=la) e x'→e=.returned (.bool true)∧Below x.heap.size x x'):=fun t=>Tells.is rfl t
 refine wp_region_last (S:=(fun x':World=>Below W.heap.size W x')) (L:=99) (by kernel_rfl) ?_
 have HSW0:(fun x':World=>Below W.heap.size W x') (W.drew):=drew_below W
 have HF:Hid (∀xx:World,(fun x':World=>Below W.heap.size W x') xx→xx.cell? ⟨w.heap.size,12,none⟩=some (.slice (some ⟨ga,0,none⟩) (L+1) ca')∧xx.cell? ⟨w.heap.size,13,none⟩=some (.slice (some ⟨gj,0,none⟩) (N+1) cj')∧xx.cell? ⟨w.heap.size+1,9,none⟩=some (.slice ao L ca)∧xx.cell? ⟨w.heap.size+1,10,none⟩=some (.slice jo N cj)∧xx.cell? ⟨ga,L*5,none⟩=some (.string {data:= #[109,97,114,107]})∧xx.cell? ⟨gj,N*8,none⟩=some (.int .i64 (-77))∧True):=fun xx hSx=>by
  obtain⟨e12,e13,_,e9,e10⟩:=HCL.out xx (Tn.of_below hSx)
  exact⟨e12,e13,e9,e10,HAC.out xx hSx,HJC.out xx hSx,trivial⟩
 refine tk 0 HSW0 (h:=?_)
 refine tk 1 HSW0 (h:=?_)
 refine tk 2 HSW0 (h:=?_)
 refine tk 3 HSW0 (h:=?_)
 refine tk 4 HSW0 (h:=?_)
 refine tk 5 HSW0 (h:=?_)
 refine last_one (i:=6) (by kernel_rfl) rfl ?_
 intro K hK
 go_simp
 go_at_call 30
 refine(HSA.out _ HSW0).mono ?_
 rintro e Z1 hx
 obtain⟨rfl,bz1⟩:=HIS1.out hx
 have HSW1:(fun x':World=>Below W.heap.size W x') Z1:=Below.trans HSW0 (bz1.mono (Below.size HSW0))
 clear bz1 hx
 go_simp
 refine hK.out _ _ (fun _=>HSW1) (fun _=>?_)
 clear hK K
 refine tk 7 HSW1 (h:=?_)
 refine tk 8 HSW1 (h:=?_)
 refine tk 9 HSW1 (h:=?_)
 refine tk 10 HSW1 (h:=?_)
 refine tk 11 HSW1 (h:=?_)
 refine tk 12 HSW1 (h:=?_)
 refine tk 13 HSW1 (h:=?_)
 refine tk 14 HSW1 (h:=?_)
 refine tk 15 HSW1 (h:=?_)
 refine tk 16 HSW1 (h:=?_)
 refine tk 17 HSW1 (h:=?_)
 refine tk 18 HSW1 (h:=?_)
 refine tk 19 HSW1 (h:=?_)
 refine tk 20 HSW1 (h:=?_)
 refine tk 21 HSW1 (h:=?_)
 refine tk 22 HSW1 (h:=?_)
 have HIS2:Hid (∀ {x x':World} {e:Ending},Tells x (qs.map Pj.v=ps.map Pj.v) e x'→e=.returned (.bool true)∧Below x.heap.size x x'):=fun t=>Tells.is HVV.out t
 refine last_one (i:=23) (by kernel_rfl) rfl ?_
 intro K hK
 go_simp
 go_at_call 31
 refine(HSJ.out _ HSW1).mono ?_
 rintro e Z2 hx
 obtain⟨rfl,bz2⟩:=HIS2.out hx
 have HSW2:(fun x':World=>Below W.heap.size W x') Z2:=Below.trans HSW1 (bz2.mono (Below.size HSW1))
 clear bz2 hx
 go_simp
 refine hK.out _ _ (fun _=>HSW2) (fun _=>?_)
 clear hK K
 refine tk 24 HSW2 (h:=?_)
 refine tk 25 HSW2 (h:=?_)
 refine tk 26 HSW2 (h:=?_)
 refine tk 27 HSW2 (h:=?_)
 refine tk 28 HSW2 (h:=?_)
 refine tk 29 HSW2 (h:=?_)
 refine tk 30 HSW2 (h:=?_)
 refine tk 31 HSW2 (h:=?_)
 refine tk 32 HSW2 (h:=?_)
 refine tk 33 HSW2 (h:=?_)
 refine tk 34 HSW2 (h:=?_)
 refine last_done (by kernel_rfl) ?_ _
 clear HF HSW0 HSW1
 have HZ2:Hid (Below W.heap.size W Z2):=HSW2
 clear HSW2
 go_wp2
 go_loopg [7,8] N (fun gk pok pk wr=>∃(k:Nat),k+gk=N∧pok=.bool true∧pk=.int .i64 k∧Below W.heap.size W wr)
 case atStart=>exact⟨0,by omega,rfl,rfl,HZ2.out⟩
 case round=>
  obtain⟨k,hk,rfl,rfl,hbr⟩:=hrel
  have HBR:Hid (Below W.heap.size W wr):=hbr
  clear hbr HZ2
  by_cases hlt:k<N
  ·have hlt':(k:Int)<N:=by omega
   have hk0:(0:Int)≤k:=by omega
   obtain⟨p,hp⟩:∃p,ps[k]?=some p:=⟨_,List.getElem?_eq_getElem (by rw [HNN.out];exact hlt)⟩
   obtain⟨q,gq,hq,hqv,hqa,hqc,_,_,_⟩:=HPR.out wr HBR.out k p hp
   obtain rfl:=HG.out (by omega)
   obtain⟨gv,rfl⟩:=HVG.out (by omega)
   have HPS:Hid (∀x,Below W.heap.size W x→x.cell? ⟨gq,p.v.set.length,none⟩=some (.int .i64 (-77))∧x.cell? ⟨g,o+k*8+7,none⟩=some (.slice p.sa p.v.set.length p.sc)∧x.cell? ⟨gv,k,none⟩=some (.slice (some ⟨gq,0,none⟩) (p.v.set.length+1) q.sc)∧Calls Tryz.prog 32 #[.slice (some ⟨gq,0,none⟩) p.v.set.length q.sc,.slice p.sa p.v.set.length p.sc] x (Tells x True)):=fun x b=>by
    obtain⟨q',gq',h1,h2,h3,h4,h5,h6,h7⟩:=HPR.out x b k p hp
    rw [hq]at h1
    cases h1
    rw [hqa]at h3
    cases h3
    rw [hqa]at h7
    refine⟨h5,h6.se,?_,h7⟩
    have h8:=(HVR.out x b).cells (g:=gv) rfl k (slV q) (by rw [List.getElem?_map,hq];rfl)
    rw [Addr.add_lit,Nat.zero_add]at h8
    rw [h8]
    unfold slV
    rw [hqa,hqv]
   obtain⟨n,hn⟩:∃n,p.v.set.length=n:=⟨_,rfl⟩
   have hn1:n≤2147483647:=by rw [← hn];exact HSL.out p (List.mem_of_getElem? hp)
   have hq1:n+1≤q.sc:=by rw [← hn];exact hqc
   rw [hn]at HPS
   have hs1:(n:Int)≤q.sc:=by omega
   have hs2:(n:Int)<(n:Int)+1:=by omega
   have hs3:(0:Int)≤n:=by omega
   have HP3:Hid (∀ {x x':World} {e:Ending},Tells x True e x'→e=.returned (.bool true)∧Below x.heap.size x x'):=fun t=>Tells.is trivial t
   obtain⟨_,e7,_,_⟩:=HPS.out wr HBR.out
   obtain⟨_,_,_,_,f10⟩:=HCL.out wr (Tn.of_below HBR.out)
   clear hp hq hqv hqa hqc hn
   go_upto_region 8 with fail
   clear e7 f10
   refine wp_region_last (S:=(fun x':World=>Below W.heap.size W x')) (L:=99) (by kernel_rfl) ?_
   have HSV0:(fun x':World=>Below W.heap.size W x') (wr.drew):=HBR.out.trans ((drew_below wr).mono HBR.out.size)
   have HF:Hid (∀xx:World,(fun x':World=>Below W.heap.size W x') xx→xx.cell? ⟨w.heap.size,14,none⟩=some (.slice (some ⟨gv,0,none⟩) N cv)∧xx.cell? ⟨w.heap.size+1,10,none⟩=some (.slice (some ⟨g,o,none⟩) N cj)∧xx.cell? ⟨gq,n,none⟩=some (.int .i64 (-77))∧xx.cell? ⟨g,o+k*8+7,none⟩=some (.slice p.sa n p.sc)∧xx.cell? ⟨gv,k,none⟩=some (.slice (some ⟨gq,0,none⟩) (n+1) q.sc)∧True):=fun xx hSx=>by
    obtain⟨_,_,e14,_,e10⟩:=HCL.out xx (Tn.of_below hSx)
    obtain⟨f1,f2,f3,_⟩:=HPS.out xx hSx
    exact⟨e14,e10,f1,f2,f3,trivial⟩
   refine tk 0 HSV0 (h:=?_)
   refine tk 1 HSV0 (h:=?_)
   refine tk 2 HSV0 (h:=?_)
   refine tk 3 HSV0 (h:=?_)
   refine tk 4 HSV0 (h:=?_)
   refine tk 5 HSV0 (h:=?_)
   refine tk 6 HSV0 (h:=?_)
   refine tk 7 HSV0 (h:=?_)
   refine tk 8 HSV0 (h:=?_)
   refine tk 9 HSV0 (h:=?_)
   refine tk 10 HSV0 (h:=?_)
   refine tk 11 HSV0 (h:=?_)
   refine tk 12 HSV0 (h:=?_)
   refine tk 13 HSV0 (h:=?_)
   refine tk 14 HSV0 (h:=?_)
   refine last_one (i:=15) (by kernel_rfl) rfl ?_
   intro K hK
   go_simp
   go_at_call 32
   refine(HPS.out _ HSV0).2.2.2.mono ?_
   rintro e Z3 hx
   obtain⟨rfl,bz3⟩:=HP3.out hx
   have HSV1:(fun x':World=>Below W.heap.size W x') Z3:=Below.trans HSV0 (bz3.mono (Below.size HSV0))
   clear bz3 hx
   go_simp
   refine hK.out _ _ (fun _=>HSV1) (fun _=>?_)
   clear hK K
   refine tk 16 HSV1 (h:=?_)
   refine tk 17 HSV1 (h:=?_)
   refine tk 18 HSV1 (h:=?_)
   refine tk 19 HSV1 (h:=?_)
   refine tk 20 HSV1 (h:=?_)
   refine tk 21 HSV1 (h:=?_)
   refine tk 22 HSV1 (h:=?_)
   refine tk 23 HSV1 (h:=?_)
   refine tk 24 HSV1 (h:=?_)
   refine tk 25 HSV1 (h:=?_)
   refine tk 26 HSV1 (h:=?_)
   refine tk 27 HSV1 (h:=?_)
   refine tk 28 HSV1 (h:=?_)
   refine last_done (by kernel_rfl) ?_ _
   clear HF HSV0 HPS HP3 hs1 hs2 hs3 hn1 hq1
   have HZ3:Hid (Below W.heap.size W Z3):=HSV1
   clear HSV1
   go_wp2
   go_roundg (N - (k+1))
   case measure=>omega
   case rel=>exact⟨k+1,by omega,rfl,rfl,HZ3.out⟩
  ·obtain rfl:k=N:=by omega
   clear hlt
   have HO10:Hid (Ovr W wr B E (.slice av k cv) ga gj L k qs):=HOV.out.below HBR.out
   clear HBR HOV hl1 hl2 hl3 hl4 hl5 hl6
   go_wp2
   go_loopg [10] k (fun gk pk wr=>∃(i:Nat),i+gk=k∧pk=.int .i64 i∧Ovr W wr B E (.slice av k cv) ga gj L k qs)
   case atStart=>exact⟨0,by omega,rfl,HO10.out⟩
   case round=>
    obtain⟨i,hi,rfl,hov⟩:=hrel
    obtain⟨e12,e13,e14,e9,e10⟩:=HCL.out wr hov.tn
    by_cases hlt:i<k
    ·have hlt':(i:Int)<k:=by omega
     have hi0:(0:Int)≤i:=by omega
     have HOV2:Hid (Ovr W wr B E (.slice av k cv) ga gj L k qs):=hov
     clear hov
     obtain⟨p,hp⟩:∃p,ps[i]?=some p:=⟨_,List.getElem?_eq_getElem (by rw [HNN.out];exact hlt)⟩
     obtain⟨q,gq,hq,hqv,hqa,hqc,_,_,_⟩:=HPR.out W (Below.refl _ _) i p hp
     obtain⟨gv,rfl⟩:=HVG.out (by omega)
     obtain⟨n,hn⟩:∃n,p.v.set.length=n:=⟨_,rfl⟩
     have hn1:n≤2147483647:=by rw [← hn];exact HSL.out p (List.mem_of_getElem? hp)
     have HBQ:Hid (∀x,Ovr W x B E (.slice (some ⟨gv,0,none⟩) k cv) ga gj L k qs→Blk x B E 3 1 gq (n+1)):=fun x h=>by
      have:=h.sets q (List.mem_of_getElem? hq) gq hqa
      rw [hqv,hn]at this
      exact this
     have HVC:Hid (∀x,Ovr W x B E (.slice (some ⟨gv,0,none⟩) k cv) ga gj L k qs→x.cell? ⟨gv,i,none⟩=some (.slice (some ⟨gq,0,none⟩) (n+1) q.sc)∧x.cell? ⟨w.heap.size,14,none⟩=some (.slice (some ⟨gv,0,none⟩) k cv)):=fun x h=>by
      have h8:=h.row.cells (g:=gv) rfl i (slV q) (by rw [List.getElem?_map,hq];rfl)
      rw [Addr.add_lit,Nat.zero_add]at h8
      refine⟨?_,(HCL.out x h.tn).2.2.1⟩
      rw [h8]
      unfold slV
      rw [hqa,hqv,hn]
     clear hp hq hqv hqa hqc hn
     obtain⟨V4,hV4⟩:∃V4,V4=wr:=⟨_,rfl⟩
     subst hV4
     go_wp2
     go_loopg [11] (n+1) (fun gk pk wr=>∃(j:Nat),j+gk=n+1∧pk=.int .i64 j∧Ovr W wr B E (.slice (some ⟨gv,0,none⟩) k cv) ga gj L k qs)
     case atStart=>exact⟨0,by omega,rfl,HOV2.out⟩
     case round=>
      obtain⟨j,hj,rfl,hov⟩:=hrel
      obtain⟨y1,y14⟩:=HVC.out wr hov
      by_cases hlt2:j<n+1
      ·have hlt2':(j:Int)<(n:Int)+1:=by omega
       have hj0:(0:Int)≤j:=by omega
       obtain⟨u,hu1,hu2⟩:=(HBQ.out wr hov).cell (j:=j) (by omega)
       obtain⟨cur,hcur⟩:=(HBQ.out wr hov).at
       have HO4:Hid (Ovr W (wr.setCell ⟨gq,j,none⟩ (.int .i64 5)) B E (.slice (some ⟨gv,0,none⟩) k cv) ga gj L k qs):=hov.put hcur (HBQ.out wr hov).1 (HBQ.out wr hov).2.1 (by decide)
       clear hov hcur
       go_upto_region 14 with fail
       obtain⟨w5,hw5⟩:∃w5,wr.setCell ⟨gq,j,none⟩ (.int .i64 5)=w5:=⟨_,rfl⟩
       rw [hw5]at HO4 ⊢
       clear hw5 hu1 hu2 y1 y14
       go_wp2
       go_roundg (n+1 - (j+1))
       case measure=>omega
       case rel=>exact⟨j+1,by omega,rfl,HO4.out⟩
      ·have hlt2':¬(j:Int)<(n:Int)+1:=by omega
       have HO3:Hid (Ovr W wr B E (.slice (some ⟨gv,0,none⟩) k cv) ga gj L k qs):=hov
       clear hov
       go_wp2
       go_roundg (k - (i+1))
       case measure=>omega
       case rel=>exact⟨i+1,by omega,rfl,HO3.out⟩
    ·have hlt':¬(i:Int)<k:=by omega
     have HO12:Hid (Ovr W wr B E (.slice av k cv) ga gj L k qs):=hov
     clear hov HPR HVR HVG
     go_wp2
     go_loopg [12] (k+1) (fun gk pk wr=>∃(i:Nat),i+gk=k+1∧pk=.int .i64 i∧Ovr W wr B E (.slice av k cv) ga gj L k qs)
     case atStart=>exact⟨0,by omega,rfl,HO12.out⟩
     case round=>
      obtain⟨i,hi,rfl,hov⟩:=hrel
      obtain⟨e12,e13,e14,e9,e10⟩:=HCL.out wr hov.tn
      by_cases hlt:i<k+1
      ·have hlt':(i:Int)<(k:Int)+1:=by omega
       have hi0:(0:Int)≤i:=by omega
       obtain⟨u0,x0,f0⟩:=hov.job.cell (j:=i*8+0) (by omega)
       obtain⟨u1,x1,f1⟩:=hov.job.cell (j:=i*8+1) (by omega)
       obtain⟨u2,x2,f2⟩:=hov.job.cell (j:=i*8+2) (by omega)
       obtain⟨u3,x3,f3⟩:=hov.job.cell (j:=i*8+3) (by omega)
       obtain⟨u4,x4,f4⟩:=hov.job.cell (j:=i*8+4) (by omega)
       obtain⟨u5,x5,f5⟩:=hov.job.cell (j:=i*8+5) (by omega)
       obtain⟨u6,x6,f6⟩:=hov.job.cell (j:=i*8+6) (by omega)
       obtain⟨u7,x7,f7⟩:=hov.job.cell (j:=i*8+7) (by omega)
       simp only [Nat.add_zero]at x0 f0
       obtain⟨cur,hcur⟩:=hov.job.at
       obtain⟨w6,hw6⟩:∃w6,setsW gj [.int .i64 0,.int .i64 0,.int .i64 0,.int .i64 0,.int .i64 1,.int .i64 0,.int .i64 0,.slice none 0 0] (i*8) wr=w6:=⟨_,rfl⟩
       have hw7:((((((((wr).setCell ⟨gj,i*8,none⟩ (.int .i64 0)).setCell ⟨gj,i*8+1,none⟩ (.int .i64 0)).setCell ⟨gj,i*8+2,none⟩ (.int .i64 0)).setCell ⟨gj,i*8+3,none⟩ (.int .i64 0)).setCell ⟨gj,i*8+4,none⟩ (.int .i64 1)).setCell ⟨gj,i*8+5,none⟩ (.int .i64 0)).setCell ⟨gj,i*8+6,none⟩ (.int .i64 0)).setCell ⟨gj,i*8+7,none⟩ (.slice none 0 0)=w6:=by rw [← hw6];simp only [setsW,Nat.add_assoc,Nat.reduceAdd]
       have HO:Hid (Ovr W w6 B E (.slice av k cv) ga gj L k qs):=(show Ovr _ _ _ _ _ _ _ _ _ _ from by rw [← hw6];exact Ovr.puts hov.job.1 hov.job.2.1 (by decide) _ _ wr _ hcur hov)
       clear hov hcur hw6
       go_upto_region 18 with fail
       clear hw7 x0 f0 x1 f1 x2 f2 x3 f3 x4 f4 x5 f5 x6 f6 x7 f7
       go_wp2
       go_roundg (k+1 - (i+1))
       case measure=>omega
       case rel=>exact⟨i+1,by omega,rfl,HO.out⟩
      ·have hlt':¬(i:Int)<(k:Int)+1:=by omega
       have HO13:Hid (Ovr W wr B E (.slice av k cv) ga gj L k qs):=hov
       clear hov
       go_wp2
       go_loopg [13] (L+1) (fun gk pk wr=>∃(i:Nat),i+gk=L+1∧pk=.int .i64 i∧Ovr W wr B E (.slice av k cv) ga gj L k qs)
       case atStart=>exact⟨0,by omega,rfl,HO13.out⟩
       case round=>
        obtain⟨i,hi,rfl,hov⟩:=hrel
        obtain⟨e12,e13,e14,e9,e10⟩:=HCL.out wr hov.tn
        by_cases hlt:i<L+1
        ·have hlt':(i:Int)<(L:Int)+1:=by omega
         have hi0:(0:Int)≤i:=by omega
         obtain⟨u0,x0,f0⟩:=hov.acc.cell (j:=i*5+0) (by omega)
         obtain⟨u1,x1,f1⟩:=hov.acc.cell (j:=i*5+1) (by omega)
         obtain⟨u2,x2,f2⟩:=hov.acc.cell (j:=i*5+2) (by omega)
         obtain⟨u3,x3,f3⟩:=hov.acc.cell (j:=i*5+3) (by omega)
         obtain⟨u4,x4,f4⟩:=hov.acc.cell (j:=i*5+4) (by omega)
         simp only [Nat.add_zero]at x0 f0
         obtain⟨cur,hcur⟩:=hov.acc.at
         obtain⟨w6,hw6⟩:∃w6,setsW ga [.string {data:= #[111,118,101,114]},.int .i64 0,.int .i64 0,.bool false,.int .u64 0] (i*5) wr=w6:=⟨_,rfl⟩
         have hw7:(((((wr).setCell ⟨ga,i*5,none⟩ (.string {data:= #[111,118,101,114]})).setCell ⟨ga,i*5+1,none⟩ (.int .i64 0)).setCell ⟨ga,i*5+2,none⟩ (.int .i64 0)).setCell ⟨ga,i*5+3,none⟩ (.bool false)).setCell ⟨ga,i*5+4,none⟩ (.int .u64 0)=w6:=by rw [← hw6];simp only [setsW,Nat.add_assoc,Nat.reduceAdd]
         have HO:Hid (Ovr W w6 B E (.slice av k cv) ga gj L k qs):=(show Ovr _ _ _ _ _ _ _ _ _ _ from by rw [← hw6];exact Ovr.puts hov.acc.1 hov.acc.2.1 (by decide) _ _ wr _ hcur hov)
         clear hov hcur hw6
         go_upto_region 22 with fail
         clear hw7 x0 f0 x1 f1 x2 f2 x3 f3 x4 f4
         go_wp2
         go_roundg (L+1 - (i+1))
         case measure=>omega
         case rel=>exact⟨i+1,by omega,rfl,HO.out⟩
        ·have hlt':¬(i:Int)<(L:Int)+1:=by omega
         have HO14:Hid (Ovr W wr B E (.slice av k cv) ga gj L k qs):=hov
         clear hov
         go_wp2
         go_ret
         exact⟨rfl,HE.out _ HO14.out.tn⟩
end Go.Proofs.YtceoibfliggalaaGreatDoor
namespace Go.Proofs.YtceoibfliggalaaGreatDoor
open Go.RowKit Wd Tr Cg Lg
theorem byt_own {W:World} {B:Nat} {ao:Option Addr} {r:List UInt8} {cap:Nat} (h:OwB W B (.slice ao r.length cap) r):BytAt W ao r:=by
 have h:W.ownsRow B 5 1 (.slice ao r.length cap) r.length (u8s r):=h
 obtain⟨ao',cap',e,_,h0,h1⟩:=own_val h
 cases e
 cases ao with
 | none=>exact⟨0,0,fun hp=>by have:=(h0 rfl).1;omega,fun k n hn=>by have:=(List.getElem?_eq_some_iff.1 hn).1;have:=(h0 rfl).1;omega⟩
 | some a=>
  obtain⟨g,rfl,_,_⟩:=h1 a rfl
  refine⟨g,0,fun _=>rfl,fun k n hn=>?_⟩
  have:=h.cells (g:=g) rfl k (.int .u8 (n.toNat:Int)) (by unfold u8s;rw [List.getElem?_map,hn];rfl)
  rwa [Addr.add_lit]at this
def upd (f:Nat→List UInt8) (i:Nat) (x:List UInt8):Nat→List UInt8:=fun j=>if j=i then x else f j
structure Apb (w:World) (B:Nat) (vo vw:Value) (vs ws:List Value) (rs ss:Nat→List UInt8) (n:Nat):Prop where
 lo:vs.length=n
 lw:ws.length=n
 ro:w.ownsRow B 35 1 vo n vs
 rw:w.ownsRow B 35 1 vw n ws
 ow:∀g,vo.ownBlock=some g→vw.ownBlock≠some g
 os:∀i v,vs[i]?=some v→OwB w B v (rs i)
 wsv:∀i v,ws[i]?=some v→OwB w B v (ss i)
 oo:∀(i j:Nat) (v v':Value),i≠j→vs[i]?=some v→vs[j]?=some v'→∀g,v.ownBlock=some g→v'.ownBlock≠some g
 ox:∀(i j:Nat) (v v':Value),vs[i]?=some v→ws[j]?=some v'→∀g,v.ownBlock=some g→v'.ownBlock≠some g
theorem Apb.congr {w:World} {B:Nat} {vo vw:Value} {vs ws:List Value} {rs rs' ss:Nat→List UInt8} {n:Nat} (h:Apb w B vo vw vs ws rs ss n) (e:∀j,j<n→rs j=rs' j):Apb w B vo vw vs ws rs' ss n:=
 ⟨h.lo,h.lw,h.ro,h.rw,h.ow,fun i v hv=>by rw [← e i (by have:=(List.getElem?_eq_some_iff.1 hv).1;have:=h.lo;omega)];exact h.os i v hv,h.wsv,h.oo,h.ox⟩
theorem Apb.below {w w':World} {B:Nat} {vo vw:Value} {vs ws:List Value} {rs ss:Nat→List UInt8} {n:Nat} (h:Apb w B vo vw vs ws rs ss n) (b:Below w.heap.size w w'):Apb w' B vo vw vs ws rs ss n:=
 ⟨h.lo,h.lw,row_stand h.ro (fun k hk=>b.block k (h.ro.lt k hk).2),row_stand h.rw (fun k hk=>b.block k (h.rw.lt k hk).2),h.ow,fun i v hv=>(h.os i v hv).alloc b,fun i v hv=>(h.wsv i v hv).alloc b,h.oo,h.ox⟩
theorem u8s_set (r:List UInt8) (k:Nat) (b:UInt8):u8s (r.set k b)=(u8s r).set k (.int .u8 (b.toNat:Int)):=by unfold u8s;rw [List.map_set]
theorem own_blk {w:World} {B e sz n:Nat} {v:Value} {xs:List Value} (h:w.ownsRow B e sz v n xs) {g:Nat} (hg:v.ownBlock=some g):∃cur,w.heap[g]?=some (.cells cur e (0,0)):=by
 rcases h.2 with⟨rfl,_⟩ | ⟨b,cap,cur,rfl,_,h2,_⟩
 ·cases hg
 ·cases hg
  exact⟨cur,h2⟩
theorem Apb.byte {w:World} {B:Nat} {vo vw:Value} {vs ws:List Value} {rs ss:Nat→List UInt8} {n i g m cap:Nat} (h:Apb w B vo vw vs ws rs ss n) (hv:vs[i]?=some (.slice (some ⟨g,0,none⟩) m cap)) (k:Nat) (b:UInt8):
  Apb (w.setCell ⟨g,k,none⟩ (.int .u8 (b.toNat:Int))) B vo vw vs ws (upd rs i ((rs i).set k b)) ss n:=by
 have ho:w.ownsRow B 5 1 (.slice (some ⟨g,0,none⟩) m cap) (rs i).length (u8s (rs i)):=h.os i _ hv
 have hm:m=(rs i).length:=by
  obtain⟨_,_,e,_⟩:=own_val ho
  injection e
 subst hm
 obtain⟨cur,hcur⟩:=own_blk ho rfl
 refine⟨h.lo,h.lw,row_set h.ro hcur (by decide) k _,row_set h.rw hcur (by decide) k _,h.ow,fun j v hj=>?_,fun j v hj=>ownsRow_setCell_other (h.wsv j v hj) (h.ox i j _ v hv hj g rfl) _,h.oo,h.ox⟩
 by_cases e:j=i
 ·subst e
  rw [hv]at hj
  cases hj
  show World.ownsRow _ _ _ _ _ _ _
  simp only [upd,if_pos]
  rw [List.length_set,u8s_set]
  exact row_put ho k _
 ·simp only [upd,if_neg e]
  exact ownsRow_setCell_other (h.os j v hj) (h.oo i j _ v (fun x=>e x.symm) hv hj g rfl) _
theorem Apb.app {W w':World} {B:Nat} {vo vw v v':Value} {vs ws:List Value} {rs ss:Nat→List UInt8} {n i go co:Nat} {r':List UInt8} (h:Apb W B vo vw vs ws rs ss n) (hv:vs[i]?=some v) (ho:OwB w' B v' r') (g:W.grownBy w' v.ownBlock) (m:v'.ownBlock=v.ownBlock∨v'.ownBlock=some W.heap.size) (hvo:vo=.slice (some ⟨go,0,none⟩) n co):
  Apb (w'.setCell ⟨go,i,none⟩ v') B vo vw (vs.set i v') ws (upd rs i r') ss n:=by
 have hi:=(List.getElem?_eq_some_iff.1 hv).1
 have hov:W.ownsRow B 5 1 v (rs i).length (u8s (rs i)):=h.os i v hv
 have r1:w'.ownsRow B 35 1 vo n vs:=row_grown h.ro hov (by decide) g
 have r2:w'.ownsRow B 35 1 vw n ws:=row_grown h.rw hov (by decide) g
 have hgo:vo.ownBlock=some go:=by rw [hvo];rfl
 obtain⟨cur,hcur⟩:=own_blk r1 hgo
 have kb:∀(j:Nat) (u:Value),j≠i→(vs.set i v')[j]?=some u→vs[j]?=some u:=fun j u hj hu=>by rwa [List.getElem?_set_ne (fun e=>hj e.symm)]at hu
 have ki:∀u,(vs.set i v')[i]?=some u→u=v':=fun u hu=>by rw [List.getElem?_set_self hi]at hu;exact(Option.some.inj hu).symm
 have lt:∀ {u:Value} {r:List UInt8},OwB W B u r→∀g,u.ownBlock=some g→g<W.heap.size:=fun o g e=>(OwB.low o g e).2
 refine⟨by rw [List.length_set];exact h.lo,h.lw,by rw [hvo]at r1 ⊢;exact row_put r1 i v',ownsRow_setCell_other r2 (h.ow go hgo) _,h.ow,fun j u hu=>?_,fun j u hu=>?_,fun j k u u' hjk hu hu'=>?_,fun j k u u' hu hu'=>?_⟩
 ·by_cases e:j=i
  ·subst e
   rw [ki u hu]
   simp only [upd,if_pos]
   exact row_set ho hcur (by decide) j v'
  ·simp only [upd,if_neg e]
   exact row_set (row_stand (h.os j u (kb j u e hu)) (fun k hk=>g.block k (lt (h.os j u (kb j u e hu)) k hk) (fun e2=>h.oo j i u v e (kb j u e hu) hv k hk e2.symm))) hcur (by decide) i v'
 ·exact row_set (row_stand (h.wsv j u hu) (fun k hk=>g.block k (lt (h.wsv j u hu) k hk) (fun e2=>h.ox i j v u hv hu k e2.symm hk))) hcur (by decide) i v'
 ·intro b hb hb'
  by_cases e1:j=i
  ·subst e1
   have hk:=kb k u' (fun e=>hjk e.symm) hu'
   rw [ki u hu]at hb
   rcases m with m | m
   ·exact h.oo j k v u' hjk hv hk b (by rw [← m];exact hb) hb'
   ·rw [m]at hb
    cases hb
    exact Nat.lt_irrefl _ (lt (h.os k u' hk) _ hb')
  ·by_cases e2:k=i
   ·subst e2
    have hj:=kb j u e1 hu
    rw [ki u' hu']at hb'
    rcases m with m | m
    ·exact h.oo j k u v hjk hj hv b hb (by rw [← m];exact hb')
    ·rw [m]at hb'
     cases hb'
     exact Nat.lt_irrefl _ (lt (h.os j u hj) _ hb)
   ·exact h.oo j k u u' hjk (kb j u e1 hu) (kb k u' e2 hu') b hb hb'
 ·intro b hb hb'
  by_cases e1:j=i
  ·subst e1
   rw [ki u hu]at hb
   rcases m with m | m
   ·exact h.ox j k v u' hv hu' b (by rw [← m];exact hb) hb'
   ·rw [m]at hb
    cases hb
    exact Nat.lt_irrefl _ (lt (h.wsv k u' hu') _ hb')
  ·exact h.ox j k u u' (kb j u e1 hu) hu' b hb hb'
end Go.Proofs.YtceoibfliggalaaGreatDoor
namespace Go.Proofs.YtceoibfliggalaaGreatDoor
open Go.RowKit Wd Tr Cg Lg
def bA (i:Nat):UInt8:=UInt8.ofNat (200+i)
def bB (i:Nat):UInt8:=UInt8.ofNat (100+i)
theorem bA_nat {i:Nat} (h:i≤3):((bA i).toNat:Int)=200+i:=by
 obtain rfl | rfl | rfl | rfl:i=0∨i=1∨i=2∨i=3:=by omega
 all_goals rfl
theorem bB_nat {i:Nat} (h:i≤3):((bB i).toNat:Int)=100+i:=by
 obtain rfl | rfl | rfl | rfl:i=0∨i=1∨i=2∨i=3:=by omega
 all_goals rfl
def tgt (i:Nat) (s:List UInt8):List UInt8:=List.replicate s.length (bA i)++List.replicate 40 (bB i)
def tg (ss:Nat→List UInt8) (i:Nat):Nat→List UInt8:=fun j=>if j<i then tgt j (ss j)else ss j
def mid (i k:Nat) (s:List UInt8):List UInt8:=List.replicate k (bA i)++s.drop k
theorem mid_len (i k:Nat) (s:List UInt8) (h:k≤s.length):(mid i k s).length=s.length:=by unfold mid;rw [List.length_append,List.length_replicate,List.length_drop];omega
theorem mid_set (i k:Nat) (s:List UInt8) (h:k<s.length):(mid i k s).set k (bA i)=mid i (k+1) s:=by
 unfold mid
 rw [List.set_append,if_neg (by rw [List.length_replicate];exact Nat.lt_irrefl _),List.length_replicate,Nat.sub_self,List.drop_eq_getElem_cons h,List.set_cons_zero,List.replicate_succ',List.append_assoc]
 rfl
set_option maxRecDepth 20000 in
set_option maxHeartbeats 8000000 in
theorem apart_any {w:World} {B:Nat} {vo vw:Value} {vs0 ws:List Value} {ss:Nat→List UInt8} {n:Nat} (h:Apb w B vo vw vs0 ws ss ss n) (hn:n≤3) (hs:∀i,(ss i).length≤2200000000) (hB:B≤w.heap.size):
  Calls Tryz.prog 15 #[vo,vw] w fun e w'=>e=.returned (.bool true)∧Below B w w':=by
 obtain⟨i0,hi0,hz00,hz01,hz02⟩:=info_parts Tryz.infBz
 obtain⟨ao,co,hvo,hco,hon,hog⟩:=own_val h.ro
 obtain⟨aw,cw,hvw,hcw,hwn,hwg⟩:=own_val h.rw
 subst hvo hvw
 have HOG:Hid (0<n→∃go,ao=some ⟨go,0,none⟩∧B≤go):=fun h0=>by
  cases ao with
  | none=>have:=(hon rfl).1;omega
  | some a=>obtain⟨g,e,h1,_⟩:=hog a rfl;exact⟨g,by rw [e],h1⟩
 have HWG:Hid (0<n→∃gw,aw=some ⟨gw,0,none⟩):=fun h0=>by
  cases aw with
  | none=>have:=(hwn rfl).1;omega
  | some a=>obtain⟨g,e,_⟩:=hwg a rfl;exact⟨g,by rw [e]⟩
 have HS:Hid (∀i,(ss i).length≤2200000000):=hs
 have HBS:Hid (B≤w.heap.size):=hB
 have HA0:Hid (Apb w B (.slice ao n co) (.slice aw n cw) vs0 ws (tg ss 0) ss n):=h.congr (fun j _=>by unfold tg;rw [if_neg (Nat.not_lt_zero _)])
 clear h hco hcw hon hwn hog hwg hs hB
 go_enter Tryz.func15,Tryz.ntmps15
 go_wp2
 go_loopg [5] n (fun gk pk wr=>∃(i:Nat) (vs:List Value),i+gk=n∧pk=.int .i64 i∧Apb wr B (.slice ao n co) (.slice aw n cw) vs ws (tg ss i) ss n∧Below B w wr)
 case atStart=>exact⟨0,vs0,by omega,rfl,HA0.out,Below.refl _ _⟩
 case round=>
  obtain⟨i,vs,hi,rfl,hap,hbl⟩:=hrel
  have HAP:Hid (Apb wr B (.slice ao n co) (.slice aw n cw) vs ws (tg ss i) ss n):=hap
  have HBL:Hid (Below B w wr):=hbl
  clear hap hbl
  by_cases hlt:i<n
  ·have hlt':(i:Int)<n:=by omega
   have hi0':(0:Int)≤i:=by omega
   have hi3:i≤3:=by omega
   obtain⟨go,rfl,hgo⟩:=HOG.out (by omega)
   obtain⟨gw,rfl⟩:=HWG.out (by omega)
   obtain⟨v,hv⟩:∃v,vs[i]?=some v:=⟨_,List.getElem?_eq_getElem (by rw [HAP.out.lo];exact hlt)⟩
   obtain⟨u,hu⟩:∃u,ws[i]?=some u:=⟨_,List.getElem?_eq_getElem (by rw [HAP.out.lw];exact hlt)⟩
   have ht:tg ss i i=ss i:=by unfold tg;rw [if_neg (Nat.lt_irrefl _)]
   have hov:=HAP.out.os i v hv
   rw [ht]at hov
   have hou:=HAP.out.wsv i u hu
   obtain⟨a,c,e1,hc1,ha1,ha2⟩:=own_val (show World.ownsRow _ _ _ _ _ _ _ from hov)
   obtain⟨b,d,e2,_,_,_⟩:=own_val (show World.ownsRow _ _ _ _ _ _ _ from hou)
   subst e1 e2
   have HSB:Hid (∀x,Below wr.heap.size wr x→Calls Tryz.prog 13 #[.slice a (ss i).length c,.slice b (ss i).length d] x (Tells x True)):=fun x bx=>by
    have:=sameBytes_b (w:=x) c d (byt_own (hov.alloc bx)) (byt_own (hou.alloc bx)) (by have:=HS.out i;omega)
    rw [show (ss i=ss i)=True from eq_self _]at this
    exact this
   have HAG:Hid (0<(ss i).length→∃g,a=some ⟨g,0,none⟩∧B≤g):=fun h0=>by
    cases a with
    | none=>have:=(ha1 rfl).1;omega
    | some y=>obtain⟨g,e,h1,_⟩:=ha2 y rfl;exact⟨g,by rw [e],h1⟩
   have HV:Hid (vs[i]?=some (.slice a (ss i).length c)):=hv
   have HCE:Hid (∀x,Below wr.heap.size wr x→x.cell? ⟨go,i,none⟩=some (.slice a (ss i).length c)∧x.cell? ⟨gw,i,none⟩=some (.slice b (ss i).length d)):=fun x bx=>by
    have h1:=(HAP.out.below bx).ro.cells (g:=go) rfl i _ hv
    have h2:=(HAP.out.below bx).rw.cells (g:=gw) rfl i _ hu
    rw [Addr.add_lit,Nat.zero_add]at h1 h2
    exact⟨h1,h2⟩
   obtain⟨m,hm⟩:∃m,(ss i).length=m:=⟨_,rfl⟩
   have hm1:m≤2200000000:=by rw [← hm];exact HS.out i
   have HM:Hid ((ss i).length=m):=hm
   rw [hm]at HSB HAG HV HCE hc1
   have HC1:Hid (m≤c):=hc1
   clear hv hu hov hou ht hm ha1 ha2 hc1
   go_upto_region 4 with fail
   refine wp_region_last (S:=(fun x':World=>Below wr.heap.size wr x')) (L:=99) (by kernel_rfl) ?_
   have HSW0:(fun x':World=>Below wr.heap.size wr x') (wr.drew):=drew_below wr
   have HF:Hid (∀xx:World,(fun x':World=>Below wr.heap.size wr x') xx→xx.cell? ⟨go,i,none⟩=some (.slice a m c)∧xx.cell? ⟨gw,i,none⟩=some (.slice b m d)∧True):=fun xx hSx=>⟨(HCE.out xx hSx).1,(HCE.out xx hSx).2,trivial⟩
   refine tk 0 HSW0 (h:=?_)
   refine tk 1 HSW0 (h:=?_)
   refine tk 2 HSW0 (h:=?_)
   refine tk 3 HSW0 (h:=?_)
   refine tk 4 HSW0 (h:=?_)
   refine tk 5 HSW0 (h:=?_)
   refine tk 6 HSW0 (h:=?_)
   refine tk 7 HSW0 (h:=?_)
   refine last_one (i:=8) (by kernel_rfl) rfl ?_
   intro K hK
   go_simp
   go_at_call 13
   refine(HSB.out _ HSW0).mono ?_
   rintro e Z1 hx
   obtain⟨rfl,bz1⟩:=Tells.is trivial hx
   have HSW1:(fun x':World=>Below wr.heap.size wr x') Z1:=Below.trans HSW0 (bz1.mono (Below.size HSW0))
   clear bz1 hx
   go_simp
   refine hK.out _ _ (fun _=>HSW1) (fun _=>?_)
   clear hK K
   refine tk 9 HSW1 (h:=?_)
   refine last_done (by kernel_rfl) ?_ _
   clear HF HSW0 HSB
   have HBZ:Hid (Below wr.heap.size wr Z1):=HSW1
   have HB1:Hid (Below B w Z1):=HBL.out.trans (HSW1.mono (Nat.le_trans HBS.out HBL.out.size))
   have HA1:Hid (Apb Z1 B (.slice (some ⟨go,0,none⟩) n co) (.slice (some ⟨gw,0,none⟩) n cw) vs ws (upd (tg ss i) i (mid i 0 (ss i))) ss n):=(HAP.out.below HSW1).congr (fun j _=>by
    unfold upd
    by_cases e:j=i
    ·rw [if_pos e,e];unfold tg mid;rw [if_neg (Nat.lt_irrefl _)];rfl
    ·rw [if_neg e])
   clear HSW1 HAP HBL HCE
   go_wp2
   go_loopg [6] m (fun gk pk wr=>∃(k:Nat),k+gk=m∧pk=.int .i64 k∧Apb wr B (.slice (some ⟨go,0,none⟩) n co) (.slice (some ⟨gw,0,none⟩) n cw) vs ws (upd (tg ss i) i (mid i k (ss i))) ss n∧Below B w wr)
   case atStart=>exact⟨0,by omega,rfl,HA1.out,HB1.out⟩
   case round=>
    obtain⟨k,hk,rfl,hap,hbl⟩:=hrel
    have HAP:Hid (Apb wr B (.slice (some ⟨go,0,none⟩) n co) (.slice (some ⟨gw,0,none⟩) n cw) vs ws (upd (tg ss i) i (mid i k (ss i))) ss n):=hap
    have HBL:Hid (Below B w wr):=hbl
    have q1:wr.cell? ⟨go,i,none⟩=some (.slice a m c):=by have h1:=hap.ro.cells (g:=go) rfl i _ HV.out;rwa [Addr.add_lit,Nat.zero_add]at h1
    clear hap hbl
    by_cases hlt2:k<m
    ·have hlt2':(k:Int)<m:=by omega
     have hk0:(0:Int)≤k:=by omega
     obtain⟨g,rfl,hg⟩:=HAG.out (by omega)
     have hro:wr.ownsRow B 5 1 (.slice (some ⟨g,0,none⟩) m c) m (u8s (mid i k (ss i))):=by
      have h1:=HAP.out.os i _ HV.out
      have h2:upd (tg ss i) i (mid i k (ss i)) i=mid i k (ss i):=if_pos rfl
      rw [h2]at h1
      have h3:(mid i k (ss i)).length=m:=by rw [mid_len _ _ _ (by rw [HM.out];omega),HM.out]
      unfold OwB at h1
      rw [h3]at h1
      exact h1
     obtain⟨x0,hx0⟩:∃x0,wr.cell? ⟨g,k,none⟩=some x0:=by
      refine⟨_,(hro.cellAt k (by omega)).trans (List.getElem?_eq_getElem ?_)⟩
      rw [hro.1];omega
     have f0:=hro.frozenAt k
     have HP:Hid (Apb (wr.setCell ⟨g,k,none⟩ (.int .u8 ((bA i).toNat:Int))) B (.slice (some ⟨go,0,none⟩) n co) (.slice (some ⟨gw,0,none⟩) n cw) vs ws (upd (tg ss i) i (mid i (k+1) (ss i))) ss n):=(HAP.out.byte HV.out k (bA i)).congr (fun j _=>by
      unfold upd
      by_cases e:j=i
      ·rw [if_pos e,if_pos e,if_pos rfl,mid_set _ _ _ (by rw [HM.out];exact hlt2)]
      ·rw [if_neg e,if_neg e,if_neg e])
     have HP2:Hid (Below B w (wr.setCell ⟨g,k,none⟩ (.int .u8 ((bA i).toNat:Int)))):=HBL.out.setCell hg _
     rw [bA_nat hi3]at HP HP2
     have hw1:IntKind.i64.wrap (200+(i:Int))=200+i:=by rw [IntKind.wrap_i64];omega
     clear hro
     go_upto_region 8 with fail
     obtain⟨w5,hw5⟩:∃w5,wr.setCell ⟨g,k,none⟩ (.int .u8 (200+(i:Int)))=w5:=⟨_,rfl⟩
     rw [hw5]at HP HP2 ⊢
     clear hw5 hx0 f0 q1
     go_wp2
     go_roundg (m - (k+1))
     case measure=>omega
     case rel=>exact⟨k+1,by omega,rfl,HP.out,HP2.out⟩
    ·obtain rfl:k=m:=by omega
     have hlt2':¬(k:Int)<k:=by omega
     have HA2:Hid (Apb wr B (.slice (some ⟨go,0,none⟩) n co) (.slice (some ⟨gw,0,none⟩) n cw) vs ws (upd (tg ss i) i (List.replicate k (bA i)++List.replicate 0 (bB i))) ss n):=HAP.out.congr (fun j _=>by
      unfold upd
      by_cases e:j=i
      ·rw [if_pos e,if_pos e];unfold mid;rw [List.drop_of_length_le (by rw [HM.out];exact Nat.le_refl _)];rfl
      ·rw [if_neg e,if_neg e])
     have HB2:Hid (Below B w wr):=HBL.out
     clear HAP HBL HAG HV HA1 HB1 HBZ
     go_wp2
     clear q1
     go_loopg [7] 40 (fun gk pk wr=>∃(l:Nat) (vs:List Value),l+gk=40∧pk=.int .i64 l∧Apb wr B (.slice (some ⟨go,0,none⟩) n co) (.slice (some ⟨gw,0,none⟩) n cw) vs ws (upd (tg ss i) i (List.replicate k (bA i)++List.replicate l (bB i))) ss n∧Below B w wr)
     case atStart=>exact⟨0,vs,by omega,rfl,HA2.out,HB2.out⟩
     case round=>
      obtain⟨l,vs',hl,rfl,hap,hbl⟩:=hrel
      have HAP:Hid (Apb wr B (.slice (some ⟨go,0,none⟩) n co) (.slice (some ⟨gw,0,none⟩) n cw) vs' ws (upd (tg ss i) i (List.replicate k (bA i)++List.replicate l (bB i))) ss n):=hap
      have HBL:Hid (Below B w wr):=hbl
      clear hap hbl HA2 HB2
      by_cases hlt3:l<40
      ·have hlt3':(l:Int)<40:=by omega
       have hl0:(0:Int)≤l:=by omega
       obtain⟨v,hv⟩:∃v,vs'[i]?=some v:=⟨_,List.getElem?_eq_getElem (by rw [HAP.out.lo];exact hlt)⟩
       have hov:=HAP.out.os i v hv
       rw [show upd (tg ss i) i (List.replicate k (bA i)++List.replicate l (bB i)) i=List.replicate k (bA i)++List.replicate l (bB i)from if_pos rfl]at hov
       have hov2:wr.ownsRow B 5 1 v (k+l) (u8s (List.replicate k (bA i)++List.replicate l (bB i))):=by
        unfold OwB at hov
        rw [List.length_append,List.length_replicate,List.length_replicate]at hov
        exact hov
       obtain⟨a2,c2,e1,_,_,_⟩:=own_val hov2
       subst e1
       have HV2:Hid (vs'[i]?=some (.slice a2 (k+l) c2)):=hv
       have q1:wr.cell? ⟨go,i,none⟩=some (.slice a2 (k+l) c2):=by have h1:=HAP.out.ro.cells (g:=go) rfl i _ hv;rwa [Addr.add_lit,Nat.zero_add]at h1
       obtain⟨W1,hW1⟩:∃W1,wr.alloc (.cells #[.int .u8 (100+(i:Int))] 5)=W1:=⟨_,rfl⟩
       have b1:Below wr.heap.size wr W1:=by rw [← hW1];exact(Below.refl _ wr).alloc (Nat.le_refl _) _
       have HA3:Hid (Apb W1 B (.slice (some ⟨go,0,none⟩) n co) (.slice (some ⟨gw,0,none⟩) n cw) vs' ws (upd (tg ss i) i (List.replicate k (bA i)++List.replicate l (bB i))) ss n):=HAP.out.below b1
       have HB3:Hid (Below B w W1):=HBL.out.trans (b1.mono (Nat.le_trans HBS.out HBL.out.size))
       have HO3:Hid (W1.ownsRow B 5 1 (.slice a2 (k+l) c2) (k+l) (u8s (List.replicate k (bA i)++List.replicate l (bB i)))):=row_stand hov2 (fun y hy=>b1.block y (hov2.lt y hy).2)
       have HBW:Hid (B≤W1.heap.size):=Nat.le_trans HBS.out HB3.out.size
       have HCE:Hid (∀ad,(some ⟨wr.heap.size,0,none⟩:Option Addr)=some ad→∀j u,(u8s [bB i])[j]?=some u→W1.cell? (ad.add j)=some u):=by
        intro ad had j u hu
        cases had
        rw [Addr.add_lit,Nat.zero_add,←hW1]
        refine cells_at (heap_alloc_new wr _) ?_
        rw [show u8s [bB i]= [Value.int .u8 ((bB i).toNat:Int)]from rfl,bB_nat hi3]at hu
        simpa using hu
       have hw1:IntKind.i64.wrap (100+(i:Int))=100+i:=by rw [IntKind.wrap_i64];omega
       have HKL:Hid (k+l≤2200000040):=(show k+l≤2200000040 from by omega)
       have HAPP:Hid (∀(w2:World) (v2:Value),w2.ownsRow B 5 1 v2 (k+l+1) (u8s (List.replicate k (bA i)++List.replicate l (bB i))++u8s [bB i])→W1.grownBy w2 (Value.slice a2 (k+l) c2).ownBlock→(v2.ownBlock=(Value.slice a2 (k+l) c2).ownBlock∨v2.ownBlock=some W1.heap.size)→Apb (w2.setCell ⟨go,i,none⟩ v2) B (.slice (some ⟨go,0,none⟩) n co) (.slice (some ⟨gw,0,none⟩) n cw) (vs'.set i v2) ws (upd (tg ss i) i (List.replicate k (bA i)++List.replicate (l+1) (bB i))) ss n∧w2.ownsRow B 35 1 (.slice (some ⟨go,0,none⟩) n co) n vs'):=fun w2 v2 o2 g2 m2=>by
        have e:List.replicate k (bA i)++List.replicate (l+1) (bB i)=(List.replicate k (bA i)++List.replicate l (bB i))++ [bB i]:=by rw [List.replicate_succ',List.append_assoc]
        have o3:OwB w2 B v2 (List.replicate k (bA i)++List.replicate (l+1) (bB i)):=by
         show World.ownsRow _ _ _ _ _ _ _
         rw [e,u8s_app,List.length_append,List.length_append,List.length_replicate,List.length_replicate]
         exact o2
        refine⟨(HA3.out.app HV2.out o3 g2 m2 rfl).congr (fun j _=>?_),row_grown HA3.out.ro HO3.out (by decide) g2⟩
        unfold upd
        by_cases e2:j=i
        ·rw [if_pos e2,if_pos e2]
        ·rw [if_neg e2,if_neg e2,if_neg e2]
       clear hv hov hov2 b1
       go_upto_region 12 with(at_builtin;refine wpList_append_mv rfl (.tmp 54) (.tmp 58) 35 rfl B 5 i0 _ 1 1 Tryz.underlying35 hi0 hz00 hz01 hz02 rfl (by decide) (.slice a2 (k+l) c2) (k+l) (u8s (List.replicate k (bA i)++List.replicate l (bB i))) rfl HO3.out (some ⟨wr.heap.size,0,none⟩) 1 1 (u8s [bB i]) rfl (fun e=>by cases e) rfl HCE.out (u8s_one _) ?_ ?_ ?_ ?_;exact(Nat.le_trans (m:=35184372088832) (by have:=HKL.out;omega) (by decide));have:=HKL.out;omega;exact HBW.out;intro v2 w2 o2 g2 m2;obtain⟨g3,c3,rfl,hc3⟩:=own_some o2;have hq:=HAPP.out w2 _ o2 g2 m2;have HQ1:Hid (Apb (w2.setCell ⟨go,i,none⟩ (.slice (some ⟨g3,0,none⟩) (k+l+1) c3)) B (.slice (some ⟨go,0,none⟩) n co) (.slice (some ⟨gw,0,none⟩) n cw) (vs'.set i (.slice (some ⟨g3,0,none⟩) (k+l+1) c3)) ws (upd (tg ss i) i (List.replicate k (bA i)++List.replicate (l+1) (bB i))) ss n):=hq.1;have x3:w2.cell? ⟨go,i,none⟩=some (.slice a2 (k+l) c2):=(by have h1:=hq.2.cells (g:=go) rfl i _ HV2.out;rwa [Addr.add_lit,Nat.zero_add]at h1);have f3:w2.frozen? ⟨go,i,none⟩=false:=hq.2.frozenAt i;have HB5:Hid (Below B w w2):=bel_grown HB3.out HBW.out (Nat.le_refl _) HO3.out g2;clear o2 g2 m2 hq hc3)
       obtain⟨w6,hw6⟩:∃w6,w2.setCell ⟨go,i,none⟩ (.slice (some ⟨g3,0,none⟩) (k+l+1) c3)=w6:=⟨_,rfl⟩
       have HB6:Hid (Below B w (w2.setCell ⟨go,i,none⟩ (.slice (some ⟨g3,0,none⟩) (k+l+1) c3))):=HB5.out.setCell hgo _
       rw [hw6]at HQ1 HB6 ⊢
       clear hw6 x3 f3 q1 hW1 HAPP HA3 HO3 HCE HB5
       go_wp2
       go_roundg (40 - (l+1))
       case measure=>omega
       case rel=>exact⟨l+1,_,by omega,rfl,HQ1.out,HB6.out⟩
      ·obtain rfl:l=40:=by omega
       have HA9:Hid (Apb wr B (.slice (some ⟨go,0,none⟩) n co) (.slice (some ⟨gw,0,none⟩) n cw) vs' ws (tg ss (i+1)) ss n):=HAP.out.congr (fun j _=>by
        unfold upd tg tgt
        by_cases e:j=i
        ·rw [if_pos e,if_pos (by omega),e,HM.out]
        ·rw [if_neg e]
         by_cases e2:j<i
         ·rw [if_pos e2,if_pos (by omega)]
         ·rw [if_neg e2,if_neg (by omega)])
       clear HAP
       go_wp2
       go_roundg (n - (i+1))
       case measure=>omega
       case rel=>exact⟨i+1,vs',by omega,rfl,HA9.out,HBL.out⟩
  ·obtain rfl:i=n:=by omega
   have hlt':¬(i:Int)<i:=by omega
   have HRD:Hid (∀j,j<i→∃go gw a c b d,ao=some ⟨go,0,none⟩∧aw=some ⟨gw,0,none⟩∧wr.cell? ⟨go,j,none⟩=some (.slice (some ⟨a,0,none⟩) ((ss j).length+40) c)∧wr.cell? ⟨gw,j,none⟩=some (.slice b (ss j).length d)∧∀k u,(tgt j (ss j))[k]?=some u→wr.cell? ⟨a,k,none⟩=some (.int .u8 (u.toNat:Int))):=fun j hj=>by
    obtain⟨go,rfl,_⟩:=HOG.out (by omega)
    obtain⟨gw,rfl⟩:=HWG.out (by omega)
    obtain⟨v,hv⟩:∃v,vs[j]?=some v:=⟨_,List.getElem?_eq_getElem (by rw [HAP.out.lo];exact hj)⟩
    obtain⟨u,hu⟩:∃u,ws[j]?=some u:=⟨_,List.getElem?_eq_getElem (by rw [HAP.out.lw];exact hj)⟩
    have hov:=HAP.out.os j v hv
    rw [show tg ss i j=tgt j (ss j)from if_pos hj]at hov
    have hou:=HAP.out.wsv j u hu
    have hl:(tgt j (ss j)).length=(ss j).length+39+1:=by unfold tgt;rw [List.length_append,List.length_replicate,List.length_replicate]
    have hov2:wr.ownsRow B 5 1 v ((ss j).length+39+1) (u8s (tgt j (ss j))):=by rw [← hl];exact hov
    obtain⟨a,c,e1,_⟩:=own_some hov2
    obtain⟨b,d,e2,_,_,_⟩:=own_val (show World.ownsRow _ _ _ _ _ _ _ from hou)
    subst e1 e2
    have h1:=HAP.out.ro.cells (g:=go) rfl j _ hv
    have h2:=HAP.out.rw.cells (g:=gw) rfl j _ hu
    rw [Addr.add_lit,Nat.zero_add]at h1 h2
    refine⟨go,gw,a,c,b,d,rfl,rfl,h1,h2,fun k u hk=>?_⟩
    have h3:=hov2.cells (g:=a) rfl k (.int .u8 (u.toNat:Int)) (by unfold u8s;rw [List.getElem?_map,hk];rfl)
    rw [Addr.add_lit,Nat.zero_add]at h3
    exact h3
   clear HAP
   obtain⟨V4,hV4⟩:∃V4,V4=wr:=⟨_,rfl⟩
   subst hV4
   go_wp2
   go_loopg [8] i (fun gk pk wr=>∃(j:Nat),j+gk=i∧pk=.int .i64 j∧V4=wr)
   case atStart=>exact⟨0,by omega,rfl,rfl⟩
   case round=>
    obtain⟨j,hj,rfl,rfl⟩:=hrel
    by_cases hlt:j<i
    ·have hlt2:(j:Int)<i:=by omega
     have hj0:(0:Int)≤j:=by omega
     have hj3:j≤3:=by omega
     obtain⟨go,gw,a,c,b,d,rfl,rfl,x1,x2,x3⟩:=HRD.out j hlt
     have HX3:Hid (∀k u,(tgt j (ss j))[k]?=some u→V4.cell? ⟨a,k,none⟩=some (.int .u8 (u.toNat:Int))):=x3
     obtain⟨m,hm⟩:∃m,(ss j).length=m:=⟨_,rfl⟩
     have hm1:m≤2200000000:=by rw [← hm];exact HS.out j
     have HM:Hid ((ss j).length=m):=hm
     rw [hm]at x1 x2
     have hw1:IntKind.i64.wrap (200+(j:Int))=200+j:=by rw [IntKind.wrap_i64];omega
     have hw2:IntKind.i64.wrap (100+(j:Int))=100+j:=by rw [IntKind.wrap_i64];omega
     clear x3 hm
     go_wp2
     go_loopg [9] (m+40) (fun gk pk wr=>∃(k:Nat),k+gk=m+40∧pk=.int .i64 k∧V4=wr)
     case atStart=>exact⟨0,by omega,rfl,rfl⟩
     case round=>
      obtain⟨k,hk,rfl,rfl⟩:=hrel
      by_cases hlt4:k<m+40
      ·have hlt4':(k:Int)<(m:Int)+40:=by omega
       have hk0:(0:Int)≤k:=by omega
       by_cases h5:k<m
       ·have h5':¬(m:Int)≤k:=by omega
        have y1:V4.cell? ⟨a,k,none⟩=some (.int .u8 (200+(j:Int))):=by
         have:=HX3.out k (bA j) (by unfold tgt;rw [List.getElem?_append_left (by rw [List.length_replicate,HM.out];exact h5),List.getElem?_replicate,if_pos (by rw [HM.out];exact h5)])
         rwa [bA_nat hj3]at this
        go_wp2
        go_roundg (m+40 - (k+1))
        case measure=>omega
        case rel=>exact⟨k+1,by omega,rfl,rfl⟩
       ·have h5':(m:Int)≤k:=by omega
        have y1:V4.cell? ⟨a,k,none⟩=some (.int .u8 (100+(j:Int))):=by
         have:=HX3.out k (bB j) (by unfold tgt;rw [List.getElem?_append_right (by rw [List.length_replicate,HM.out];omega),List.length_replicate,HM.out,List.getElem?_replicate,if_pos (by omega)])
         rwa [bB_nat hj3]at this
        go_wp2
        go_roundg (m+40 - (k+1))
        case measure=>omega
        case rel=>exact⟨k+1,by omega,rfl,rfl⟩
      ·have hlt4':¬(k:Int)<(m:Int)+40:=by omega
       go_wp2
       go_roundg (i - (j+1))
       case measure=>omega
       case rel=>exact⟨j+1,by omega,rfl,rfl⟩
    ·have hlt2:¬(j:Int)<i:=by omega
     go_wp2
     go_ret
     exact⟨rfl,HBL.out⟩
end Go.Proofs.YtceoibfliggalaaGreatDoor
