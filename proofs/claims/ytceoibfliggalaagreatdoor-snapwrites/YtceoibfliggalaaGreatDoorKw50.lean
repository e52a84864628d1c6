/-
  TEXTS: TbG, TbH, TbR.
-/
import Derived.Test.YtceoibfliggalaaGreatDoorKw45
import Derived.Test.YtceoibfliggalaaGreatDoorKw39
import Derived.Test.YtceoibfliggalaaGreatDoorKw47
import Derived.Test.YtceoibfliggalaaGreatDoorKw37
import Derived.Test.YtceoibfliggalaaGreatDoorKw46
import Derived.Test.YtceoibfliggalaaGreatDoorKw49
import Derived.Test.YtceoibfliggalaaGreatDoorKw14
import Derived.Test.YtceoibfliggalaaGreatDoorKw6
namespace Go.Proofs.YtceoibfliggalaaGreatDoor
open Go.RowKit Wd Tr Cg Ld Lg
theorem Tryz.infRowB:(Tryz.prog.info? 35).map (fun i=>(i.zero,i.size,i.bytes))=some (some (.slice none 0 0),1,24):=by kernel_rfl
theorem box15 (w:World) (x0 x1 x2 x3 x4 x5 x6 x7 x8 x9 x10 x11 x12 x13 x14:Value):∃B0 W4:World,w.alloc (.cells #[.int .i64 0,.int .i64 0,.int .i64 0,.int .i64 0,.int .i64 0,.int .i64 0,.int .i64 0,.int .i64 0,.int .i64 0,.slice none 0 0,.slice none 0 0,.int .i64 0,.slice none 0 0,.slice none 0 0,.slice none 0 0] 33)=B0∧(((((((((((((((B0).setCell ⟨w.heap.size,0,none⟩ x0).setCell ⟨w.heap.size,1,none⟩ x1).setCell ⟨w.heap.size,2,none⟩ x2).setCell ⟨w.heap.size,3,none⟩ x3).setCell ⟨w.heap.size,4,none⟩ x4).setCell ⟨w.heap.size,5,none⟩ x5).setCell ⟨w.heap.size,6,none⟩ x6).setCell ⟨w.heap.size,7,none⟩ x7).setCell ⟨w.heap.size,8,none⟩ x8).setCell ⟨w.heap.size,9,none⟩ x9).setCell ⟨w.heap.size,10,none⟩ x10).setCell ⟨w.heap.size,11,none⟩ x11).setCell ⟨w.heap.size,12,none⟩ x12).setCell ⟨w.heap.size,13,none⟩ x13).setCell ⟨w.heap.size,14,none⟩ x14=W4∧(B0.cell? ⟨w.heap.size,0,none⟩=some (.int .i64 0)∧B0.cell? ⟨w.heap.size,1,none⟩=some (.int .i64 0)∧B0.cell? ⟨w.heap.size,2,none⟩=some (.int .i64 0)∧B0.cell? ⟨w.heap.size,3,none⟩=some (.int .i64 0)∧B0.cell? ⟨w.heap.size,4,none⟩=some (.int .i64 0)∧B0.cell? ⟨w.heap.size,5,none⟩=some (.int .i64 0)∧B0.cell? ⟨w.heap.size,6,none⟩=some (.int .i64 0)∧B0.cell? ⟨w.heap.size,7,none⟩=some (.int .i64 0)∧B0.cell? ⟨w.heap.size,8,none⟩=some (.int .i64 0)∧B0.cell? ⟨w.heap.size,9,none⟩=some (.slice none 0 0)∧B0.cell? ⟨w.heap.size,10,none⟩=some (.slice none 0 0)∧B0.cell? ⟨w.heap.size,11,none⟩=some (.int .i64 0)∧B0.cell? ⟨w.heap.size,12,none⟩=some (.slice none 0 0)∧B0.cell? ⟨w.heap.size,13,none⟩=some (.slice none 0 0)∧B0.cell? ⟨w.heap.size,14,none⟩=some (.slice none 0 0))∧(B0.frozen? ⟨w.heap.size,0,none⟩=false∧B0.frozen? ⟨w.heap.size,1,none⟩=false∧B0.frozen? ⟨w.heap.size,2,none⟩=false∧B0.frozen? ⟨w.heap.size,3,none⟩=false∧B0.frozen? ⟨w.heap.size,4,none⟩=false∧B0.frozen? ⟨w.heap.size,5,none⟩=false∧B0.frozen? ⟨w.heap.size,6,none⟩=false∧B0.frozen? ⟨w.heap.size,7,none⟩=false∧B0.frozen? ⟨w.heap.size,8,none⟩=false∧B0.frozen? ⟨w.heap.size,9,none⟩=false∧B0.frozen? ⟨w.heap.size,10,none⟩=false∧B0.frozen? ⟨w.heap.size,11,none⟩=false∧B0.frozen? ⟨w.heap.size,12,none⟩=false∧B0.frozen? ⟨w.heap.size,13,none⟩=false∧B0.frozen? ⟨w.heap.size,14,none⟩=false)∧W4.heap[w.heap.size]?=some (.cells #[x0,x1,x2,x3,x4,x5,x6,x7,x8,x9,x10,x11,x12,x13,x14] 33 (0,0))∧Below w.heap.size w W4:=by
 obtain⟨B0,hB0⟩:∃B0,w.alloc (.cells #[.int .i64 0,.int .i64 0,.int .i64 0,.int .i64 0,.int .i64 0,.int .i64 0,.int .i64 0,.int .i64 0,.int .i64 0,.slice none 0 0,.slice none 0 0,.int .i64 0,.slice none 0 0,.slice none 0 0,.slice none 0 0] 33)=B0:=⟨_,rfl⟩
 have hb:B0.heap[w.heap.size]?=some (.cells #[.int .i64 0,.int .i64 0,.int .i64 0,.int .i64 0,.int .i64 0,.int .i64 0,.int .i64 0,.int .i64 0,.int .i64 0,.slice none 0 0,.slice none 0 0,.int .i64 0,.slice none 0 0,.slice none 0 0,.slice none 0 0] 33 (0,0)):=by rw [← hB0];exact heap_alloc_new w _
 have bb:Below w.heap.size w B0:=by rw [← hB0];exact(Below.refl _ w).alloc (Nat.le_refl _) _
 have hX:=sets_blk w.heap.size 33 [x0,x1,x2,x3,x4,x5,x6,x7,x8,x9,x10,x11,x12,x13,x14] 0 B0 #[.int .i64 0,.int .i64 0,.int .i64 0,.int .i64 0,.int .i64 0,.int .i64 0,.int .i64 0,.int .i64 0,.int .i64 0,.slice none 0 0,.slice none 0 0,.int .i64 0,.slice none 0 0,.slice none 0 0,.slice none 0 0] hb
 have bX:=sets_bel (Nat.le_refl w.heap.size) [x0,x1,x2,x3,x4,x5,x6,x7,x8,x9,x10,x11,x12,x13,x14] 0 B0 bb
 simp only [setsA,setsW,List.setIfInBounds_toArray,List.set_cons_zero,List.set_cons_succ,Nat.zero_add,Nat.reduceAdd]at hX bX
 exact⟨B0,_,hB0,rfl,⟨cells_at hb rfl,cells_at hb rfl,cells_at hb rfl,cells_at hb rfl,cells_at hb rfl,cells_at hb rfl,cells_at hb rfl,cells_at hb rfl,cells_at hb rfl,cells_at hb rfl,cells_at hb rfl,cells_at hb rfl,cells_at hb rfl,cells_at hb rfl,cells_at hb rfl⟩,⟨frozen_at hb,frozen_at hb,frozen_at hb,frozen_at hb,frozen_at hb,frozen_at hb,frozen_at hb,frozen_at hb,frozen_at hb,frozen_at hb,frozen_at hb,frozen_at hb,frozen_at hb,frozen_at hb,frozen_at hb⟩,hX,bX⟩
def stR (A:Int) (S:Sv):List UInt8:=if A=0 then stB S else []
def stE (A:Int):Int:=if A=0 then 0 else 191
def PutO (R:List UInt8) (E:Int) (w:World) (e:Ending) (w':World):Prop:=∃a k,e=.returned (.tuple #[.slice a R.length k,.int .i64 E])∧OwB w' w.heap.size (.slice a R.length k) R∧Below w.heap.size w w'
theorem put_own {W:World} {B0 B:Nat} {l:List UInt8} (h:W.heap[B]?=some (.cells (Lib.byteCells l).toArray 5 (0,0))) (hB:B0≤B) (hl:l.length≤2200000000):OwB W B0 (.slice (some ⟨B,0,none⟩) l.length l.length) l:=by
 refine⟨u8s_len l,.inr ⟨B,l.length,_,rfl,hB,h,Nat.le_refl _,Nat.le_trans hl (by decide),?_,?_⟩⟩
 ·rw [List.size_toArray]
  unfold Lib.byteCells
  rw [List.length_map,Nat.mul_one]
 ·rw [Nat.mul_one]
  show (Lib.byteCells l).take l.length=u8s l
  rw [List.take_of_length_le (by unfold Lib.byteCells;rw [List.length_map];exact Nat.le_refl _)]
  rfl
theorem put_out {w:World} (c:Cf) (now:Int) {ao:Option Addr} {la:List Ac} {ca:Nat} {jo:Option Addr} {ps:List Pj} {cj:Nat} (hd:Int) (h:StIn w ao la ca jo ps cj) (hwt:wtN la ps≤281474976710656) (hz:(stB ⟨c,now,la,ps.map Pj.v,hd⟩).length≤2200000000):
  Calls Tryz.prog 11 #[.agg (stL c now ao la.length ca jo ps.length cj hd)] w (PutO (stR (auditV (chkZ c) ⟨c,now,la,ps.map Pj.v,hd⟩) ⟨c,now,la,ps.map Pj.v,hd⟩) (stE (auditV (chkZ c) ⟨c,now,la,ps.map Pj.v,hd⟩)) w):=by
 refine(put_any c now hd h hwt hz).mono ?_
 rintro e w' ⟨hp,b⟩
 unfold stR stE
 by_cases ha:auditV (chkZ c) ⟨c,now,la,ps.map Pj.v,hd⟩=0
 ·rw [if_pos ha]at hp
  obtain⟨B,rfl,hB,hg⟩:=hp
  rw [if_pos ha,if_pos ha]
  exact⟨_,_,rfl,put_own hg hB hz,b⟩
 ·rw [if_neg ha]at hp
  rw [if_neg ha,if_neg ha]
  exact⟨none,0,hp,own_nil _ _ _ _,b⟩
theorem fput_out {w:World} (c:Cf) (now:Int) {ao:Option Addr} {la:List Ac} {ca:Nat} {jo:Option Addr} {ps:List Pj} {cj:Nat} (hd:Int) (h:StIn w ao la ca jo ps cj) (h48:la.length*48≤140737488355328) (hz:(stB ⟨c,now,la,ps.map Pj.v,hd⟩).length≤2200000000):
  Calls Tryz.prog 12 #[.agg (stL c now ao la.length ca jo ps.length cj hd)] w (PutO (stR (auditV (chkZ c) ⟨c,now,la,ps.map Pj.v,hd⟩) ⟨c,now,la,ps.map Pj.v,hd⟩) (stE (auditV (chkZ c) ⟨c,now,la,ps.map Pj.v,hd⟩)) w):=by
 refine(fput_any c now hd h h48 hz).mono ?_
 rintro e w' ⟨hp,b⟩
 unfold stR stE
 by_cases ha:auditV (chkZ c) ⟨c,now,la,ps.map Pj.v,hd⟩=0
 ·rw [if_pos ha]at hp
  obtain⟨v,rfl,o⟩:=hp
  rw [if_pos ha,if_pos ha]
  obtain⟨a,k,e1,_⟩:=own_val (show World.ownsRow _ _ _ _ _ _ _ from o)
  subst e1
  exact⟨_,_,rfl,o,b⟩
 ·rw [if_neg ha]at hp
  rw [if_neg ha,if_neg ha]
  exact⟨none,0,hp,own_nil _ _ _ _,b⟩
theorem stR_len {A:Int} {S:Sv} (h:(stB S).length≤2200000000):(stR A S).length≤2200000000:=by
 unfold stR
 split
 ·exact h
 ·exact Nat.zero_le _
theorem Lent.stIn {w w0:World} {B:Nat} {ao jo:Option Addr} {la:List Ac} {ps:List Pj} {ca cj ga ca' gj cj':Nat} {vs:Value} {qs:List Pj} (hl:Lent w B la ps ga ca' gj cj' vs qs) (h:StIn w0 ao la ca jo ps cj):StIn w (some ⟨ga,0,none⟩) la ca' (some ⟨gj,0,none⟩) qs cj':=by
 have h1:=hl.lnd.job
 rw [List.length_append,show qs.length+ [markJ].length=ps.length+1 from by rw [hl.len];rfl]at h1
 obtain⟨_,_,e1,hc1⟩:=own_some hl.lnd.acc
 obtain⟨_,_,e2,hc2⟩:=own_some h1
 have hca:la.length≤ca':=by injection e1 with _ _ e3;omega
 have hcj:ps.length≤cj':=by injection e2 with _ _ e3;omega
 have hqp:∀q∈qs,∃p∈ps,p.v=q.v:=fun q hq=>by
  have:q.v∈ps.map Pj.v:=by rw [← hl.vals];exact List.mem_map_of_mem hq
  exact List.mem_map.1 this
 refine⟨hl.accs.1,h.us,h.nm,h.l48,hca,nofun,hl.jobs.1,by rw [hl.len];exact h.l80,by rw [hl.len];exact hcj,nofun,fun q hq=>?_,fun q hq=>?_,fun q hq e=>?_⟩
 ·obtain ⟨p,hp,e⟩:=hqp q hq
  rw [← e]
  exact h.sl p hp
 ·obtain ⟨_,_,h3,_⟩:=hl.set hq
  omega
 ·obtain ⟨_,h3,_⟩:=hl.set hq
  rw [h3]at e
  cases e
theorem Apb.push {w1 w9 W1 w2 W3 w4:World} {B E0 E1 n:Nat} {vo vw vo' vw' v u:Value} {vs ws:List Value} {ss:Nat→List UInt8} (h:Apb w1 B vo vw vs ws ss ss n) (b:Below w1.heap.size w1 w9) (hB:B≤E0) (h0:w1.heap.size≤E0) (h1:E0≤E1) (ov:OwB w9 E0 v (ss n)) (hv:∀g,v.ownBlock=some g→g<E1) (ou:OwB w9 E1 u (ss n))
  (b1:Below w9.heap.size w9 W1) (g2:W1.grownBy w2 vo.ownBlock) (m2:vo'.ownBlock=vo.ownBlock∨vo'.ownBlock=some W1.heap.size) (r2:w2.ownsRow B 35 1 vo' (n+1) (vs++ [v])) (b3:Below w2.heap.size w2 W3) (g4:W3.grownBy w4 vw.ownBlock) (m4:vw'.ownBlock=vw.ownBlock∨vw'.ownBlock=some W3.heap.size) (r4:w4.ownsRow B 35 1 vw' (n+1) (ws++ [u])) (hz:w1.heap.size≤W1.heap.size):Apb w4 B vo' vw' (vs++ [v]) (ws++ [u]) ss ss (n+1):=by
 have o1:∀g,vo.ownBlock=some g→g<w1.heap.size:=fun g hg=>(h.ro.lt g hg).2
 have o2:∀g,vw.ownBlock=some g→g<w1.heap.size:=fun g hg=>(h.rw.lt g hg).2
 have z1:=b.size
 have z2:=b1.size
 have z3:=g2.size
 have z4:=b3.size
 have z5:=g4.size
 have bW:Below w1.heap.size w1 W1:=b.trans (b1.mono b.size)
 have roW:W1.ownsRow B 35 1 vo n vs:=row_stand h.ro (fun k hk=>bW.block k (o1 k hk))
 have rwW:W1.ownsRow B 35 1 vw n ws:=row_stand h.rw (fun k hk=>bW.block k (o2 k hk))
 have rw2:w2.ownsRow B 35 1 vw n ws:=row_stand rwW (fun k hk=>g2.block k (rwW.lt k hk).2 (fun e=>h.ow k e.symm hk))
 have rw3:W3.ownsRow B 35 1 vw n ws:=row_stand rw2 (fun k hk=>b3.block k (rw2.lt k hk).2)
 have tr:∀ {C:Nat} {x:Value} {r:List UInt8},OwB w9 C x r→OwB w4 C x r:=fun o=>by
  have t1:=OwB.alloc o b1
  have t2:=row_grown (show World.ownsRow _ _ _ _ _ _ _ from t1) roW (by decide) g2
  have t3:=row_stand t2 (fun k hk=>b3.block k (t2.lt k hk).2)
  exact row_grown t3 rw3 (by decide) g4
 have nv:∀g,vo'.ownBlock=some g→vw.ownBlock≠some g:=fun g hg hg'=>by
  rcases m2 with m | m
  ·exact h.ow g (by rw [← m];exact hg) hg'
  ·rw [m]at hg
   cases hg
   have:=o2 _ hg'
   omega
 have r3:=row_stand r2 (fun k hk=>b3.block k (r2.lt k hk).2)
 have old:∀ {l:List Value} {x y:Value} {j:Nat},l.length=n→(l++ [y])[j]?=some x→(l[j]?=some x∧j<n)∨(x=y∧j=n):=fun {l x y j} hl hx=>by
  by_cases e:j<n
  ·rw [List.getElem?_append_left (by omega)]at hx
   exact .inl ⟨hx,e⟩
  ·rw [List.getElem?_append_right (by omega)]at hx
   have h3:=(List.getElem?_eq_some_iff.1 hx).1
   rw [List.length_singleton]at h3
   have h4:j=n:=by omega
   subst h4
   rw [hl,Nat.sub_self]at hx
   exact .inr ⟨(Option.some.inj hx).symm,rfl⟩
 have lo9:∀ {x:Value} {r:List UInt8},OwB w1 B x r→∀g,x.ownBlock=some g→g<w1.heap.size:=fun o g hg=>(OwB.low o g hg).2
 have hvl:∀g,v.ownBlock=some g→w1.heap.size≤g:=fun g hg=>by have:=(OwB.low ov g hg).1;omega
 have hul:∀g,u.ownBlock=some g→w1.heap.size≤g∧E1≤g:=fun g hg=>by have:=(OwB.low ou g hg).1;omega
 refine⟨by rw [List.length_append,h.lo];rfl,by rw [List.length_append,h.lw];rfl,row_stand r3 (fun k hk=>g4.block k (r3.lt k hk).2 (fun e=>nv k hk e.symm)),r4,fun g hg hg'=>?_,fun j x hx=>?_,fun j x hx=>?_,fun j k x y hjk hx hy g hg hg'=>?_,fun j k x y hx hy g hg hg'=>?_⟩
 ·rcases m4 with m | m
  ·exact nv g hg (by rw [← m];exact hg')
  ·rw [m]at hg'
   cases hg'
   have:=(r2.lt _ hg).2
   omega
 ·rcases old h.lo hx with⟨h1,_⟩ | ⟨rfl,rfl⟩
  ·exact tr (OwB.alloc (h.os j x h1) b)
  ·exact World.ownsRow.mono (tr ov) hB
 ·rcases old h.lw hx with⟨h1,_⟩ | ⟨rfl,rfl⟩
  ·exact tr (OwB.alloc (h.wsv j x h1) b)
  ·exact World.ownsRow.mono (tr ou) (Nat.le_trans hB h1)
 ·rcases old h.lo hx with⟨h1,_⟩ | ⟨rfl,rfl⟩
  ·rcases old h.lo hy with⟨h2,_⟩ | ⟨rfl,rfl⟩
   ·exact h.oo j k x y hjk h1 h2 g hg hg'
   ·have:=lo9 (h.os j x h1) g hg
    have:=hvl g hg'
    omega
  ·rcases old h.lo hy with⟨h2,_⟩ | ⟨_,rfl⟩
   ·have:=lo9 (h.os k y h2) g hg'
    have:=hvl g hg
    omega
   ·exact hjk rfl
 ·rcases old h.lo hx with⟨h2,_⟩ | ⟨rfl,rfl⟩
  ·rcases old h.lw hy with⟨h3,_⟩ | ⟨rfl,rfl⟩
   ·exact h.ox j k x y h2 h3 g hg hg'
   ·have:=lo9 (h.os j x h2) g hg
    have:=(hul g hg').1
    omega
  ·rcases old h.lw hy with⟨h3,_⟩ | ⟨rfl,_⟩
   ·have:=lo9 (h.wsv k y h3) g hg'
    have:=hvl g hg
    omega
   ·have:=hv g hg
    have:=(hul g hg').2
    omega
end Go.Proofs.YtceoibfliggalaaGreatDoor
namespace Go.Proofs.YtceoibfliggalaaGreatDoor
open Go.RowKit Wd Tr Cg Ld Lg
theorem sets_map:∀ {qs ps:List Pj},qs.map Pj.v=ps.map Pj.v→setsN qs=setsN ps
 | [],[],_=>rfl
 | [],_::_,h=>by cases h
 | _::_,[],h=>by cases h
 | q::qs,p::ps,h=>by
  simp only [List.map_cons,List.cons.injEq]at h
  simp only [setsN]
  rw [h.1,sets_map h.2]
set_option maxRecDepth 20000 in
set_option maxHeartbeats 16000000 in
theorem writes_walk {w:World} (hT:Tab w) (c:Cf) (now:Int) {ao:Option Addr} {la:List Ac} {ca:Nat} {jo:Option Addr} {ps:List Pj} {cj:Nat} (hd:Int) (h:StIn w ao la ca jo ps cj) (c2:Cf) (now2:Int) {ao2:Option Addr} {la2:List Ac} {ca2:Nat} {jo2:Option Addr} {ps2:List Pj} {cj2:Nat} (hd2:Int) (h2:StIn w ao2 la2 ca2 jo2 ps2 cj2):
  Calls Tryz.prog 3 #[.agg (stL c now ao la.length ca jo ps.length cj hd),.agg (stL c2 now2 ao2 la2.length ca2 jo2 ps2.length cj2 hd2)] w fun e w'=>e=.returned (.bool true)∧Below w.heap.size w w':=by
 unfold stL
 obtain⟨i4,hi4,hz40,hz41,hz42⟩:=info_parts Tryz.infRowB
 obtain⟨W,hW⟩:∃W,(w.alloc (.cells #[.int .i64 c.nodes,.int .i64 c.queue,.int .i64 c.limit,.int .i64 c.age,.int .i64 c.fair,.int .i64 c.size,.int .i64 c.period,.int .i64 c.half,.int .i64 now,.slice ao la.length ca,.slice jo ps.length cj,.int .i64 hd] 27)).alloc (.cells #[.int .i64 c2.nodes,.int .i64 c2.queue,.int .i64 c2.limit,.int .i64 c2.age,.int .i64 c2.fair,.int .i64 c2.size,.int .i64 c2.period,.int .i64 c2.half,.int .i64 now2,.slice ao2 la2.length ca2,.slice jo2 ps2.length cj2,.int .i64 hd2] 27)=W:=⟨_,rfl⟩
 have bW:Below w.heap.size w W:=by rw [← hW];exact((Below.refl _ w).alloc (Nat.le_refl _) _).alloc (by simp) _
 have hb1:W.heap[w.heap.size]?=some (.cells #[.int .i64 c.nodes,.int .i64 c.queue,.int .i64 c.limit,.int .i64 c.age,.int .i64 c.fair,.int .i64 c.size,.int .i64 c.period,.int .i64 c.half,.int .i64 now,.slice ao la.length ca,.slice jo ps.length cj,.int .i64 hd] 27 (0,0)):=by rw [← hW];exact(Below.heap_alloc _ _ _ (by simp)).trans (heap_alloc_new w _)
 have hb2:W.heap[w.heap.size+1]?=some (.cells #[.int .i64 c2.nodes,.int .i64 c2.queue,.int .i64 c2.limit,.int .i64 c2.age,.int .i64 c2.fair,.int .i64 c2.size,.int .i64 c2.period,.int .i64 c2.half,.int .i64 now2,.slice ao2 la2.length ca2,.slice jo2 ps2.length cj2,.int .i64 hd2] 27 (0,0)):=by
  have:=heap_alloc_new (w.alloc (.cells #[.int .i64 c.nodes,.int .i64 c.queue,.int .i64 c.limit,.int .i64 c.age,.int .i64 c.fair,.int .i64 c.size,.int .i64 c.period,.int .i64 c.half,.int .i64 now,.slice ao la.length ca,.slice jo ps.length cj,.int .i64 hd] 27)) (.cells #[.int .i64 c2.nodes,.int .i64 c2.queue,.int .i64 c2.limit,.int .i64 c2.age,.int .i64 c2.fair,.int .i64 c2.size,.int .i64 c2.period,.int .i64 c2.half,.int .i64 now2,.slice ao2 la2.length ca2,.slice jo2 ps2.length cj2,.int .i64 hd2] 27)
  rw [hW,World.size_alloc]at this
  exact this
 have HBW:Hid (Below w.heap.size w W):=bW
 have HT:Hid (Tab W):=hT.below bW
 have HCL:Hid (∀x:World,Below W.heap.size W x→x.cell? ⟨w.heap.size,0,none⟩=some (.int .i64 c.nodes)∧x.cell? ⟨w.heap.size,1,none⟩=some (.int .i64 c.queue)∧x.cell? ⟨w.heap.size,2,none⟩=some (.int .i64 c.limit)∧x.cell? ⟨w.heap.size,3,none⟩=some (.int .i64 c.age)∧x.cell? ⟨w.heap.size,4,none⟩=some (.int .i64 c.fair)∧x.cell? ⟨w.heap.size,5,none⟩=some (.int .i64 c.size)∧x.cell? ⟨w.heap.size,6,none⟩=some (.int .i64 c.period)∧x.cell? ⟨w.heap.size,7,none⟩=some (.int .i64 c.half)∧x.cell? ⟨w.heap.size,8,none⟩=some (.int .i64 now)∧x.cell? ⟨w.heap.size,9,none⟩=some (.slice ao la.length ca)∧x.cell? ⟨w.heap.size,10,none⟩=some (.slice jo ps.length cj)∧x.cell? ⟨w.heap.size,11,none⟩=some (.int .i64 hd)):=fun x b=>⟨cellB b (cells_at hb1 rfl),cellB b (cells_at hb1 rfl),cellB b (cells_at hb1 rfl),cellB b (cells_at hb1 rfl),cellB b (cells_at hb1 rfl),cellB b (cells_at hb1 rfl),cellB b (cells_at hb1 rfl),cellB b (cells_at hb1 rfl),cellB b (cells_at hb1 rfl),cellB b (cells_at hb1 rfl),cellB b (cells_at hb1 rfl),cellB b (cells_at hb1 rfl)⟩
 have hi':StIn W ao la ca jo ps cj:=h.below bW
 have HIN:Hid (∀ {x:World},Below W.heap.size W x→StIn x ao la ca jo ps cj):=fun b=>hi'.below b
 have HBE:Hid (∀x:World,Below W.heap.size W x→Calls Tryz.prog 8 #[.agg #[.int .i64 c.nodes,.int .i64 c.queue,.int .i64 c.limit,.int .i64 c.age,.int .i64 c.fair,.int .i64 c.size,.int .i64 c.period,.int .i64 c.half,.int .i64 now,.slice ao la.length ca,.slice jo ps.length cj,.int .i64 hd]] x fun e w'=>e=.returned (.bool (decide (2147483647<byN la ps)))∧Below x.heap.size x w'):=fun x b=>by
  have:=beyond_any c now hd (hi'.below b)
  unfold stL at this
  exact this
 have HCL2:Hid (∀x:World,Below W.heap.size W x→x.cell? ⟨w.heap.size+1,0,none⟩=some (.int .i64 c2.nodes)∧x.cell? ⟨w.heap.size+1,1,none⟩=some (.int .i64 c2.queue)∧x.cell? ⟨w.heap.size+1,2,none⟩=some (.int .i64 c2.limit)∧x.cell? ⟨w.heap.size+1,3,none⟩=some (.int .i64 c2.age)∧x.cell? ⟨w.heap.size+1,4,none⟩=some (.int .i64 c2.fair)∧x.cell? ⟨w.heap.size+1,5,none⟩=some (.int .i64 c2.size)∧x.cell? ⟨w.heap.size+1,6,none⟩=some (.int .i64 c2.period)∧x.cell? ⟨w.heap.size+1,7,none⟩=some (.int .i64 c2.half)∧x.cell? ⟨w.heap.size+1,8,none⟩=some (.int .i64 now2)∧x.cell? ⟨w.heap.size+1,9,none⟩=some (.slice ao2 la2.length ca2)∧x.cell? ⟨w.heap.size+1,10,none⟩=some (.slice jo2 ps2.length cj2)∧x.cell? ⟨w.heap.size+1,11,none⟩=some (.int .i64 hd2)):=fun x b=>⟨cellB b (cells_at hb2 rfl),cellB b (cells_at hb2 rfl),cellB b (cells_at hb2 rfl),cellB b (cells_at hb2 rfl),cellB b (cells_at hb2 rfl),cellB b (cells_at hb2 rfl),cellB b (cells_at hb2 rfl),cellB b (cells_at hb2 rfl),cellB b (cells_at hb2 rfl),cellB b (cells_at hb2 rfl),cellB b (cells_at hb2 rfl),cellB b (cells_at hb2 rfl)⟩
 have hi2':StIn W ao2 la2 ca2 jo2 ps2 cj2:=h2.below bW
 have HIN2:Hid (∀ {x:World},Below W.heap.size W x→StIn x ao2 la2 ca2 jo2 ps2 cj2):=fun b=>hi2'.below b
 have HBE2:Hid (∀x:World,Below W.heap.size W x→Calls Tryz.prog 8 #[.agg #[.int .i64 c2.nodes,.int .i64 c2.queue,.int .i64 c2.limit,.int .i64 c2.age,.int .i64 c2.fair,.int .i64 c2.size,.int .i64 c2.period,.int .i64 c2.half,.int .i64 now2,.slice ao2 la2.length ca2,.slice jo2 ps2.length cj2,.int .i64 hd2]] x fun e w'=>e=.returned (.bool (decide (2147483647<byN la2 ps2)))∧Below x.heap.size x w'):=fun x b=>by
  have:=beyond_any c2 now2 hd2 (hi2'.below b)
  unfold stL at this
  exact this
 clear hT h h2 bW hb1 hb2 hi' hi2'
 obtain⟨p0,p1,p2,p3,p4,p5,p6,p7,p8,p9,p10,p11⟩:=HCL.out W (Below.refl _ _)
 obtain⟨r0,r1,r2,r3,r4,r5,r6,r7,r8,r9,r10,r11⟩:=HCL2.out W (Below.refl _ _)
 go_enter Tryz.func3,Tryz.ntmps3
 by_cases hbig:2147483647<byN la ps
 ·have HD:Hid (decide (2147483647<byN la ps)=true):=decide_eq_true hbig
  clear hbig
  go_wp2_with (go_at_call 8;refine(HBE.out W (Below.refl _ _)).mono ?_;rintro e w1 ⟨rfl,b1⟩;rw [HD.out];have HB1:Hid (Below W.heap.size W w1):=b1;clear b1)
  go_ret
  exact⟨rfl,HBW.out.trans (HB1.out.mono HBW.out.size)⟩
 have HD:Hid (decide (2147483647<byN la ps)=false):=decide_eq_false hbig
 by_cases hbig2:2147483647<byN la2 ps2
 ·have HD2:Hid (decide (2147483647<byN la2 ps2)=true):=decide_eq_true hbig2
  clear hbig hbig2
  go_wp2_with (first
   | (go_at_call_of 8 (Value.agg #[.int .i64 c.nodes,.int .i64 c.queue,.int .i64 c.limit,.int .i64 c.age,.int .i64 c.fair,.int .i64 c.size,.int .i64 c.period,.int .i64 c.half,.int .i64 now,.slice ao la.length ca,.slice jo ps.length cj,.int .i64 hd]);refine(HBE.out W (Below.refl _ _)).mono ?_;rintro e w1 ⟨rfl,b1⟩;rw [HD.out];have HB1:Hid (Below W.heap.size W w1):=b1;obtain⟨t0,t1,t2,t3,t4,t5,t6,t7,t8,t9,t10,t11⟩:=HCL2.out w1 b1;clear b1)
   | (go_at_call_of 8 (Value.agg #[.int .i64 c2.nodes,.int .i64 c2.queue,.int .i64 c2.limit,.int .i64 c2.age,.int .i64 c2.fair,.int .i64 c2.size,.int .i64 c2.period,.int .i64 c2.half,.int .i64 now2,.slice ao2 la2.length ca2,.slice jo2 ps2.length cj2,.int .i64 hd2]);refine(HBE2.out w1 HB1.out).mono ?_;rintro e w2 ⟨rfl,b2⟩;rw [HD2.out];have HB2:Hid (Below W.heap.size W w2):=HB1.out.trans (b2.mono HB1.out.size);clear b2))
  go_ret
  exact⟨rfl,HBW.out.trans (HB2.out.mono HBW.out.size)⟩
 have HD2:Hid (decide (2147483647<byN la2 ps2)=false):=decide_eq_false hbig2
 have hf':=st_fits (c:=c) (now:=now) (hd:=hd) hbig
 have hla':la.length≤2147483647:=by have h4:=accs_by la;unfold byN at hbig;omega
 have hps':ps.length≤2147483647:=by have h4:=hf'.2;unfold wtN at h4;omega
 have hsl':∀p∈ps,p.v.set.length≤2147483647:=fun p hp=>by have h4:=hf'.2;have h5:=sets_mem hp;unfold wtN at h4;omega
 have HLE:Hid (∀x:World,Below W.heap.size W x→Calls Tryz.prog 10 #[.agg #[.int .i64 c.nodes,.int .i64 c.queue,.int .i64 c.limit,.int .i64 c.age,.int .i64 c.fair,.int .i64 c.size,.int .i64 c.period,.int .i64 c.half,.int .i64 now,.slice ao la.length ca,.slice jo ps.length cj,.int .i64 hd]] x fun e w'=>∃ga ca' gj cj' vs qs,e=.returned (.agg #[.int .i64 c.nodes,.int .i64 c.queue,.int .i64 c.limit,.int .i64 c.age,.int .i64 c.fair,.int .i64 c.size,.int .i64 c.period,.int .i64 c.half,.int .i64 now,.slice (some ⟨ga,0,none⟩) la.length ca',.slice (some ⟨gj,0,none⟩) ps.length cj',.int .i64 hd,.slice (some ⟨ga,0,none⟩) (la.length+1) ca',.slice (some ⟨gj,0,none⟩) (ps.length+1) cj',vs])∧Lent w' x.heap.size la ps ga ca' gj cj' vs qs∧Below x.heap.size x w'):=fun x b=>by
  have:=lend_any c now hd (HIN.out b) hla' hps' hsl'
  unfold stL lsC at this
  exact this
 have hS:∃S:Sv,S=⟨c,now,la,ps.map Pj.v,hd⟩:=⟨_,rfl⟩
 obtain⟨S,hS⟩:=hS
 have hA:∃A:Int,A=auditV (chkZ c) S:=⟨_,rfl⟩
 obtain⟨A,hA⟩:=hA
 have HPU:Hid (∀ {x y:World} {B ga ca' gj cj':Nat} {vs:Value} {qs:List Pj},Lent y B la ps ga ca' gj cj' vs qs→Below y.heap.size y x→Calls Tryz.prog 11 #[.agg #[.int .i64 c.nodes,.int .i64 c.queue,.int .i64 c.limit,.int .i64 c.age,.int .i64 c.fair,.int .i64 c.size,.int .i64 c.period,.int .i64 c.half,.int .i64 now,.slice (some ⟨ga,0,none⟩) la.length ca',.slice (some ⟨gj,0,none⟩) ps.length cj',.int .i64 hd]] x (PutO (stR A S) (stE A) x)):=fun {x y B ga ca' gj cj' vs qs} hl b=>by
  have h9:=(hl.stand b).stIn (HIN.out (Below.refl _ _))
  have:=put_out c now hd h9 (by have h4:=hf'.2;unfold wtN at h4 ⊢;have h5:setsN qs=setsN ps:=sets_map hl.vals;rw [hl.len,h5];omega) (by rw [hl.vals];have h4:=hf'.1;omega)
  unfold stL at this
  rw [hl.vals,hl.len,←hS,←hA]at this
  exact this
 have HFP:Hid (∀x:World,Below W.heap.size W x→Calls Tryz.prog 12 #[.agg #[.int .i64 c.nodes,.int .i64 c.queue,.int .i64 c.limit,.int .i64 c.age,.int .i64 c.fair,.int .i64 c.size,.int .i64 c.period,.int .i64 c.half,.int .i64 now,.slice ao la.length ca,.slice jo ps.length cj,.int .i64 hd]] x (PutO (stR A S) (stE A) x)):=fun x b=>by
  have:=fput_out c now hd (HIN.out b) (by omega) (by have h4:=hf'.1;omega)
  unfold stL at this
  rw [← hS,←hA]at this
  exact this
 have HST:Hid (∀ {x y:World} {B ga ca' gj cj':Nat} {vs:Value} {qs:List Pj},Below W.heap.size W x→Lent y B la ps ga ca' gj cj' vs qs→Below y.heap.size y x→Calls Tryz.prog 14 #[.agg #[.int .i64 c.nodes,.int .i64 c.queue,.int .i64 c.limit,.int .i64 c.age,.int .i64 c.fair,.int .i64 c.size,.int .i64 c.period,.int .i64 c.half,.int .i64 now,.slice (some ⟨ga,0,none⟩) la.length ca',.slice (some ⟨gj,0,none⟩) ps.length cj',.int .i64 hd,.slice (some ⟨ga,0,none⟩) (la.length+1) ca',.slice (some ⟨gj,0,none⟩) (ps.length+1) cj',vs],.agg #[.int .i64 c.nodes,.int .i64 c.queue,.int .i64 c.limit,.int .i64 c.age,.int .i64 c.fair,.int .i64 c.size,.int .i64 c.period,.int .i64 c.half,.int .i64 now,.slice ao la.length ca,.slice jo ps.length cj,.int .i64 hd]] x fun e w'=>e=.returned (.bool true)∧Tn B y.heap.size x w'):=fun {x y B ga ca' gj cj' vs qs} b0 hl b=>by
  have:=still_any c now hd (HIN.out b0) hl b hla' hps' hsl'
  unfold stL lsC at this
  exact this
 have hr':(stR A S).length≤2200000000:=stR_len (by rw [hS];have h4:=hf'.1;omega)
 generalize stR A S=R at *
 generalize stE A=E at *
 have hf2':=st_fits (c:=c2) (now:=now2) (hd:=hd2) hbig2
 have hla2':la2.length≤2147483647:=by have h4:=accs_by la2;unfold byN at hbig2;omega
 have hps2':ps2.length≤2147483647:=by have h4:=hf2'.2;unfold wtN at h4;omega
 have hsl2':∀p∈ps2,p.v.set.length≤2147483647:=fun p hp=>by have h4:=hf2'.2;have h5:=sets_mem hp;unfold wtN at h4;omega
 have HLE2:Hid (∀x:World,Below W.heap.size W x→Calls Tryz.prog 10 #[.agg #[.int .i64 c2.nodes,.int .i64 c2.queue,.int .i64 c2.limit,.int .i64 c2.age,.int .i64 c2.fair,.int .i64 c2.size,.int .i64 c2.period,.int .i64 c2.half,.int .i64 now2,.slice ao2 la2.length ca2,.slice jo2 ps2.length cj2,.int .i64 hd2]] x fun e w'=>∃ga ca' gj cj' vs qs,e=.returned (.agg #[.int .i64 c2.nodes,.int .i64 c2.queue,.int .i64 c2.limit,.int .i64 c2.age,.int .i64 c2.fair,.int .i64 c2.size,.int .i64 c2.period,.int .i64 c2.half,.int .i64 now2,.slice (some ⟨ga,0,none⟩) la2.length ca',.slice (some ⟨gj,0,none⟩) ps2.length cj',.int .i64 hd2,.slice (some ⟨ga,0,none⟩) (la2.length+1) ca',.slice (some ⟨gj,0,none⟩) (ps2.length+1) cj',vs])∧Lent w' x.heap.size la2 ps2 ga ca' gj cj' vs qs∧Below x.heap.size x w'):=fun x b=>by
  have:=lend_any c2 now2 hd2 (HIN2.out b) hla2' hps2' hsl2'
  unfold stL lsC at this
  exact this
 have hS2:∃S:Sv,S=⟨c2,now2,la2,ps2.map Pj.v,hd2⟩:=⟨_,rfl⟩
 obtain⟨S2,hS2⟩:=hS2
 have hA2:∃A:Int,A=auditV (chkZ c2) S2:=⟨_,rfl⟩
 obtain⟨A2,hA2⟩:=hA2
 have HPU2:Hid (∀ {x y:World} {B ga ca' gj cj':Nat} {vs:Value} {qs:List Pj},Lent y B la2 ps2 ga ca' gj cj' vs qs→Below y.heap.size y x→Calls Tryz.prog 11 #[.agg #[.int .i64 c2.nodes,.int .i64 c2.queue,.int .i64 c2.limit,.int .i64 c2.age,.int .i64 c2.fair,.int .i64 c2.size,.int .i64 c2.period,.int .i64 c2.half,.int .i64 now2,.slice (some ⟨ga,0,none⟩) la2.length ca',.slice (some ⟨gj,0,none⟩) ps2.length cj',.int .i64 hd2]] x (PutO (stR A2 S2) (stE A2) x)):=fun {x y B ga ca' gj cj' vs qs} hl b=>by
  have h9:=(hl.stand b).stIn (HIN2.out (Below.refl _ _))
  have:=put_out c2 now2 hd2 h9 (by have h4:=hf2'.2;unfold wtN at h4 ⊢;have h5:setsN qs=setsN ps2:=sets_map hl.vals;rw [hl.len,h5];omega) (by rw [hl.vals];have h4:=hf2'.1;omega)
  unfold stL at this
  rw [hl.vals,hl.len,←hS2,←hA2]at this
  exact this
 have HFP2:Hid (∀x:World,Below W.heap.size W x→Calls Tryz.prog 12 #[.agg #[.int .i64 c2.nodes,.int .i64 c2.queue,.int .i64 c2.limit,.int .i64 c2.age,.int .i64 c2.fair,.int .i64 c2.size,.int .i64 c2.period,.int .i64 c2.half,.int .i64 now2,.slice ao2 la2.length ca2,.slice jo2 ps2.length cj2,.int .i64 hd2]] x (PutO (stR A2 S2) (stE A2) x)):=fun x b=>by
  have:=fput_out c2 now2 hd2 (HIN2.out b) (by omega) (by have h4:=hf2'.1;omega)
  unfold stL at this
  rw [← hS2,←hA2]at this
  exact this
 have HST2:Hid (∀ {x y:World} {B ga ca' gj cj':Nat} {vs:Value} {qs:List Pj},Below W.heap.size W x→Lent y B la2 ps2 ga ca' gj cj' vs qs→Below y.heap.size y x→Calls Tryz.prog 14 #[.agg #[.int .i64 c2.nodes,.int .i64 c2.queue,.int .i64 c2.limit,.int .i64 c2.age,.int .i64 c2.fair,.int .i64 c2.size,.int .i64 c2.period,.int .i64 c2.half,.int .i64 now2,.slice (some ⟨ga,0,none⟩) la2.length ca',.slice (some ⟨gj,0,none⟩) ps2.length cj',.int .i64 hd2,.slice (some ⟨ga,0,none⟩) (la2.length+1) ca',.slice (some ⟨gj,0,none⟩) (ps2.length+1) cj',vs],.agg #[.int .i64 c2.nodes,.int .i64 c2.queue,.int .i64 c2.limit,.int .i64 c2.age,.int .i64 c2.fair,.int .i64 c2.size,.int .i64 c2.period,.int .i64 c2.half,.int .i64 now2,.slice ao2 la2.length ca2,.slice jo2 ps2.length cj2,.int .i64 hd2]] x fun e w'=>e=.returned (.bool true)∧Tn B y.heap.size x w'):=fun {x y B ga ca' gj cj' vs qs} b0 hl b=>by
  have:=still_any c2 now2 hd2 (HIN2.out b0) hl b hla2' hps2' hsl2'
  unfold stL lsC at this
  exact this
 have hr2':(stR A2 S2).length≤2200000000:=stR_len (by rw [hS2];have h4:=hf2'.1;omega)
 generalize stR A2 S2=R2 at *
 generalize stE A2=E2 at *
 have HRL:Hid (R.length≤2200000000∧R2.length≤2200000000):=⟨hr',hr2'⟩
 have HSB:Hid (∀ {x:World} {C C':Nat} {R:List UInt8} {a b:Option Addr} {k l:Nat},R.length≤2200000000→OwB x C (.slice a R.length k) R→OwB x C' (.slice b R.length l) R→Calls Tryz.prog 13 #[.slice a R.length k,.slice b R.length l] x (Tells x True)):=fun {x C C' R a b k l} hR o1 o2=>by
  have:=sameBytes_b (w:=x) k l (byt_own o1) (byt_own o2) (by omega)
  rw [show (R=R)=True from eq_self _]at this
  exact this
 clear hbig hbig2 hf' hf2' hla' hla2' hps' hps2' hsl' hsl2' hS hS2 hA hA2 hr' hr2' HIN HIN2
 go_upto_region 3 with(first
  | (go_at_call_of 8 (Value.agg #[.int .i64 c.nodes,.int .i64 c.queue,.int .i64 c.limit,.int .i64 c.age,.int .i64 c.fair,.int .i64 c.size,.int .i64 c.period,.int .i64 c.half,.int .i64 now,.slice ao la.length ca,.slice jo ps.length cj,.int .i64 hd]);refine(HBE.out W (Below.refl _ _)).mono ?_;rintro e w1 ⟨rfl,b1⟩;rw [HD.out];have HB1:Hid (Below W.heap.size W w1):=b1;obtain⟨t0,t1,t2,t3,t4,t5,t6,t7,t8,t9,t10,t11⟩:=HCL2.out w1 b1;clear b1)
  | (go_at_call_of 8 (Value.agg #[.int .i64 c2.nodes,.int .i64 c2.queue,.int .i64 c2.limit,.int .i64 c2.age,.int .i64 c2.fair,.int .i64 c2.size,.int .i64 c2.period,.int .i64 c2.half,.int .i64 now2,.slice ao2 la2.length ca2,.slice jo2 ps2.length cj2,.int .i64 hd2]);refine(HBE2.out w1 HB1.out).mono ?_;rintro e w2 ⟨rfl,b2⟩;rw [HD2.out];have HB2:Hid (Below W.heap.size W w2):=HB1.out.trans (b2.mono HB1.out.size);clear b2))
 clear hW HBE HBE2 HD HD2 p0 p1 p2 p3 p4 p5 p6 p7 p8 p9 p10 p11 r0 r1 r2 r3 r4 r5 r6 r7 r8 r9 r10 r11 t0 t1 t2 t3 t4 t5 t6 t7 t8 t9 t10 t11
 go_upto_region 5 with(go_at_call 9;refine(sshown_any (HT.out.below HB2.out)).mono ?_;rintro e w3 ⟨rfl,b3⟩;have HB3:Hid (Below W.heap.size W w3):=HB2.out.trans (b3.mono HB2.out.size);clear b3)
 obtain⟨V1,hV1⟩:∃V1,w3.alloc (.cells #[] 35)=V1:=⟨_,rfl⟩
 obtain⟨V2,hV2⟩:∃V2,V1.alloc (.cells #[] 35)=V2:=⟨_,rfl⟩
 have bV1:Below w3.heap.size w3 V1:=by rw [← hV1];exact(Below.refl _ w3).alloc (Nat.le_refl _) _
 have bV2:Below V1.heap.size V1 V2:=by rw [← hV2];exact(Below.refl _ V1).alloc (Nat.le_refl _) _
 have zV1:V1.heap.size=w3.heap.size+1:=by rw [← hV1];simp
 have HBV:Hid (Below W.heap.size W V2):=HB3.out.trans ((bV1.mono HB3.out.size).trans (bV2.mono (Nat.le_trans HB3.out.size bV1.size)))
 have hro1:V1.ownsRow W.heap.size 35 1 (.slice (some ⟨w3.heap.size,0,none⟩) 0 0) 0 []:=by rw [← hV1];exact World.ownsRow_made w3 #[] 0 HB3.out.size (by decide) rfl
 have hro:V2.ownsRow W.heap.size 35 1 (.slice (some ⟨w3.heap.size,0,none⟩) 0 0) 0 []:=row_stand hro1 (fun k hk=>bV2.block k (hro1.lt k hk).2)
 have hrw:V2.ownsRow W.heap.size 35 1 (.slice (some ⟨V1.heap.size,0,none⟩) 0 0) 0 []:=by rw [← hV2];exact World.ownsRow_made V1 #[] 0 (Nat.le_trans HB3.out.size bV1.size) (by decide) rfl
 have HAP0:Hid (Apb V2 W.heap.size (.slice (some ⟨w3.heap.size,0,none⟩) 0 0) (.slice (some ⟨V1.heap.size,0,none⟩) 0 0) [] [] (fun j=>if j=1 then R2 else R) (fun j=>if j=1 then R2 else R) 0):=⟨rfl,rfl,hro,hrw,(fun g e e2=>by have e3:w3.heap.size=g:=Option.some.inj e;have e4:V1.heap.size=g:=Option.some.inj e2;omega),(fun i v e=>by cases e),(fun i v e=>by cases e),(fun i j v v' _ e=>by cases e),(fun i j v v' e=>by cases e)⟩
 clear bV1 bV2 zV1 hro1 hro hrw
 go_upto_region 7 with fail
 generalize Value.slice (some ⟨w3.heap.size,0,none⟩) 0 0=v5 at HAP0 ⊢
 generalize Value.slice (some ⟨V1.heap.size,0,none⟩) 0 0=v6 at HAP0 ⊢
 clear hV1 hV2
 go_wp2
 go_loopg [5,6,7] 3 (fun gk po pw pk wr=>∃(k:Nat) (vs ws:List Value),k+gk=3∧pk=.int .i64 k∧Apb wr W.heap.size po pw vs ws (fun j=>if j=1 then R2 else R) (fun j=>if j=1 then R2 else R) k∧Below W.heap.size W wr)
 case atStart=>exact⟨0,[],[],by omega,rfl,HAP0.out,HBV.out⟩
 case round=>
  obtain⟨k,vs,ws,hk,rfl,hap,hbl⟩:=hrel
  have HAP:Hid (Apb wr W.heap.size u5 u6 vs ws (fun j=>if j=1 then R2 else R) (fun j=>if j=1 then R2 else R) k):=hap
  have HBL:Hid (Below W.heap.size W wr):=hbl
  clear hap hbl HAP0 HBV
  by_cases hlt:k<3
  ·have hlt':(k:Int)<3:=by omega
   obtain⟨p0,p1,p2,p3,p4,p5,p6,p7,p8,p9,p10,p11⟩:=HCL.out wr HBL.out
   by_cases hk1:k=1
   ·have e1:((k:Int)==1)=true:=by rw [hk1];rfl
    have HSK:Hid ((fun j=>if j=1 then R2 else R) k=R2):=if_pos hk1
    obtain⟨t0,t1,t2,t3,t4,t5,t6,t7,t8,t9,t10,t11⟩:=HCL2.out wr HBL.out
    obtain⟨y1,hy1⟩:∃y1,wr.alloc (.cells #[.int .i64 c.nodes,.int .i64 c.queue,.int .i64 c.limit,.int .i64 c.age,.int .i64 c.fair,.int .i64 c.size,.int .i64 c.period,.int .i64 c.half,.int .i64 now,.slice ao la.length ca,.slice jo ps.length cj,.int .i64 hd] 27)=y1:=⟨_,rfl⟩
    have by1:Below wr.heap.size wr y1:=by rw [← hy1];exact(Below.refl _ wr).alloc (Nat.le_refl _) _
    have hg1:y1.heap[wr.heap.size]?=some (.cells #[.int .i64 c.nodes,.int .i64 c.queue,.int .i64 c.limit,.int .i64 c.age,.int .i64 c.fair,.int .i64 c.size,.int .i64 c.period,.int .i64 c.half,.int .i64 now,.slice ao la.length ca,.slice jo ps.length cj,.int .i64 hd] 27 (0,0)):=by rw [← hy1];exact heap_alloc_new wr _
    have z0:y1.cell? ⟨wr.heap.size,0,none⟩=some (.int .i64 c.nodes):=cells_at hg1 rfl
    have f0:y1.frozen? ⟨wr.heap.size,0,none⟩=false:=frozen_at hg1
    have z1:y1.cell? ⟨wr.heap.size,1,none⟩=some (.int .i64 c.queue):=cells_at hg1 rfl
    have f1:y1.frozen? ⟨wr.heap.size,1,none⟩=false:=frozen_at hg1
    have z2:y1.cell? ⟨wr.heap.size,2,none⟩=some (.int .i64 c.limit):=cells_at hg1 rfl
    have f2:y1.frozen? ⟨wr.heap.size,2,none⟩=false:=frozen_at hg1
    have z3:y1.cell? ⟨wr.heap.size,3,none⟩=some (.int .i64 c.age):=cells_at hg1 rfl
    have f3:y1.frozen? ⟨wr.heap.size,3,none⟩=false:=frozen_at hg1
    have z4:y1.cell? ⟨wr.heap.size,4,none⟩=some (.int .i64 c.fair):=cells_at hg1 rfl
    have f4:y1.frozen? ⟨wr.heap.size,4,none⟩=false:=frozen_at hg1
    have z5:y1.cell? ⟨wr.heap.size,5,none⟩=some (.int .i64 c.size):=cells_at hg1 rfl
    have f5:y1.frozen? ⟨wr.heap.size,5,none⟩=false:=frozen_at hg1
    have z6:y1.cell? ⟨wr.heap.size,6,none⟩=some (.int .i64 c.period):=cells_at hg1 rfl
    have f6:y1.frozen? ⟨wr.heap.size,6,none⟩=false:=frozen_at hg1
    have z7:y1.cell? ⟨wr.heap.size,7,none⟩=some (.int .i64 c.half):=cells_at hg1 rfl
    have f7:y1.frozen? ⟨wr.heap.size,7,none⟩=false:=frozen_at hg1
    have z8:y1.cell? ⟨wr.heap.size,8,none⟩=some (.int .i64 now):=cells_at hg1 rfl
    have f8:y1.frozen? ⟨wr.heap.size,8,none⟩=false:=frozen_at hg1
    have z9:y1.cell? ⟨wr.heap.size,9,none⟩=some (.slice ao la.length ca):=cells_at hg1 rfl
    have f9:y1.frozen? ⟨wr.heap.size,9,none⟩=false:=frozen_at hg1
    have z10:y1.cell? ⟨wr.heap.size,10,none⟩=some (.slice jo ps.length cj):=cells_at hg1 rfl
    have f10:y1.frozen? ⟨wr.heap.size,10,none⟩=false:=frozen_at hg1
    have z11:y1.cell? ⟨wr.heap.size,11,none⟩=some (.int .i64 hd):=cells_at hg1 rfl
    have f11:y1.frozen? ⟨wr.heap.size,11,none⟩=false:=frozen_at hg1
    obtain⟨t0',t1',t2',t3',t4',t5',t6',t7',t8',t9',t10',t11'⟩:=HCL2.out y1 (HBL.out.trans (by1.mono HBL.out.size))
    obtain⟨y2,hy2⟩:∃y2,((((((((((((y1).setCell ⟨wr.heap.size,0,none⟩ (.int .i64 c2.nodes)).setCell ⟨wr.heap.size,1,none⟩ (.int .i64 c2.queue)).setCell ⟨wr.heap.size,2,none⟩ (.int .i64 c2.limit)).setCell ⟨wr.heap.size,3,none⟩ (.int .i64 c2.age)).setCell ⟨wr.heap.size,4,none⟩ (.int .i64 c2.fair)).setCell ⟨wr.heap.size,5,none⟩ (.int .i64 c2.size)).setCell ⟨wr.heap.size,6,none⟩ (.int .i64 c2.period)).setCell ⟨wr.heap.size,7,none⟩ (.int .i64 c2.half)).setCell ⟨wr.heap.size,8,none⟩ (.int .i64 now2)).setCell ⟨wr.heap.size,9,none⟩ (.slice ao2 la2.length ca2)).setCell ⟨wr.heap.size,10,none⟩ (.slice jo2 ps2.length cj2)).setCell ⟨wr.heap.size,11,none⟩ (.int .i64 hd2)=y2:=⟨_,rfl⟩
    have hX:=sets_blk wr.heap.size 27 [.int .i64 c2.nodes,.int .i64 c2.queue,.int .i64 c2.limit,.int .i64 c2.age,.int .i64 c2.fair,.int .i64 c2.size,.int .i64 c2.period,.int .i64 c2.half,.int .i64 now2,.slice ao2 la2.length ca2,.slice jo2 ps2.length cj2,.int .i64 hd2] 0 y1 #[.int .i64 c.nodes,.int .i64 c.queue,.int .i64 c.limit,.int .i64 c.age,.int .i64 c.fair,.int .i64 c.size,.int .i64 c.period,.int .i64 c.half,.int .i64 now,.slice ao la.length ca,.slice jo ps.length cj,.int .i64 hd] hg1
    have bX:=sets_bel (Nat.le_refl wr.heap.size) [.int .i64 c2.nodes,.int .i64 c2.queue,.int .i64 c2.limit,.int .i64 c2.age,.int .i64 c2.fair,.int .i64 c2.size,.int .i64 c2.period,.int .i64 c2.half,.int .i64 now2,.slice ao2 la2.length ca2,.slice jo2 ps2.length cj2,.int .i64 hd2] 0 y1 by1
    simp only [setsA,setsW,List.setIfInBounds_toArray,List.set_cons_zero,List.set_cons_succ,Nat.zero_add,Nat.reduceAdd]at hX bX
    rw [hy2]at hX bX
    have HBR2:Hid (Below wr.heap.size wr y2):=bX
    have HB2:Hid (Below W.heap.size W y2):=HBL.out.trans (bX.mono HBL.out.size)
    have HW8:Hid (∀x:World,Below y2.heap.size y2 x→x.cell? ⟨wr.heap.size,0,none⟩=some (.int .i64 c2.nodes)∧x.cell? ⟨wr.heap.size,1,none⟩=some (.int .i64 c2.queue)∧x.cell? ⟨wr.heap.size,2,none⟩=some (.int .i64 c2.limit)∧x.cell? ⟨wr.heap.size,3,none⟩=some (.int .i64 c2.age)∧x.cell? ⟨wr.heap.size,4,none⟩=some (.int .i64 c2.fair)∧x.cell? ⟨wr.heap.size,5,none⟩=some (.int .i64 c2.size)∧x.cell? ⟨wr.heap.size,6,none⟩=some (.int .i64 c2.period)∧x.cell? ⟨wr.heap.size,7,none⟩=some (.int .i64 c2.half)∧x.cell? ⟨wr.heap.size,8,none⟩=some (.int .i64 now2)∧x.cell? ⟨wr.heap.size,9,none⟩=some (.slice ao2 la2.length ca2)∧x.cell? ⟨wr.heap.size,10,none⟩=some (.slice jo2 ps2.length cj2)∧x.cell? ⟨wr.heap.size,11,none⟩=some (.int .i64 hd2)):=fun x b=>⟨cellB b (cells_at hX rfl),cellB b (cells_at hX rfl),cellB b (cells_at hX rfl),cellB b (cells_at hX rfl),cellB b (cells_at hX rfl),cellB b (cells_at hX rfl),cellB b (cells_at hX rfl),cellB b (cells_at hX rfl),cellB b (cells_at hX rfl),cellB b (cells_at hX rfl),cellB b (cells_at hX rfl),cellB b (cells_at hX rfl)⟩
    clear by1 hg1 hX bX hk1
    go_upto_region 13 with fail
    clear hy1 hy2 e1 p0 p1 p2 p3 p4 p5 p6 p7 p8 p9 p10 p11 t0 t1 t2 t3 t4 t5 t6 t7 t8 t9 t10 t11 t0' t1' t2' t3' t4' t5' t6' t7' t8' t9' t10' t11' z0 z1 z2 z3 z4 z5 z6 z7 z8 z9 z10 z11 f0 f1 f2 f3 f4 f5 f6 f7 f8 f9 f10 f11
    obtain⟨q0,q1,q2,q3,q4,q5,q6,q7,q8,q9,q10,q11⟩:=HW8.out y2 (Below.refl _ _)
    go_upto_region 14 with(go_at_call 10;refine(HLE2.out y2 HB2.out).mono ?_;rintro e y3 ⟨ga,ca',gj,cj',vs2,qs,rfl,hl,b3⟩;obtain⟨av,cv,rfl,_,_,_⟩:=own_val hl.lnd.row;obtain⟨B0,y4,hb0,hx4,⟨z0,z1,z2,z3,z4,z5,z6,z7,z8,z9,z10,z11,z12,z13,z14⟩,⟨f0,f1,f2,f3,f4,f5,f6,f7,f8,f9,f10,f11,f12,f13,f14⟩,hX,bX⟩:=box15 y3 (.int .i64 c2.nodes) (.int .i64 c2.queue) (.int .i64 c2.limit) (.int .i64 c2.age) (.int .i64 c2.fair) (.int .i64 c2.size) (.int .i64 c2.period) (.int .i64 c2.half) (.int .i64 now2) (.slice (some ⟨ga,0,none⟩) la2.length ca') (.slice (some ⟨gj,0,none⟩) ps2.length cj') (.int .i64 hd2) (.slice (some ⟨ga,0,none⟩) (la2.length+1) ca') (.slice (some ⟨gj,0,none⟩) (ps2.length+1) cj') (.slice av qs.length cv);have HL3:Hid (Lent y3 y2.heap.size la2 ps2 ga ca' gj cj' (.slice av qs.length cv) qs):=hl;have HB3:Hid (Below y2.heap.size y2 y3):=b3;have HXH:Hid _:=hX;have HX34:Hid (Below y3.heap.size y3 y4):=bX;clear hl b3 hX bX)
    clear hb0 hx4 z0 z1 z2 z3 z4 z5 z6 z7 z8 z9 z10 z11 z12 z13 z14 f0 f1 f2 f3 f4 f5 f6 f7 f8 f9 f10 f11 f12 f13 f14 q0 q1 q2 q3 q4 q5 q6 q7 q8 q9 q10 q11
    have HX15:Hid (∀x:World,Below y4.heap.size y4 x→x.cell? ⟨y3.heap.size,0,none⟩=some (.int .i64 c2.nodes)∧x.cell? ⟨y3.heap.size,1,none⟩=some (.int .i64 c2.queue)∧x.cell? ⟨y3.heap.size,2,none⟩=some (.int .i64 c2.limit)∧x.cell? ⟨y3.heap.size,3,none⟩=some (.int .i64 c2.age)∧x.cell? ⟨y3.heap.size,4,none⟩=some (.int .i64 c2.fair)∧x.cell? ⟨y3.heap.size,5,none⟩=some (.int .i64 c2.size)∧x.cell? ⟨y3.heap.size,6,none⟩=some (.int .i64 c2.period)∧x.cell? ⟨y3.heap.size,7,none⟩=some (.int .i64 c2.half)∧x.cell? ⟨y3.heap.size,8,none⟩=some (.int .i64 now2)∧x.cell? ⟨y3.heap.size,9,none⟩=some (.slice (some ⟨ga,0,none⟩) la2.length ca')∧x.cell? ⟨y3.heap.size,10,none⟩=some (.slice (some ⟨gj,0,none⟩) ps2.length cj')∧x.cell? ⟨y3.heap.size,11,none⟩=some (.int .i64 hd2)∧x.cell? ⟨y3.heap.size,12,none⟩=some (.slice (some ⟨ga,0,none⟩) (la2.length+1) ca')∧x.cell? ⟨y3.heap.size,13,none⟩=some (.slice (some ⟨gj,0,none⟩) (ps2.length+1) cj')∧x.cell? ⟨y3.heap.size,14,none⟩=some (.slice av qs.length cv)):=fun x b=>⟨cellB b (cells_at HXH.out rfl),cellB b (cells_at HXH.out rfl),cellB b (cells_at HXH.out rfl),cellB b (cells_at HXH.out rfl),cellB b (cells_at HXH.out rfl),cellB b (cells_at HXH.out rfl),cellB b (cells_at HXH.out rfl),cellB b (cells_at HXH.out rfl),cellB b (cells_at HXH.out rfl),cellB b (cells_at HXH.out rfl),cellB b (cells_at HXH.out rfl),cellB b (cells_at HXH.out rfl),cellB b (cells_at HXH.out rfl),cellB b (cells_at HXH.out rfl),cellB b (cells_at HXH.out rfl)⟩
    have HB24:Hid (Below y2.heap.size y2 y4):=HB3.out.trans (HX34.out.mono HB3.out.size)
    obtain⟨d0,d1,d2,d3,d4,d5,d6,d7,d8,d9,d10,d11,d12,d13,d14⟩:=HX15.out y4 (Below.refl _ _)
    go_upto_region 15 with(go_at_call 11;refine(HPU2.out HL3.out HX34.out).mono ?_;rintro e y5 ⟨a1,k1,rfl,o5,b5⟩;have HO5:Hid (OwB y5 y4.heap.size (.slice a1 R2.length k1) R2):=o5;have HB45:Hid (Below y4.heap.size y4 y5):=b5;clear o5 b5)
    clear d0 d1 d2 d3 d4 d5 d6 d7 d8 d9 d10 d11 d12 d13 d14
    have HB25:Hid (Below y2.heap.size y2 y5):=HB24.out.trans (HB45.out.mono HB24.out.size)
    obtain⟨q0,q1,q2,q3,q4,q5,q6,q7,q8,q9,q10,q11⟩:=HW8.out y5 HB25.out
    go_upto_region 16 with(go_at_call 12;refine(HFP2.out y5 (HB2.out.trans (HB25.out.mono HB2.out.size))).mono ?_;rintro e y6 ⟨a2,k2,rfl,o6,b6⟩;have HO6:Hid (OwB y6 y5.heap.size (.slice a2 R2.length k2) R2):=o6;have HB56:Hid (Below y5.heap.size y5 y6):=b6;clear o6 b6)
    clear q0 q1 q2 q3 q4 q5 q6 q7 q8 q9 q10 q11
    have HB26:Hid (Below y2.heap.size y2 y6):=HB25.out.trans (HB56.out.mono HB25.out.size)
    have HB46:Hid (Below y4.heap.size y4 y6):=HB45.out.trans (HB56.out.mono HB45.out.size)
    have hne:(E2 != E2)=false:=by simp
    have hRR:R2.length≤2200000000:=by have:=HRL.out;omega
    have HSBB:Hid (Calls Tryz.prog 13 #[.slice a1 R2.length k1,.slice a2 R2.length k2] y6 (Tells y6 True)):=HSB.out hRR (OwB.alloc HO5.out HB56.out) HO6.out
    clear hRR
    go_upto_region 18 with(first
     | (go_at_call 13;refine(show Calls _ _ _ _ _ from HSBB.out).mono ?_;intro e y7 hx;obtain⟨rfl,b7⟩:=Tells.is trivial hx;have HB67:Hid (Below y6.heap.size y6 y7):=b7;obtain⟨d0,d1,d2,d3,d4,d5,d6,d7,d8,d9,d10,d11,d12,d13,d14⟩:=HX15.out y7 (HB46.out.trans (b7.mono HB46.out.size));obtain⟨q0,q1,q2,q3,q4,q5,q6,q7,q8,q9,q10,q11⟩:=HW8.out y7 (HB26.out.trans (b7.mono HB26.out.size));clear b7 hx)
     | (go_at_call 14;refine(HST2.out (HB2.out.trans ((HB26.out.trans (HB67.out.mono HB26.out.size)).mono HB2.out.size)) HL3.out (HX34.out.trans ((HB46.out.trans (HB67.out.mono HB46.out.size)).mono HX34.out.size))).mono ?_;rintro e y8 ⟨rfl,t8⟩;have HT8:Hid (Tn y2.heap.size y3.heap.size y7 y8):=t8;clear t8))
    clear d0 d1 d2 d3 d4 d5 d6 d7 d8 d9 d10 d11 d12 d13 d14 q0 q1 q2 q3 q4 q5 q6 q7 q8 q9 q10 q11 hne HSBB HX15
    have HB27:Hid (Below y2.heap.size y2 y7):=HB26.out.trans (HB67.out.mono HB26.out.size)
    have HB18:Hid (Below wr.heap.size wr y8):=(show Below _ _ _ from by
     have b17:=HBR2.out.trans (HB27.out.mono HBR2.out.size)
     have z2:=HBR2.out.size
     exact⟨HT8.out.os.trans b17.os,HT8.out.tape.trans b17.tape,HT8.out.output.trans b17.output,Nat.le_trans b17.size HT8.out.size,fun g hg=>(HT8.out.block g (Nat.lt_of_lt_of_le hg b17.size) (.inl (by omega))).trans (b17.block g hg)⟩)
    have HV8:Hid (OwB y8 y4.heap.size (.slice a1 R2.length k1) R2):=(show OwB _ _ _ _ from by
     have t1:=OwB.alloc (OwB.alloc HO5.out HB56.out) HB67.out
     exact row_stand t1 (fun g hg=>HT8.out.block g (OwB.low t1 g hg).2 (.inr (Nat.le_trans HX34.out.size (OwB.low t1 g hg).1))))
    have HU8:Hid (OwB y8 y5.heap.size (.slice a2 R2.length k2) R2):=(show OwB _ _ _ _ from by
     have t1:=OwB.alloc HO6.out HB67.out
     exact row_stand t1 (fun g hg=>HT8.out.block g (OwB.low t1 g hg).2 (.inr (Nat.le_trans HX34.out.size (Nat.le_trans HB45.out.size (OwB.low t1 g hg).1)))))
    have HVL:Hid (∀g,(Value.slice a1 R2.length k1).ownBlock=some g→g<y5.heap.size):=fun g hg=>(OwB.low HO5.out g hg).2
    have HZE:Hid (W.heap.size≤y4.heap.size∧wr.heap.size≤y4.heap.size∧y4.heap.size≤y5.heap.size):=⟨Nat.le_trans HB2.out.size HB24.out.size,Nat.le_trans HBR2.out.size HB24.out.size,HB45.out.size⟩
    clear HL3 HB3 HXH HX34 HB24 HB45 HB25 HB56 HB26 HB46 HB67 HT8 HB27 HO5 HO6 HW8 HB2 HBR2
    obtain⟨Y1,hY1⟩:∃Y1,y8.alloc (.cells #[.slice a1 R2.length k1] 35)=Y1:=⟨_,rfl⟩
    have bY1:Below y8.heap.size y8 Y1:=by rw [← hY1];exact(Below.refl _ y8).alloc (Nat.le_refl _) _
    have HY1:Hid (Below y8.heap.size y8 Y1):=bY1
    have HR1:Hid (Y1.ownsRow W.heap.size 35 1 u5 k vs):=row_stand HAP.out.ro (fun g hg=>(HB18.out.trans (bY1.mono HB18.out.size)).block g (HAP.out.ro.lt g hg).2)
    have HW1:Hid (Y1.ownsRow W.heap.size 35 1 u6 k ws):=row_stand HAP.out.rw (fun g hg=>(HB18.out.trans (bY1.mono HB18.out.size)).block g (HAP.out.rw.lt g hg).2)
    have HN1:Hid (∀ad,(some ⟨y8.heap.size,0,none⟩:Option Addr)=some ad→∀j u,([Value.slice a1 R2.length k1])[j]?=some u→Y1.cell? (ad.add j)=some u):=fun ad e j u hu=>by cases e;rw [← hY1];exact new_cells y8 [Value.slice a1 R2.length k1] 35 j u hu
    have HBY:Hid (W.heap.size≤Y1.heap.size):=Nat.le_trans HBL.out.size (Nat.le_trans HB18.out.size bY1.size)
    clear bY1
    go_upto_region 19 with(at_builtin;refine wpList_append_mv rfl (.tmp 60) (.tmp 62) 30 rfl W.heap.size 35 i4 _ 1 24 Tryz.underlying30 hi4 hz40 hz41 hz42 rfl (by decide) u5 k vs rfl HR1.out (some ⟨y8.heap.size,0,none⟩) 1 1 [Value.slice a1 R2.length k1] rfl (fun e=>by cases e) rfl HN1.out (by intro u hu;rw [List.mem_singleton]at hu;rw [hu];rfl) ?_ ?_ ?_ ?_;exact(Nat.le_trans (m:=35184372088832) (by omega) (by decide));omega;exact HBY.out;intro v9 y9 o9 g9 m9;have HO9:Hid (y9.ownsRow W.heap.size 35 1 v9 (k+1) (vs++ [Value.slice a1 R2.length k1])):=o9;have HG9:Hid (Y1.grownBy y9 u5.ownBlock):=g9;have HM9:Hid (v9.ownBlock=u5.ownBlock∨v9.ownBlock=some Y1.heap.size):=m9;clear o9 g9 m9)
    obtain⟨Y2,hY2⟩:∃Y2,y9.alloc (.cells #[.slice a2 R2.length k2] 35)=Y2:=⟨_,rfl⟩
    have bY2:Below y9.heap.size y9 Y2:=by rw [← hY2];exact(Below.refl _ y9).alloc (Nat.le_refl _) _
    have HY2:Hid (Below y9.heap.size y9 Y2):=bY2
    have HW2:Hid (Y2.ownsRow W.heap.size 35 1 u6 k ws):=(show World.ownsRow _ _ _ _ _ _ _ from by
     have t1:=row_stand HW1.out (fun g hg=>HG9.out.block g (HW1.out.lt g hg).2 (fun e=>HAP.out.ow g e.symm hg))
     exact row_stand t1 (fun g hg=>bY2.block g (t1.lt g hg).2))
    have HN2:Hid (∀ad,(some ⟨y9.heap.size,0,none⟩:Option Addr)=some ad→∀j u,([Value.slice a2 R2.length k2])[j]?=some u→Y2.cell? (ad.add j)=some u):=fun ad e j u hu=>by cases e;rw [← hY2];exact new_cells y9 [Value.slice a2 R2.length k2] 35 j u hu
    have HBY2:Hid (W.heap.size≤Y2.heap.size):=Nat.le_trans HBY.out (Nat.le_trans HG9.out.size bY2.size)
    clear bY2 hY1
    go_upto_region 9 with(at_builtin;refine wpList_append_mv rfl (.tmp 64) (.tmp 66) 30 rfl W.heap.size 35 i4 _ 1 24 Tryz.underlying30 hi4 hz40 hz41 hz42 rfl (by decide) u6 k ws rfl HW2.out (some ⟨y9.heap.size,0,none⟩) 1 1 [Value.slice a2 R2.length k2] rfl (fun e=>by cases e) rfl HN2.out (by intro u hu;rw [List.mem_singleton]at hu;rw [hu];rfl) ?_ ?_ ?_ ?_;exact(Nat.le_trans (m:=35184372088832) (by omega) (by decide));omega;exact HBY2.out;intro v10 y10 o10 g10 m10;have HO10:Hid (y10.ownsRow W.heap.size 35 1 v10 (k+1) (ws++ [Value.slice a2 R2.length k2])):=o10;have HG10:Hid (Y2.grownBy y10 u6.ownBlock):=g10;have HM10:Hid (v10.ownBlock=u6.ownBlock∨v10.ownBlock=some Y2.heap.size):=m10;clear o10 g10 m10)
    clear hY2
    have HAPN:Hid (Apb y10 W.heap.size v9 v10 (vs++ [Value.slice a1 R2.length k1]) (ws++ [Value.slice a2 R2.length k2]) (fun j=>if j=1 then R2 else R) (fun j=>if j=1 then R2 else R) (k+1)):=Apb.push HAP.out HB18.out HZE.out.1 HZE.out.2.1 HZE.out.2.2 (by rw [HSK.out];exact HV8.out) HVL.out (by rw [HSK.out];exact HU8.out) HY1.out HG9.out HM9.out HO9.out HY2.out HG10.out HM10.out HO10.out (Nat.le_trans HB18.out.size HY1.out.size)
    have HBLN:Hid (Below W.heap.size W y10):=(show Below _ _ _ from by
     have t1:=HBL.out.trans ((HB18.out.trans (HY1.out.mono HB18.out.size)).mono HBL.out.size)
     have t2:=bel_grown t1 HBY.out (Nat.le_refl _) HR1.out HG9.out
     have t3:=t2.trans (HY2.out.mono t2.size)
     exact bel_grown t3 HBY2.out (Nat.le_refl _) HW2.out HG10.out)
    clear HAP HBL HB18 HV8 HU8 HVL HZE HY1 HG9 HM9 HO9 HY2 HG10 HM10 HO10 HR1 HW1 HW2 HN1 HN2 HBY HBY2 HSK
    go_wp2
    go_roundg (3 - (k+1))
    case measure=>omega
    case rel=>exact⟨k+1,_,_,by omega,rfl,HAPN.out,HBLN.out⟩
   ·have e1:((k:Int)==1)=false:=by rw [beq_eq_false_iff_ne];omega
    have HSK:Hid ((fun j=>if j=1 then R2 else R) k=R):=if_neg hk1
    obtain⟨y2,hy2⟩:∃y2,wr.alloc (.cells #[.int .i64 c.nodes,.int .i64 c.queue,.int .i64 c.limit,.int .i64 c.age,.int .i64 c.fair,.int .i64 c.size,.int .i64 c.period,.int .i64 c.half,.int .i64 now,.slice ao la.length ca,.slice jo ps.length cj,.int .i64 hd] 27)=y2:=⟨_,rfl⟩
    have by1:Below wr.heap.size wr y2:=by rw [← hy2];exact(Below.refl _ wr).alloc (Nat.le_refl _) _
    have hg1:y2.heap[wr.heap.size]?=some (.cells #[.int .i64 c.nodes,.int .i64 c.queue,.int .i64 c.limit,.int .i64 c.age,.int .i64 c.fair,.int .i64 c.size,.int .i64 c.period,.int .i64 c.half,.int .i64 now,.slice ao la.length ca,.slice jo ps.length cj,.int .i64 hd] 27 (0,0)):=by rw [← hy2];exact heap_alloc_new wr _
    have HBR2:Hid (Below wr.heap.size wr y2):=by1
    have HB2:Hid (Below W.heap.size W y2):=HBL.out.trans (by1.mono HBL.out.size)
    have HW8:Hid (∀x:World,Below y2.heap.size y2 x→x.cell? ⟨wr.heap.size,0,none⟩=some (.int .i64 c.nodes)∧x.cell? ⟨wr.heap.size,1,none⟩=some (.int .i64 c.queue)∧x.cell? ⟨wr.heap.size,2,none⟩=some (.int .i64 c.limit)∧x.cell? ⟨wr.heap.size,3,none⟩=some (.int .i64 c.age)∧x.cell? ⟨wr.heap.size,4,none⟩=some (.int .i64 c.fair)∧x.cell? ⟨wr.heap.size,5,none⟩=some (.int .i64 c.size)∧x.cell? ⟨wr.heap.size,6,none⟩=some (.int .i64 c.period)∧x.cell? ⟨wr.heap.size,7,none⟩=some (.int .i64 c.half)∧x.cell? ⟨wr.heap.size,8,none⟩=some (.int .i64 now)∧x.cell? ⟨wr.heap.size,9,none⟩=some (.slice ao la.length ca)∧x.cell? ⟨wr.heap.size,10,none⟩=some (.slice jo ps.length cj)∧x.cell? ⟨wr.heap.size,11,none⟩=some (.int .i64 hd)):=fun x b=>⟨cellB b (cells_at hg1 rfl),cellB b (cells_at hg1 rfl),cellB b (cells_at hg1 rfl),cellB b (cells_at hg1 rfl),cellB b (cells_at hg1 rfl),cellB b (cells_at hg1 rfl),cellB b (cells_at hg1 rfl),cellB b (cells_at hg1 rfl),cellB b (cells_at hg1 rfl),cellB b (cells_at hg1 rfl),cellB b (cells_at hg1 rfl),cellB b (cells_at hg1 rfl)⟩
    clear by1 hg1 hk1
    go_upto_region 13 with fail
    clear hy2 e1 p0 p1 p2 p3 p4 p5 p6 p7 p8 p9 p10 p11
    obtain⟨q0,q1,q2,q3,q4,q5,q6,q7,q8,q9,q10,q11⟩:=HW8.out y2 (Below.refl _ _)
    go_upto_region 14 with(go_at_call 10;refine(HLE.out y2 HB2.out).mono ?_;rintro e y3 ⟨ga,ca',gj,cj',vs2,qs,rfl,hl,b3⟩;obtain⟨av,cv,rfl,_,_,_⟩:=own_val hl.lnd.row;obtain⟨B0,y4,hb0,hx4,⟨z0,z1,z2,z3,z4,z5,z6,z7,z8,z9,z10,z11,z12,z13,z14⟩,⟨f0,f1,f2,f3,f4,f5,f6,f7,f8,f9,f10,f11,f12,f13,f14⟩,hX,bX⟩:=box15 y3 (.int .i64 c.nodes) (.int .i64 c.queue) (.int .i64 c.limit) (.int .i64 c.age) (.int .i64 c.fair) (.int .i64 c.size) (.int .i64 c.period) (.int .i64 c.half) (.int .i64 now) (.slice (some ⟨ga,0,none⟩) la.length ca') (.slice (some ⟨gj,0,none⟩) ps.length cj') (.int .i64 hd) (.slice (some ⟨ga,0,none⟩) (la.length+1) ca') (.slice (some ⟨gj,0,none⟩) (ps.length+1) cj') (.slice av qs.length cv);have HL3:Hid (Lent y3 y2.heap.size la ps ga ca' gj cj' (.slice av qs.length cv) qs):=hl;have HB3:Hid (Below y2.heap.size y2 y3):=b3;have HXH:Hid _:=hX;have HX34:Hid (Below y3.heap.size y3 y4):=bX;clear hl b3 hX bX)
    clear hb0 hx4 z0 z1 z2 z3 z4 z5 z6 z7 z8 z9 z10 z11 z12 z13 z14 f0 f1 f2 f3 f4 f5 f6 f7 f8 f9 f10 f11 f12 f13 f14 q0 q1 q2 q3 q4 q5 q6 q7 q8 q9 q10 q11
    have HX15:Hid (∀x:World,Below y4.heap.size y4 x→x.cell? ⟨y3.heap.size,0,none⟩=some (.int .i64 c.nodes)∧x.cell? ⟨y3.heap.size,1,none⟩=some (.int .i64 c.queue)∧x.cell? ⟨y3.heap.size,2,none⟩=some (.int .i64 c.limit)∧x.cell? ⟨y3.heap.size,3,none⟩=some (.int .i64 c.age)∧x.cell? ⟨y3.heap.size,4,none⟩=some (.int .i64 c.fair)∧x.cell? ⟨y3.heap.size,5,none⟩=some (.int .i64 c.size)∧x.cell? ⟨y3.heap.size,6,none⟩=some (.int .i64 c.period)∧x.cell? ⟨y3.heap.size,7,none⟩=some (.int .i64 c.half)∧x.cell? ⟨y3.heap.size,8,none⟩=some (.int .i64 now)∧x.cell? ⟨y3.heap.size,9,none⟩=some (.slice (some ⟨ga,0,none⟩) la.length ca')∧x.cell? ⟨y3.heap.size,10,none⟩=some (.slice (some ⟨gj,0,none⟩) ps.length cj')∧x.cell? ⟨y3.heap.size,11,none⟩=some (.int .i64 hd)∧x.cell? ⟨y3.heap.size,12,none⟩=some (.slice (some ⟨ga,0,none⟩) (la.length+1) ca')∧x.cell? ⟨y3.heap.size,13,none⟩=some (.slice (some ⟨gj,0,none⟩) (ps.length+1) cj')∧x.cell? ⟨y3.heap.size,14,none⟩=some (.slice av qs.length cv)):=fun x b=>⟨cellB b (cells_at HXH.out rfl),cellB b (cells_at HXH.out rfl),cellB b (cells_at HXH.out rfl),cellB b (cells_at HXH.out rfl),cellB b (cells_at HXH.out rfl),cellB b (cells_at HXH.out rfl),cellB b (cells_at HXH.out rfl),cellB b (cells_at HXH.out rfl),cellB b (cells_at HXH.out rfl),cellB b (cells_at HXH.out rfl),cellB b (cells_at HXH.out rfl),cellB b (cells_at HXH.out rfl),cellB b (cells_at HXH.out rfl),cellB b (cells_at HXH.out rfl),cellB b (cells_at HXH.out rfl)⟩
    have HB24:Hid (Below y2.heap.size y2 y4):=HB3.out.trans (HX34.out.mono HB3.out.size)
    obtain⟨d0,d1,d2,d3,d4,d5,d6,d7,d8,d9,d10,d11,d12,d13,d14⟩:=HX15.out y4 (Below.refl _ _)
    go_upto_region 15 with(go_at_call 11;refine(HPU.out HL3.out HX34.out).mono ?_;rintro e y5 ⟨a1,k1,rfl,o5,b5⟩;have HO5:Hid (OwB y5 y4.heap.size (.slice a1 R.length k1) R):=o5;have HB45:Hid (Below y4.heap.size y4 y5):=b5;clear o5 b5)
    clear d0 d1 d2 d3 d4 d5 d6 d7 d8 d9 d10 d11 d12 d13 d14
    have HB25:Hid (Below y2.heap.size y2 y5):=HB24.out.trans (HB45.out.mono HB24.out.size)
    obtain⟨q0,q1,q2,q3,q4,q5,q6,q7,q8,q9,q10,q11⟩:=HW8.out y5 HB25.out
    go_upto_region 16 with(go_at_call 12;refine(HFP.out y5 (HB2.out.trans (HB25.out.mono HB2.out.size))).mono ?_;rintro e y6 ⟨a2,k2,rfl,o6,b6⟩;have HO6:Hid (OwB y6 y5.heap.size (.slice a2 R.length k2) R):=o6;have HB56:Hid (Below y5.heap.size y5 y6):=b6;clear o6 b6)
    clear q0 q1 q2 q3 q4 q5 q6 q7 q8 q9 q10 q11
    have HB26:Hid (Below y2.heap.size y2 y6):=HB25.out.trans (HB56.out.mono HB25.out.size)
    have HB46:Hid (Below y4.heap.size y4 y6):=HB45.out.trans (HB56.out.mono HB45.out.size)
    have hne:(E != E)=false:=by simp
    have hRR:R.length≤2200000000:=by have:=HRL.out;omega
    have HSBB:Hid (Calls Tryz.prog 13 #[.slice a1 R.length k1,.slice a2 R.length k2] y6 (Tells y6 True)):=HSB.out hRR (OwB.alloc HO5.out HB56.out) HO6.out
    clear hRR
    go_upto_region 18 with(first
     | (go_at_call 13;refine(show Calls _ _ _ _ _ from HSBB.out).mono ?_;intro e y7 hx;obtain⟨rfl,b7⟩:=Tells.is trivial hx;have HB67:Hid (Below y6.heap.size y6 y7):=b7;obtain⟨d0,d1,d2,d3,d4,d5,d6,d7,d8,d9,d10,d11,d12,d13,d14⟩:=HX15.out y7 (HB46.out.trans (b7.mono HB46.out.size));obtain⟨q0,q1,q2,q3,q4,q5,q6,q7,q8,q9,q10,q11⟩:=HW8.out y7 (HB26.out.trans (b7.mono HB26.out.size));clear b7 hx)
     | (go_at_call 14;refine(HST.out (HB2.out.trans ((HB26.out.trans (HB67.out.mono HB26.out.size)).mono HB2.out.size)) HL3.out (HX34.out.trans ((HB46.out.trans (HB67.out.mono HB46.out.size)).mono HX34.out.size))).mono ?_;rintro e y8 ⟨rfl,t8⟩;have HT8:Hid (Tn y2.heap.size y3.heap.size y7 y8):=t8;clear t8))
    clear d0 d1 d2 d3 d4 d5 d6 d7 d8 d9 d10 d11 d12 d13 d14 q0 q1 q2 q3 q4 q5 q6 q7 q8 q9 q10 q11 hne HSBB HX15
    have HB27:Hid (Below y2.heap.size y2 y7):=HB26.out.trans (HB67.out.mono HB26.out.size)
    have HB18:Hid (Below wr.heap.size wr y8):=(show Below _ _ _ from by
     have b17:=HBR2.out.trans (HB27.out.mono HBR2.out.size)
     have z2:=HBR2.out.size
     exact⟨HT8.out.os.trans b17.os,HT8.out.tape.trans b17.tape,HT8.out.output.trans b17.output,Nat.le_trans b17.size HT8.out.size,fun g hg=>(HT8.out.block g (Nat.lt_of_lt_of_le hg b17.size) (.inl (by omega))).trans (b17.block g hg)⟩)
    have HV8:Hid (OwB y8 y4.heap.size (.slice a1 R.length k1) R):=(show OwB _ _ _ _ from by
     have t1:=OwB.alloc (OwB.alloc HO5.out HB56.out) HB67.out
     exact row_stand t1 (fun g hg=>HT8.out.block g (OwB.low t1 g hg).2 (.inr (Nat.le_trans HX34.out.size (OwB.low t1 g hg).1))))
    have HU8:Hid (OwB y8 y5.heap.size (.slice a2 R.length k2) R):=(show OwB _ _ _ _ from by
     have t1:=OwB.alloc HO6.out HB67.out
     exact row_stand t1 (fun g hg=>HT8.out.block g (OwB.low t1 g hg).2 (.inr (Nat.le_trans HX34.out.size (Nat.le_trans HB45.out.size (OwB.low t1 g hg).1)))))
    have HVL:Hid (∀g,(Value.slice a1 R.length k1).ownBlock=some g→g<y5.heap.size):=fun g hg=>(OwB.low HO5.out g hg).2
    have HZE:Hid (W.heap.size≤y4.heap.size∧wr.heap.size≤y4.heap.size∧y4.heap.size≤y5.heap.size):=⟨Nat.le_trans HB2.out.size HB24.out.size,Nat.le_trans HBR2.out.size HB24.out.size,HB45.out.size⟩
    clear HL3 HB3 HXH HX34 HB24 HB45 HB25 HB56 HB26 HB46 HB67 HT8 HB27 HO5 HO6 HW8 HB2 HBR2
    obtain⟨Y1,hY1⟩:∃Y1,y8.alloc (.cells #[.slice a1 R.length k1] 35)=Y1:=⟨_,rfl⟩
    have bY1:Below y8.heap.size y8 Y1:=by rw [← hY1];exact(Below.refl _ y8).alloc (Nat.le_refl _) _
    have HY1:Hid (Below y8.heap.size y8 Y1):=bY1
    have HR1:Hid (Y1.ownsRow W.heap.size 35 1 u5 k vs):=row_stand HAP.out.ro (fun g hg=>(HB18.out.trans (bY1.mono HB18.out.size)).block g (HAP.out.ro.lt g hg).2)
    have HW1:Hid (Y1.ownsRow W.heap.size 35 1 u6 k ws):=row_stand HAP.out.rw (fun g hg=>(HB18.out.trans (bY1.mono HB18.out.size)).block g (HAP.out.rw.lt g hg).2)
    have HN1:Hid (∀ad,(some ⟨y8.heap.size,0,none⟩:Option Addr)=some ad→∀j u,([Value.slice a1 R.length k1])[j]?=some u→Y1.cell? (ad.add j)=some u):=fun ad e j u hu=>by cases e;rw [← hY1];exact new_cells y8 [Value.slice a1 R.length k1] 35 j u hu
    have HBY:Hid (W.heap.size≤Y1.heap.size):=Nat.le_trans HBL.out.size (Nat.le_trans HB18.out.size bY1.size)
    clear bY1
    go_upto_region 19 with(at_builtin;refine wpList_append_mv rfl (.tmp 60) (.tmp 62) 30 rfl W.heap.size 35 i4 _ 1 24 Tryz.underlying30 hi4 hz40 hz41 hz42 rfl (by decide) u5 k vs rfl HR1.out (some ⟨y8.heap.size,0,none⟩) 1 1 [Value.slice a1 R.length k1] rfl (fun e=>by cases e) rfl HN1.out (by intro u hu;rw [List.mem_singleton]at hu;rw [hu];rfl) ?_ ?_ ?_ ?_;exact(Nat.le_trans (m:=35184372088832) (by omega) (by decide));omega;exact HBY.out;intro v9 y9 o9 g9 m9;have HO9:Hid (y9.ownsRow W.heap.size 35 1 v9 (k+1) (vs++ [Value.slice a1 R.length k1])):=o9;have HG9:Hid (Y1.grownBy y9 u5.ownBlock):=g9;have HM9:Hid (v9.ownBlock=u5.ownBlock∨v9.ownBlock=some Y1.heap.size):=m9;clear o9 g9 m9)
    obtain⟨Y2,hY2⟩:∃Y2,y9.alloc (.cells #[.slice a2 R.length k2] 35)=Y2:=⟨_,rfl⟩
    have bY2:Below y9.heap.size y9 Y2:=by rw [← hY2];exact(Below.refl _ y9).alloc (Nat.le_refl _) _
    have HY2:Hid (Below y9.heap.size y9 Y2):=bY2
    have HW2:Hid (Y2.ownsRow W.heap.size 35 1 u6 k ws):=(show World.ownsRow _ _ _ _ _ _ _ from by
     have t1:=row_stand HW1.out (fun g hg=>HG9.out.block g (HW1.out.lt g hg).2 (fun e=>HAP.out.ow g e.symm hg))
     exact row_stand t1 (fun g hg=>bY2.block g (t1.lt g hg).2))
    have HN2:Hid (∀ad,(some ⟨y9.heap.size,0,none⟩:Option Addr)=some ad→∀j u,([Value.slice a2 R.length k2])[j]?=some u→Y2.cell? (ad.add j)=some u):=fun ad e j u hu=>by cases e;rw [← hY2];exact new_cells y9 [Value.slice a2 R.length k2] 35 j u hu
    have HBY2:Hid (W.heap.size≤Y2.heap.size):=Nat.le_trans HBY.out (Nat.le_trans HG9.out.size bY2.size)
    clear bY2 hY1
    go_upto_region 9 with(at_builtin;refine wpList_append_mv rfl (.tmp 64) (.tmp 66) 30 rfl W.heap.size 35 i4 _ 1 24 Tryz.underlying30 hi4 hz40 hz41 hz42 rfl (by decide) u6 k ws rfl HW2.out (some ⟨y9.heap.size,0,none⟩) 1 1 [Value.slice a2 R.length k2] rfl (fun e=>by cases e) rfl HN2.out (by intro u hu;rw [List.mem_singleton]at hu;rw [hu];rfl) ?_ ?_ ?_ ?_;exact(Nat.le_trans (m:=35184372088832) (by omega) (by decide));omega;exact HBY2.out;intro v10 y10 o10 g10 m10;have HO10:Hid (y10.ownsRow W.heap.size 35 1 v10 (k+1) (ws++ [Value.slice a2 R.length k2])):=o10;have HG10:Hid (Y2.grownBy y10 u6.ownBlock):=g10;have HM10:Hid (v10.ownBlock=u6.ownBlock∨v10.ownBlock=some Y2.heap.size):=m10;clear o10 g10 m10)
    clear hY2
    have HAPN:Hid (Apb y10 W.heap.size v9 v10 (vs++ [Value.slice a1 R.length k1]) (ws++ [Value.slice a2 R.length k2]) (fun j=>if j=1 then R2 else R) (fun j=>if j=1 then R2 else R) (k+1)):=Apb.push HAP.out HB18.out HZE.out.1 HZE.out.2.1 HZE.out.2.2 (by rw [HSK.out];exact HV8.out) HVL.out (by rw [HSK.out];exact HU8.out) HY1.out HG9.out HM9.out HO9.out HY2.out HG10.out HM10.out HO10.out (Nat.le_trans HB18.out.size HY1.out.size)
    have HBLN:Hid (Below W.heap.size W y10):=(show Below _ _ _ from by
     have t1:=HBL.out.trans ((HB18.out.trans (HY1.out.mono HB18.out.size)).mono HBL.out.size)
     have t2:=bel_grown t1 HBY.out (Nat.le_refl _) HR1.out HG9.out
     have t3:=t2.trans (HY2.out.mono t2.size)
     exact bel_grown t3 HBY2.out (Nat.le_refl _) HW2.out HG10.out)
    clear HAP HBL HB18 HV8 HU8 HVL HZE HY1 HG9 HM9 HO9 HY2 HG10 HM10 HO10 HR1 HW1 HW2 HN1 HN2 HBY HBY2 HSK
    go_wp2
    go_roundg (3 - (k+1))
    case measure=>omega
    case rel=>exact⟨k+1,_,_,by omega,rfl,HAPN.out,HBLN.out⟩
  ·obtain rfl:k=3:=by omega
   go_wp2_with (go_at_call 15;refine(apart_any HAP.out (Nat.le_refl _) (fun i=>by have:=HRL.out;by_cases e:i=1<;>simp only [e,if_true,if_false]<;>omega) HBL.out.size).mono ?_;rintro e z1 ⟨rfl,bz⟩;have HZ:Hid (Below W.heap.size W z1):=HBL.out.trans bz;clear bz)
   go_ret
   exact⟨rfl,HBW.out.trans (HZ.out.mono HBW.out.size)⟩
end Go.Proofs.YtceoibfliggalaaGreatDoor
namespace Go.Proofs.YtceoibfliggalaaGreatDoor
open Go.ChangeShapes Go.WideShapes Go.ChangeAt Go.RowKit Go.Joins Wd Ld Cg Tr Lg
set_option maxRecDepth 100000 in
theorem writes_lifted (os:Os) (started:os.Started) (H:Type) (enc:TypeId×Value→H):
  ReturnsInHanded {} Tryz.checked os 3 .any (fun w args=>(Rows.snapWritesSpec.pre enc Tryz.prog Tryz.f3 [] false w args∧laidMetH Tryz.prog LaidL w)∧sizedMet enc Tryz.prog Tryz.f3 (OpenSpec.ofChange Rows.snapWritesSpec) false w args)
   (Rows.snapWritesSpec.post enc Tryz.prog Tryz.f3 false true false false):=by
 refine returnsInHanded_of_change_and (C:=Tryz.checked) (X:=fun w _=>laidMetH Tryz.prog LaidL w) (fun _ _ _ hh h=>h.of_heap hh) Tryz.own started (by kernel_rfl) Tryz.func3
  (ChangeSpec.witness_at (enc:=enc) (C:=Tryz.checked) (os:=os) (X:=fun w _=>laidMetH Tryz.prog LaidL w) false {World.holding Tryz.prog os ⟨#[],#[],[]⟩with heap:=(World.holding Tryz.prog os ⟨#[],#[],[]⟩).heap.modify 0 laidObj} #[.agg #[.int .i64 0,.int .i64 0,.int .i64 0,.int .i64 0,.int .i64 0,.int .i64 0,.int .i64 0,.int .i64 0,.int .i64 0,.slice none 0 0,.slice none 0 0,.int .i64 0],.agg #[.int .i64 0,.int .i64 0,.int .i64 0,.int .i64 0,.int .i64 0,.int .i64 0,.int .i64 0,.int .i64 0,.int .i64 0,.slice none 0 0,.slice none 0 0,.int .i64 0]] 8 rfl (by kernel_rfl) (by kernel_rfl) (by kernel_rfl) (by kernel_rfl) (by kernel_rfl) (laid_met os _)) ?_
 intro W base args ds gs before hval0 hW _ hsz0 hL _
 have hsz:(DataW.weightsEach Tryz.prog (Tryz.f3.params.toList++Rows.snapWritesSpec.plain.varTypes Tryz.prog) (ds++gs)).all (· ≤reachBytes)=true:=hsz0
 have hval:∀(j:Nat) t v,Tryz.f3.params[j]?=some t→args[j]?=some v→Value.okWide Tryz.prog W .any base t v:=hval0
 have hW':=hW
 obtain⟨p,q,hA0,hV,rfl,hfz,hnd⟩:=hW
 have hA:DataW.TrodAll enc Tryz.prog W 0 (fun _=>true) true Tryz.f3.params.toList args.toList ds p:=hA0
 rw [Tryz.params3]at hA hval hsz
 obtain⟨v0,v1,d0,d1,p0,p1,rfl,rfl,rfl,h0,h1⟩:=trodAll_two hA
 obtain⟨rfl,rfl⟩:=trodVars_none hV
 have hk0:=h0
 obtain⟨cf0,now0,hd0,ao0,jo0,la0,ps0,ca0,cj0,rfl,hin0⟩:=state_in (hval 0 27 v0 rfl rfl) h0 (fun k hk=>of_decide_eq_true (List.all_eq_true.1 hsz k (DataW.weights_mem_each (j:=0) (t:=27) rfl rfl k hk)))
 have hk1:=h1
 obtain⟨cf1,now1,hd1,ao1,jo1,la1,ps1,ca1,cj1,rfl,hin1⟩:=state_in (hval 1 27 v1 rfl rfl) h1 (fun k hk=>of_decide_eq_true (List.all_eq_true.1 hsz k (DataW.weights_mem_each (j:=1) (t:=27) rfl rfl k hk)))
 clear hA0 hval0
 simp only [List.append_nil]at hW'
 have hT:=tab_of_laid hL
 have hlt0:∀x∈p0,x.block<W.heap.size:=fun x hx=>hW'.lt x (by simp [hx])
 have a0:∀(W':World),Below W.heap.size W W'→DataW.Trod enc Tryz.prog W' 0 (fun b=>decide (b<W.heap.size)) true 27 _ d0 p0:=
  fun W' hn=>Below.trod Tryz.laidOut (by kernel_rfl) (of_decide_eq_true (by kernel_rfl)) hk0 hn hlt0
 have hlt1:∀x∈p1,x.block<W.heap.size:=fun x hx=>hW'.lt x (by simp [hx])
 have a1:∀(W':World),Below W.heap.size W W'→DataW.Trod enc Tryz.prog W' 0 (fun b=>decide (b<W.heap.size)) true 27 _ d1 p1:=
  fun W' hn=>Below.trod Tryz.laidOut (by kernel_rfl) (of_decide_eq_true (by kernel_rfl)) hk1 hn hlt1
 refine(writes_walk hT cf0 now0 hd0 hin0 cf1 now1 hd1 hin1).mono fun e W' ⟨he,hg⟩=>?_
 subst he
 exact⟨_,rfl,_,_,_,[],_,[],hW',trodAll_mk1 (shut_bool Tryz.underlying4 _),trodAll_mk2 (a0 W' hg) (a1 W' hg),rfl,hg.frame _,fun h=>by cases h⟩
theorem writes_row:Rows.SnapWritesSaid:=
 OpenClaim.holds_of_wide 3 Tryz.f3 rfl rfl rfl rfl rfl rfl rfl ⟨rfl,rfl,rfl,rfl,rfl⟩ rfl rfl rfl rfl rfl (by kernel_rfl) Tryz.func3 (by kernel_rfl)
  (of_decide_eq_true (by kernel_rfl)) (by unfold Func.isWrapper;first | (rw [if_pos (by decide +kernel)];kernel_rfl) | (rw [if_neg (by decide +kernel)];exact⟨rfl,rfl⟩))
  (fun os started H enc _=>writes_lifted os started H enc)
theorem writes_holds:Rows.SnapWritesCardSaid:=
 Claim7.holds_tied_plain_at .later [] [.data] true (true, "93019a37b43cc40eb6d377bad41c526b5da69ceac612c8bded333125ab71b752") true
  writes_row (fun _ h=>by cases h) (by kernel_rfl) (fun _ h=>by cases h) snapWrites_row_tie rfl ⟨rfl,rfl⟩ (by kernel_rfl) rfl
  (fun f fn hf hfn=>by
   obtain rfl:f=3:=Option.some.inj ((show Tryz.prog.funcNamed "backfill/backfilllaw19.SnapWrites" =some 3 by kernel_rfl).symm.trans hf) |>.symm
   obtain rfl:fn=Tryz.f3:=(Option.some.inj (Tryz.func3.symm.trans hfn)).symm
   exact⟨by kernel_rfl,fun j t ht=>by
    rw [Tryz.params3]at ht
    have h3:t=27∨t=27:=by
     rcases j with _ | _ | j
     ·exact (.inl (by simpa using ht.symm))
     ·exact (.inr (by simpa using ht.symm))
     ·simp at ht
    rcases h3 with rfl | rfl
    ·exact (show Tryz.prog.wantsStandIn 27=false by kernel_rfl)
    ·exact (show Tryz.prog.wantsStandIn 27=false by kernel_rfl)⟩)
  (by kernel_rfl)
end Go.Proofs.YtceoibfliggalaaGreatDoor
namespace Go.Proofs.YtceoibfliggalaaGreatDoor
#print axioms writes_holds
end Go.Proofs.YtceoibfliggalaaGreatDoor
