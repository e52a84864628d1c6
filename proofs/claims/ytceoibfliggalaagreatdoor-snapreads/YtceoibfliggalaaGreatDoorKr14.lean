/-
  TEXTS: RuE, RuF, LuA, LuB.
-/
import Derived.Test.YtceoibfliggalaaGreatDoorKr12
import Derived.Test.YtceoibfliggalaaGreatDoorKr11
import Derived.Test.YtceoibfliggalaaGreatDoorKr9
import Derived.Deep.CutBlock
import Derived.Deep.DeepCutAuto
import Derived.Test.YtceoibfliggalaaGreatDoorKr13
import Derived.Deep.QuietTactic
import Derived.Maps.AppendAt
import Derived.Laws.AppendOwnNone
import Derived.Deep.Onto
namespace Go.Proofs.YtceoibfliggalaaGreatDoor
open Go.RowKit Wd Tr Cg Lg
def headA (c:Cf) (N:Nat) (j:Jv):Bool:=decide (1≤j.ac)&&(decide (j.ac<(N:Int))&&(decide (1≤j.nd)&&(decide (j.nd≤c.nodes)&&(decide (1≤j.lm)&&decide (j.lm≤c.limit)))))
def headC (c:Cf) (now:Int) (p:Int) (j:Jv):Bool:=decide (0≤j.sb)&&(decide (j.sb≤now)&&(decide (j.sb+boundZ c≤1099511627776)&&decide (p≤j.sb)))
theorem ahead_zero (js:List Jv):aheadOf js 0=0:=rfl
theorem ahead_succ {js:List Jv} {i:Nat} {j:Jv} (h:js[i]?=some j):aheadOf js (i+1)=j.sb:=by
 unfold aheadOf
 rw [if_neg (by omega),Nat.add_sub_cancel,h]
set_option maxRecDepth 20000 in
set_option maxHeartbeats 8000000 in
theorem ujob_any {w:World} (c:Cf) (hck:chkZ c=0) (now:Int) (ao:Option Addr) (na ca:Nat) {jo:Option Addr} {ps:List Pj} (cj:Nat) (hd:Int) (hJ:PjsAt w jo ps) (hl:ps.length≤140737488355328) (hsl:∀p∈ps,p.v.set.length≤140737488355328) (hnow:now≤1099511627776) {i:Nat} {p:Pj} (hp:ps[i]?=some p):
  Calls Tryz.prog 37 #[.agg (stL c now ao na ca jo ps.length cj hd),.int .i64 (i:Int)] w fun e w'=>e=.returned (.bool (jobB c now na (aheadOf (ps.map Pj.v) i) p.v))∧Below w.heap.size w w':=by
 have hi:=(List.getElem?_eq_some_iff.1 hp).1
 have hpm:=List.mem_of_getElem? hp
 obtain⟨⟨g,o,hg,hcl⟩,hsets⟩:=hJ
 obtain rfl:=hg (by rw [List.length_map];omega)
 have hrow:∀k q,ps[k]?=some q→JbAt w g (o+k*8) q.jb:=fun k q hq=>hcl k q.jb (by rw [List.getElem?_map,hq];rfl)
 have hpj:=hrow i p hp
 have HPREV:Hid (∀k q,ps[k]?=some q→w.cell? ⟨g,o+k*8+3,none⟩=some (.int .i64 q.v.sb)):=fun k q hq=>(hrow k q hq).sb
 have HAH:Hid (∀k q,ps[k]?=some q→aheadOf (ps.map Pj.v) (k+1)=q.v.sb):=fun k q hq=>ahead_succ (by rw [List.getElem?_map,hq];rfl)
 have HGET:Hid (∀k,k<ps.length→∃q,ps[k]?=some q):=fun k hk=>⟨_,List.getElem?_eq_getElem hk⟩
 obtain⟨r,hm,_⟩:=chk_ok hck
 have hbb:=bound_box r
 have cB:=rBound_yes hck
 have HTM:Hid (∀x,Below w.heap.size w x→0≤p.v.sb→(0≤p.v.lm∧p.v.lm≤1048576)→Calls Tryz.prog 84 #[.agg (stL c now (ao) na ca (some ⟨g,o,none⟩) ps.length cj hd),pjV p] x fun e w'=>e=.returned (.bool (timesB c now p.v))∧Below x.heap.size x w'):=fun x hx h1 h2=>utimes_any c now ao na ca _ _ cj hd p ((hsets p hpm).below hx) (hsl p hpm) h1 hnow h2
 have hlim:=r.l1
 have hJP:jobB c now na (aheadOf (ps.map Pj.v) i) p.v=((headA c na p.v&&headC c now (aheadOf (ps.map Pj.v) i) p.v)&&timesB c now p.v):=rfl
 obtain⟨⟨ac,nd,lm,sb,st,sr,en,xs⟩,sa,sc⟩:=p
 obtain⟨y0,y1,y2,y3,y4,y5,y6,y7⟩:=hpj
 have hiI:(i:Int)<(ps.length:Int):=by omega
 have hi0:(0:Int)≤(i:Int):=by omega
 have HI:Hid (i<ps.length):=hi
 generalize ps.length=N at *
 unfold stL pjV cfV at *
 dsimp only [Pj.jb]at y0 y1 y2 y3 y4 y5 y6 y7 hJP HTM ⊢
 have HJP:Hid (jobB c now na (aheadOf (ps.map Pj.v) i) ⟨ac,nd,lm,sb,st,sr,en,xs⟩=((headA c na ⟨ac,nd,lm,sb,st,sr,en,xs⟩&&headC c now (aheadOf (ps.map Pj.v) i) ⟨ac,nd,lm,sb,st,sr,en,xs⟩)&&timesB c now ⟨ac,nd,lm,sb,st,sr,en,xs⟩)):=hJP
 clear hJP hsets hcl hg hsl hpm hrow hp hi hm r hck
 obtain⟨W,hW⟩:∃W,w.alloc (.cells #[.int .i64 c.nodes,.int .i64 c.queue,.int .i64 c.limit,.int .i64 c.age,.int .i64 c.fair,.int .i64 c.size,.int .i64 c.period,.int .i64 c.half,.int .i64 now,.slice ao na ca,.slice (some ⟨g,o,none⟩) N cj,.int .i64 hd] 27)=W:=⟨_,rfl⟩
 have b1:Below w.heap.size w W:=by rw [← hW];exact(Below.refl _ w).alloc (Nat.le_refl _) _
 have k0:W.cell? ⟨w.heap.size,0,none⟩=some (.int .i64 c.nodes):=by rw [← hW];exact cells_at (heap_alloc_new w _) rfl
 have k1:W.cell? ⟨w.heap.size,1,none⟩=some (.int .i64 c.queue):=by rw [← hW];exact cells_at (heap_alloc_new w _) rfl
 have k2:W.cell? ⟨w.heap.size,2,none⟩=some (.int .i64 c.limit):=by rw [← hW];exact cells_at (heap_alloc_new w _) rfl
 have k3:W.cell? ⟨w.heap.size,3,none⟩=some (.int .i64 c.age):=by rw [← hW];exact cells_at (heap_alloc_new w _) rfl
 have k4:W.cell? ⟨w.heap.size,4,none⟩=some (.int .i64 c.fair):=by rw [← hW];exact cells_at (heap_alloc_new w _) rfl
 have k5:W.cell? ⟨w.heap.size,5,none⟩=some (.int .i64 c.size):=by rw [← hW];exact cells_at (heap_alloc_new w _) rfl
 have k6:W.cell? ⟨w.heap.size,6,none⟩=some (.int .i64 c.period):=by rw [← hW];exact cells_at (heap_alloc_new w _) rfl
 have k7:W.cell? ⟨w.heap.size,7,none⟩=some (.int .i64 c.half):=by rw [← hW];exact cells_at (heap_alloc_new w _) rfl
 have k8:W.cell? ⟨w.heap.size,8,none⟩=some (.int .i64 now):=by rw [← hW];exact cells_at (heap_alloc_new w _) rfl
 have k9:W.cell? ⟨w.heap.size,9,none⟩=some (.slice ao na ca):=by rw [← hW];exact cells_at (heap_alloc_new w _) rfl
 have k10:W.cell? ⟨w.heap.size,10,none⟩=some (.slice (some ⟨g,o,none⟩) N cj):=by rw [← hW];exact cells_at (heap_alloc_new w _) rfl
 have k11:W.cell? ⟨w.heap.size,11,none⟩=some (.int .i64 hd):=by rw [← hW];exact cells_at (heap_alloc_new w _) rfl
 have hzW:W.heap.size=w.heap.size+1:=by rw [← hW];simp
 have x0:=cellB b1 y0
 have x1:=cellB b1 y1
 have x2:=cellB b1 y2
 have x3:=cellB b1 y3
 have x4:=cellB b1 y4
 have x5:=cellB b1 y5
 have x6:=cellB b1 y6
 have x7:=cellB b1 y7
 clear y0 y1 y2 y3 y4 y5 y6 y7
 obtain⟨W2,hW2⟩:∃W2,W.alloc (.cells #[.int .i64 ac,.int .i64 nd,.int .i64 lm,.int .i64 sb,.int .i64 st,.int .i64 sr,.int .i64 en,.slice sa xs.length sc] 55)=W2:=⟨_,rfl⟩
 have b2:Below W.heap.size W W2:=by rw [← hW2];exact(Below.refl _ W).alloc (Nat.le_refl _) _
 have m0:=cellB b2 k0
 have m1:=cellB b2 k1
 have m2:=cellB b2 k2
 have m3:=cellB b2 k3
 have m4:=cellB b2 k4
 have m5:=cellB b2 k5
 have m6:=cellB b2 k6
 have m7:=cellB b2 k7
 have m8:=cellB b2 k8
 have m9:=cellB b2 k9
 have m10:=cellB b2 k10
 have m11:=cellB b2 k11
 have n0:W2.cell? ⟨W.heap.size,0,none⟩=some (.int .i64 ac):=by rw [← hW2];exact cells_at (heap_alloc_new W _) rfl
 have n1:W2.cell? ⟨W.heap.size,1,none⟩=some (.int .i64 nd):=by rw [← hW2];exact cells_at (heap_alloc_new W _) rfl
 have n2:W2.cell? ⟨W.heap.size,2,none⟩=some (.int .i64 lm):=by rw [← hW2];exact cells_at (heap_alloc_new W _) rfl
 have n3:W2.cell? ⟨W.heap.size,3,none⟩=some (.int .i64 sb):=by rw [← hW2];exact cells_at (heap_alloc_new W _) rfl
 have n4:W2.cell? ⟨W.heap.size,4,none⟩=some (.int .i64 st):=by rw [← hW2];exact cells_at (heap_alloc_new W _) rfl
 have n5:W2.cell? ⟨W.heap.size,5,none⟩=some (.int .i64 sr):=by rw [← hW2];exact cells_at (heap_alloc_new W _) rfl
 have n6:W2.cell? ⟨W.heap.size,6,none⟩=some (.int .i64 en):=by rw [← hW2];exact cells_at (heap_alloc_new W _) rfl
 have n7:W2.cell? ⟨W.heap.size,7,none⟩=some (.slice sa xs.length sc):=by rw [← hW2];exact cells_at (heap_alloc_new W _) rfl
 have HB2:Hid (Below w.heap.size w W2):=b1.trans (b2.mono b1.size)
 clear b1 b2 hzW
 go_enter Tryz.func37,Tryz.ntmps37
 go_upto_region 2 with fail
 clear hW hW2 k0 k1 k2 k3 k4 k5 k6 k7 k8 k9 k10 k11 x0 x1 x2 x3 x4 x5 x6 x7
 by_cases q0:¬(1≤ac)
 ·have HT:Hid (headA c na ⟨ac,nd,lm,sb,st,sr,en,xs⟩=false):=(show headA c na ⟨ac,nd,lm,sb,st,sr,en,xs⟩=false by simp [headA,q0])
  go_wp2
  go_ret
  exact⟨by rw [HJP.out,HT.out];rfl,HB2.out⟩
 replace q0:=Decidable.not_not.1 q0
 by_cases q1:¬(ac<(na:Int))
 ·have HT:Hid (headA c na ⟨ac,nd,lm,sb,st,sr,en,xs⟩=false):=(show headA c na ⟨ac,nd,lm,sb,st,sr,en,xs⟩=false by simp [headA,q0,q1])
  go_wp2
  go_ret
  exact⟨by rw [HJP.out,HT.out];rfl,HB2.out⟩
 replace q1:=Decidable.not_not.1 q1
 by_cases q2:¬(1≤nd)
 ·have HT:Hid (headA c na ⟨ac,nd,lm,sb,st,sr,en,xs⟩=false):=(show headA c na ⟨ac,nd,lm,sb,st,sr,en,xs⟩=false by simp [headA,q0,q1,q2])
  go_wp2
  go_ret
  exact⟨by rw [HJP.out,HT.out];rfl,HB2.out⟩
 replace q2:=Decidable.not_not.1 q2
 by_cases q3:¬(nd≤c.nodes)
 ·have HT:Hid (headA c na ⟨ac,nd,lm,sb,st,sr,en,xs⟩=false):=(show headA c na ⟨ac,nd,lm,sb,st,sr,en,xs⟩=false by simp [headA,q0,q1,q2,q3])
  go_wp2
  go_ret
  exact⟨by rw [HJP.out,HT.out];rfl,HB2.out⟩
 replace q3:=Decidable.not_not.1 q3
 by_cases q4:¬(1≤lm)
 ·have HT:Hid (headA c na ⟨ac,nd,lm,sb,st,sr,en,xs⟩=false):=(show headA c na ⟨ac,nd,lm,sb,st,sr,en,xs⟩=false by simp [headA,q0,q1,q2,q3,q4])
  go_wp2
  go_ret
  exact⟨by rw [HJP.out,HT.out];rfl,HB2.out⟩
 replace q4:=Decidable.not_not.1 q4
 by_cases q5:¬(lm≤c.limit)
 ·have HT:Hid (headA c na ⟨ac,nd,lm,sb,st,sr,en,xs⟩=false):=(show headA c na ⟨ac,nd,lm,sb,st,sr,en,xs⟩=false by simp [headA,q0,q1,q2,q3,q4,q5])
  go_wp2
  go_ret
  exact⟨by rw [HJP.out,HT.out];rfl,HB2.out⟩
 replace q5:=Decidable.not_not.1 q5
 have HA1:Hid (headA c na ⟨ac,nd,lm,sb,st,sr,en,xs⟩=true):=(show headA c na ⟨ac,nd,lm,sb,st,sr,en,xs⟩=true by simp [headA,q0,q1,q2,q3,q4,q5])
 go_upto_region 4 with fail
 obtain⟨B,hB⟩:∃B,boundZ c=B:=⟨_,rfl⟩
 have HBd:Hid (boundZ c=B):=hB
 rw [hB]at cB hbb
 clear hB
 obtain⟨P,hP⟩:∃P,aheadOf (ps.map Pj.v) i=P:=⟨_,rfl⟩
 have HP:Hid (aheadOf (ps.map Pj.v) i=P):=hP
 rw [hP]at HJP
 clear hP
 obtain⟨hc,hhc⟩:∃hc,headC c now P ⟨ac,nd,lm,sb,st,sr,en,xs⟩=hc:=⟨_,rfl⟩
 have HHC:Hid (headC c now P ⟨ac,nd,lm,sb,st,sr,en,xs⟩=hc):=hhc
 rw [hhc]at HJP
 clear hhc
 go_cut [82] (fun v x=>v=.bool (!hc)∧Below W2.heap.size W2 x)
 case first=>
  by_cases z1:sb<0
  ·have e1:decide (sb<0)=true:=decide_eq_true z1
   refine wp_region_last (S:=(fun x':World=>Below W2.heap.size W2 x')) (L:=99) (by kernel_rfl) ?_
   have HSW0:(fun x':World=>Below W2.heap.size W2 x') (W2.drew):=drew_below W2
   have HF:Hid (∀xx:World,(fun x':World=>Below W2.heap.size W2 x') xx→_∧_∧_∧_∧_∧_∧_∧_∧_∧_∧_∧True):=fun xx hSx=>⟨cellB hSx m0,cellB hSx m1,cellB hSx m2,cellB hSx m3,cellB hSx m4,cellB hSx m5,cellB hSx m6,cellB hSx m7,cellB hSx m8,cellB hSx m10,cellB hSx n3,trivial⟩
   refine tk 0 HSW0 (h:=?_)
   refine tk 1 HSW0 (h:=?_)
   refine tk 2 HSW0 (h:=?_)
   try rw [e1]
   refine tk 3 HSW0 (h:=?_)
   refine sk 4 HSW0 (h:=?_)
   refine sk 5 HSW0 (h:=?_)
   refine sk 6 HSW0 (h:=?_)
   refine sk 7 HSW0 (h:=?_)
   refine sk 8 HSW0 (h:=?_)
   refine tk 9 HSW0 (h:=?_)
   refine tk 10 HSW0 (h:=?_)
   refine sk 11 HSW0 (h:=?_)
   refine sk 12 HSW0 (h:=?_)
   refine sk 13 HSW0 (h:=?_)
   refine sk 14 HSW0 (h:=?_)
   refine sk 15 HSW0 (h:=?_)
   refine sk 16 HSW0 (h:=?_)
   refine sk 17 HSW0 (h:=?_)
   refine tk 18 HSW0 (h:=?_)
   refine tk 19 HSW0 (h:=?_)
   refine sk 20 HSW0 (h:=?_)
   refine sk 21 HSW0 (h:=?_)
   refine sk 22 HSW0 (h:=?_)
   refine sk 23 HSW0 (h:=?_)
   refine sk 24 HSW0 (h:=?_)
   refine sk 25 HSW0 (h:=?_)
   refine sk 26 HSW0 (h:=?_)
   refine sk 27 HSW0 (h:=?_)
   refine sk 28 HSW0 (h:=?_)
   refine sk 29 HSW0 (h:=?_)
   refine sk 30 HSW0 (h:=?_)
   refine sk 31 HSW0 (h:=?_)
   refine sk 32 HSW0 (h:=?_)
   refine sk 33 HSW0 (h:=?_)
   refine tk 34 HSW0 (h:=?_)
   refine last_done (by kernel_rfl) ?_ _
   have HSX:Hid (Below W2.heap.size W2 W2.drew):=HSW0
   clear HSW0
   go_wp2
   go_meet
   exact⟨by rw [← HHC.out];(show (Value.bool true=Value.bool (!headC c now P ⟨ac,nd,lm,sb,st,sr,en,xs⟩));rw [show headC c now P ⟨ac,nd,lm,sb,st,sr,en,xs⟩=false by unfold headC;rw [decide_eq_false (show ¬(0:Int)≤sb by omega)];rfl];rfl),HSX.out⟩
  have e1:decide (sb<0)=false:=decide_eq_false z1
  by_cases z2:now<sb
  ·have e2:decide (now<sb)=true:=decide_eq_true z2
   refine wp_region_last (S:=(fun x':World=>Below W2.heap.size W2 x')) (L:=99) (by kernel_rfl) ?_
   have HSW0:(fun x':World=>Below W2.heap.size W2 x') (W2.drew):=drew_below W2
   have HF:Hid (∀xx:World,(fun x':World=>Below W2.heap.size W2 x') xx→_∧_∧_∧_∧_∧_∧_∧_∧_∧_∧_∧True):=fun xx hSx=>⟨cellB hSx m0,cellB hSx m1,cellB hSx m2,cellB hSx m3,cellB hSx m4,cellB hSx m5,cellB hSx m6,cellB hSx m7,cellB hSx m8,cellB hSx m10,cellB hSx n3,trivial⟩
   refine tk 0 HSW0 (h:=?_)
   refine tk 1 HSW0 (h:=?_)
   refine tk 2 HSW0 (h:=?_)
   try rw [e1]
   refine tk 3 HSW0 (h:=?_)
   refine tk 4 HSW0 (h:=?_)
   refine tk 5 HSW0 (h:=?_)
   refine tk 6 HSW0 (h:=?_)
   refine tk 7 HSW0 (h:=?_)
   refine tk 8 HSW0 (h:=?_)
   try rw [e2]
   refine tk 9 HSW0 (h:=?_)
   refine tk 10 HSW0 (h:=?_)
   refine sk 11 HSW0 (h:=?_)
   refine sk 12 HSW0 (h:=?_)
   refine sk 13 HSW0 (h:=?_)
   refine sk 14 HSW0 (h:=?_)
   refine sk 15 HSW0 (h:=?_)
   refine sk 16 HSW0 (h:=?_)
   refine sk 17 HSW0 (h:=?_)
   refine tk 18 HSW0 (h:=?_)
   refine tk 19 HSW0 (h:=?_)
   refine sk 20 HSW0 (h:=?_)
   refine sk 21 HSW0 (h:=?_)
   refine sk 22 HSW0 (h:=?_)
   refine sk 23 HSW0 (h:=?_)
   refine sk 24 HSW0 (h:=?_)
   refine sk 25 HSW0 (h:=?_)
   refine sk 26 HSW0 (h:=?_)
   refine sk 27 HSW0 (h:=?_)
   refine sk 28 HSW0 (h:=?_)
   refine sk 29 HSW0 (h:=?_)
   refine sk 30 HSW0 (h:=?_)
   refine sk 31 HSW0 (h:=?_)
   refine sk 32 HSW0 (h:=?_)
   refine sk 33 HSW0 (h:=?_)
   refine tk 34 HSW0 (h:=?_)
   refine last_done (by kernel_rfl) ?_ _
   have HSX:Hid (Below W2.heap.size W2 W2.drew):=HSW0
   clear HSW0
   go_wp2
   go_meet
   exact⟨by rw [← HHC.out];(show (Value.bool true=Value.bool (!headC c now P ⟨ac,nd,lm,sb,st,sr,en,xs⟩));rw [show headC c now P ⟨ac,nd,lm,sb,st,sr,en,xs⟩=false by unfold headC;rw [decide_eq_false (show ¬sb≤now by omega),Bool.false_and,Bool.and_false]];rfl),HSX.out⟩
  have e2:decide (now<sb)=false:=decide_eq_false z2
  have hw:IntKind.i64.wrap (sb+B)=sb+B:=by rw [IntKind.wrap_i64];omega
  by_cases z3:1099511627776<sb+B
  ·have e3:decide (1099511627776<sb+B)=true:=decide_eq_true z3
   refine wp_region_last (S:=(fun x':World=>Below W2.heap.size W2 x')) (L:=99) (by kernel_rfl) ?_
   have HSW0:(fun x':World=>Below W2.heap.size W2 x') (W2.drew):=drew_below W2
   have HF:Hid (∀xx:World,(fun x':World=>Below W2.heap.size W2 x') xx→_∧_∧_∧_∧_∧_∧_∧_∧_∧_∧_∧True):=fun xx hSx=>⟨cellB hSx m0,cellB hSx m1,cellB hSx m2,cellB hSx m3,cellB hSx m4,cellB hSx m5,cellB hSx m6,cellB hSx m7,cellB hSx m8,cellB hSx m10,cellB hSx n3,trivial⟩
   refine tk 0 HSW0 (h:=?_)
   refine tk 1 HSW0 (h:=?_)
   refine tk 2 HSW0 (h:=?_)
   try rw [e1]
   refine tk 3 HSW0 (h:=?_)
   refine tk 4 HSW0 (h:=?_)
   refine tk 5 HSW0 (h:=?_)
   refine tk 6 HSW0 (h:=?_)
   refine tk 7 HSW0 (h:=?_)
   refine tk 8 HSW0 (h:=?_)
   try rw [e2]
   refine tk 9 HSW0 (h:=?_)
   refine tk 10 HSW0 (h:=?_)
   refine tk 11 HSW0 (h:=?_)
   refine tk 12 HSW0 (h:=?_)
   refine tk 13 HSW0 (h:=?_)
   refine tk 14 HSW0 (h:=?_)
   refine last_one (i:=15) (by kernel_rfl) rfl ?_
   intro K hK
   go_simp
   go_at_call 83
   refine(cB _).mono ?_
   rintro e Z1 ⟨rfl,bz1⟩
   have HSZ1:(fun x':World=>Below W2.heap.size W2 x') Z1:=HSW0.trans (bz1.mono HSW0.size)
   go_simp
   refine hK.out _ _ (fun _=>HSZ1) (fun _=>?_)
   clear hK K HSW0
   refine tk 16 HSZ1 (h:=?_)
   try rw [hw]
   refine tk 17 HSZ1 (h:=?_)
   try rw [e3]
   refine tk 18 HSZ1 (h:=?_)
   refine tk 19 HSZ1 (h:=?_)
   refine sk 20 HSZ1 (h:=?_)
   refine sk 21 HSZ1 (h:=?_)
   refine sk 22 HSZ1 (h:=?_)
   refine sk 23 HSZ1 (h:=?_)
   refine sk 24 HSZ1 (h:=?_)
   refine sk 25 HSZ1 (h:=?_)
   refine sk 26 HSZ1 (h:=?_)
   refine sk 27 HSZ1 (h:=?_)
   refine sk 28 HSZ1 (h:=?_)
   refine sk 29 HSZ1 (h:=?_)
   refine sk 30 HSZ1 (h:=?_)
   refine sk 31 HSZ1 (h:=?_)
   refine sk 32 HSZ1 (h:=?_)
   refine sk 33 HSZ1 (h:=?_)
   refine tk 34 HSZ1 (h:=?_)
   refine last_done (by kernel_rfl) ?_ _
   have HSX:Hid (Below W2.heap.size W2 Z1):=HSZ1
   clear HSZ1 bz1
   go_wp2
   go_meet
   exact⟨by rw [← HHC.out];(show (Value.bool true=Value.bool (!headC c now P ⟨ac,nd,lm,sb,st,sr,en,xs⟩));rw [show headC c now P ⟨ac,nd,lm,sb,st,sr,en,xs⟩=false by unfold headC;rw [HBd.out,decide_eq_false (show ¬sb+B≤1099511627776 by omega),Bool.false_and,Bool.and_false,Bool.and_false]];rfl),HSX.out⟩
  have e3:decide (1099511627776<sb+B)=false:=decide_eq_false z3
  rcases i with _ | i
  ·have hP0:P=0:=HP.out.symm.trans (ahead_zero _)
   have HP0:Hid (P=0):=hP0
   clear hP0
   have e4:decide ((0:Int)<((0:Nat):Int))=false:=by simp
   refine wp_region_last (S:=(fun x':World=>Below W2.heap.size W2 x')) (L:=99) (by kernel_rfl) ?_
   have HSW0:(fun x':World=>Below W2.heap.size W2 x') (W2.drew):=drew_below W2
   have HF:Hid (∀xx:World,(fun x':World=>Below W2.heap.size W2 x') xx→_∧_∧_∧_∧_∧_∧_∧_∧_∧_∧_∧True):=fun xx hSx=>⟨cellB hSx m0,cellB hSx m1,cellB hSx m2,cellB hSx m3,cellB hSx m4,cellB hSx m5,cellB hSx m6,cellB hSx m7,cellB hSx m8,cellB hSx m10,cellB hSx n3,trivial⟩
   refine tk 0 HSW0 (h:=?_)
   refine tk 1 HSW0 (h:=?_)
   refine tk 2 HSW0 (h:=?_)
   try rw [e1]
   refine tk 3 HSW0 (h:=?_)
   refine tk 4 HSW0 (h:=?_)
   refine tk 5 HSW0 (h:=?_)
   refine tk 6 HSW0 (h:=?_)
   refine tk 7 HSW0 (h:=?_)
   refine tk 8 HSW0 (h:=?_)
   try rw [e2]
   refine tk 9 HSW0 (h:=?_)
   refine tk 10 HSW0 (h:=?_)
   refine tk 11 HSW0 (h:=?_)
   refine tk 12 HSW0 (h:=?_)
   refine tk 13 HSW0 (h:=?_)
   refine tk 14 HSW0 (h:=?_)
   refine last_one (i:=15) (by kernel_rfl) rfl ?_
   intro K hK
   go_simp
   go_at_call 83
   refine(cB _).mono ?_
   rintro e Z1 ⟨rfl,bz1⟩
   have HSZ1:(fun x':World=>Below W2.heap.size W2 x') Z1:=HSW0.trans (bz1.mono HSW0.size)
   go_simp
   refine hK.out _ _ (fun _=>HSZ1) (fun _=>?_)
   clear hK K HSW0
   refine tk 16 HSZ1 (h:=?_)
   try rw [hw]
   refine tk 17 HSZ1 (h:=?_)
   try rw [e3]
   refine tk 18 HSZ1 (h:=?_)
   refine tk 19 HSZ1 (h:=?_)
   refine tk 20 HSZ1 (h:=?_)
   refine tk 21 HSZ1 (h:=?_)
   try rw [e4]
   refine tk 22 HSZ1 (h:=?_)
   refine sk 23 HSZ1 (h:=?_)
   refine sk 24 HSZ1 (h:=?_)
   refine sk 25 HSZ1 (h:=?_)
   refine sk 26 HSZ1 (h:=?_)
   refine sk 27 HSZ1 (h:=?_)
   refine sk 28 HSZ1 (h:=?_)
   refine sk 29 HSZ1 (h:=?_)
   refine sk 30 HSZ1 (h:=?_)
   refine sk 31 HSZ1 (h:=?_)
   refine sk 32 HSZ1 (h:=?_)
   refine tk 33 HSZ1 (h:=?_)
   refine tk 34 HSZ1 (h:=?_)
   refine last_done (by kernel_rfl) ?_ _
   have HSX:Hid (Below W2.heap.size W2 Z1):=HSZ1
   clear HSZ1 bz1
   go_wp2
   go_meet
   exact⟨by rw [← HHC.out];(show (Value.bool false=Value.bool (!headC c now P ⟨ac,nd,lm,sb,st,sr,en,xs⟩));rw [show headC c now P ⟨ac,nd,lm,sb,st,sr,en,xs⟩=true by unfold headC;have:=HP0.out;rw [HBd.out,decide_eq_true (show (0:Int)≤sb by omega),decide_eq_true (show sb≤now by omega),decide_eq_true (show sb+B≤1099511627776 by omega),decide_eq_true (show P≤sb by omega)];rfl];rfl),HSX.out⟩
  ·obtain ⟨q,hq⟩:=HGET.out i (by have:=HI.out;omega)
   have hPq:q.v.sb=P:=(HAH.out i q hq).symm.trans HP.out
   have xq:=cellB HB2.out (HPREV.out i q hq)
   rw [hPq]at xq
   clear hPq hq
   have e4:decide ((0:Int)<((i+1:Nat):Int))=true:=decide_eq_true (by omega)
   have e5:IntKind.i64.wrap (((i+1:Nat):Int) - 1)=(i:Int):=by rw [IntKind.wrap_i64];have:=HI.out;omega
   have e5':IntKind.i64.wrap (i:Int)=(i:Int):=by rw [IntKind.wrap_i64];have:=HI.out;omega
   have hil:(i:Int)<(N:Int):=by have:=HI.out;omega
   have hil0:(0:Int)≤(i:Int):=by omega
   by_cases z6:sb<P
   ·have e6:decide (sb<P)=true:=decide_eq_true z6
    refine wp_region_last (S:=(fun x':World=>Below W2.heap.size W2 x')) (L:=99) (by kernel_rfl) ?_
    have HSW0:(fun x':World=>Below W2.heap.size W2 x') (W2.drew):=drew_below W2
    have HF:Hid (∀xx:World,(fun x':World=>Below W2.heap.size W2 x') xx→_∧_∧_∧_∧_∧_∧_∧_∧_∧_∧_∧_∧True):=fun xx hSx=>⟨cellB hSx m0,cellB hSx m1,cellB hSx m2,cellB hSx m3,cellB hSx m4,cellB hSx m5,cellB hSx m6,cellB hSx m7,cellB hSx m8,cellB hSx m10,cellB hSx n3,cellB hSx xq,trivial⟩
    refine tk 0 HSW0 (h:=?_)
    refine tk 1 HSW0 (h:=?_)
    refine tk 2 HSW0 (h:=?_)
    try rw [e1]
    refine tk 3 HSW0 (h:=?_)
    refine tk 4 HSW0 (h:=?_)
    refine tk 5 HSW0 (h:=?_)
    refine tk 6 HSW0 (h:=?_)
    refine tk 7 HSW0 (h:=?_)
    refine tk 8 HSW0 (h:=?_)
    try rw [e2]
    refine tk 9 HSW0 (h:=?_)
    refine tk 10 HSW0 (h:=?_)
    refine tk 11 HSW0 (h:=?_)
    refine tk 12 HSW0 (h:=?_)
    refine tk 13 HSW0 (h:=?_)
    refine tk 14 HSW0 (h:=?_)
    refine last_one (i:=15) (by kernel_rfl) rfl ?_
    intro K hK
    go_simp
    go_at_call 83
    refine(cB _).mono ?_
    rintro e Z1 ⟨rfl,bz1⟩
    have HSZ1:(fun x':World=>Below W2.heap.size W2 x') Z1:=HSW0.trans (bz1.mono HSW0.size)
    go_simp
    refine hK.out _ _ (fun _=>HSZ1) (fun _=>?_)
    clear hK K HSW0
    refine tk 16 HSZ1 (h:=?_)
    try rw [hw]
    refine tk 17 HSZ1 (h:=?_)
    try rw [e3]
    refine tk 18 HSZ1 (h:=?_)
    refine tk 19 HSZ1 (h:=?_)
    refine tk 20 HSZ1 (h:=?_)
    refine tk 21 HSZ1 (h:=?_)
    try rw [e4]
    refine tk 22 HSZ1 (h:=?_)
    refine tk 23 HSZ1 (h:=?_)
    refine tk 24 HSZ1 (h:=?_)
    refine tk 25 HSZ1 (h:=?_)
    refine tk 26 HSZ1 (h:=?_)
    refine tk 27 HSZ1 (h:=?_)
    refine tk 28 HSZ1 (h:=?_)
    try rw [e5]
    refine tk 29 HSZ1 (h:=?_)
    refine tk 30 HSZ1 (h:=?_)
    refine tk 31 HSZ1 (h:=?_)
    refine tk 32 HSZ1 (h:=?_)
    try rw [e6]
    refine tk 33 HSZ1 (h:=?_)
    refine tk 34 HSZ1 (h:=?_)
    refine last_done (by kernel_rfl) ?_ _
    have HSX:Hid (Below W2.heap.size W2 Z1):=HSZ1
    clear HSZ1 bz1
    go_wp2
    go_meet
    exact⟨by rw [← HHC.out];(show (Value.bool true=Value.bool (!headC c now P ⟨ac,nd,lm,sb,st,sr,en,xs⟩));rw [show headC c now P ⟨ac,nd,lm,sb,st,sr,en,xs⟩=false by unfold headC;rw [HBd.out,decide_eq_true (show (0:Int)≤sb by omega),decide_eq_true (show sb≤now by omega),decide_eq_true (show sb+B≤1099511627776 by omega),decide_eq_false (show ¬P≤sb by omega)];rfl];rfl),HSX.out⟩
   ·have e6:decide (sb<P)=false:=decide_eq_false z6
    refine wp_region_last (S:=(fun x':World=>Below W2.heap.size W2 x')) (L:=99) (by kernel_rfl) ?_
    have HSW0:(fun x':World=>Below W2.heap.size W2 x') (W2.drew):=drew_below W2
    have HF:Hid (∀xx:World,(fun x':World=>Below W2.heap.size W2 x') xx→_∧_∧_∧_∧_∧_∧_∧_∧_∧_∧_∧_∧True):=fun xx hSx=>⟨cellB hSx m0,cellB hSx m1,cellB hSx m2,cellB hSx m3,cellB hSx m4,cellB hSx m5,cellB hSx m6,cellB hSx m7,cellB hSx m8,cellB hSx m10,cellB hSx n3,cellB hSx xq,trivial⟩
    refine tk 0 HSW0 (h:=?_)
    refine tk 1 HSW0 (h:=?_)
    refine tk 2 HSW0 (h:=?_)
    try rw [e1]
    refine tk 3 HSW0 (h:=?_)
    refine tk 4 HSW0 (h:=?_)
    refine tk 5 HSW0 (h:=?_)
    refine tk 6 HSW0 (h:=?_)
    refine tk 7 HSW0 (h:=?_)
    refine tk 8 HSW0 (h:=?_)
    try rw [e2]
    refine tk 9 HSW0 (h:=?_)
    refine tk 10 HSW0 (h:=?_)
    refine tk 11 HSW0 (h:=?_)
    refine tk 12 HSW0 (h:=?_)
    refine tk 13 HSW0 (h:=?_)
    refine tk 14 HSW0 (h:=?_)
    refine last_one (i:=15) (by kernel_rfl) rfl ?_
    intro K hK
    go_simp
    go_at_call 83
    refine(cB _).mono ?_
    rintro e Z1 ⟨rfl,bz1⟩
    have HSZ1:(fun x':World=>Below W2.heap.size W2 x') Z1:=HSW0.trans (bz1.mono HSW0.size)
    go_simp
    refine hK.out _ _ (fun _=>HSZ1) (fun _=>?_)
    clear hK K HSW0
    refine tk 16 HSZ1 (h:=?_)
    try rw [hw]
    refine tk 17 HSZ1 (h:=?_)
    try rw [e3]
    refine tk 18 HSZ1 (h:=?_)
    refine tk 19 HSZ1 (h:=?_)
    refine tk 20 HSZ1 (h:=?_)
    refine tk 21 HSZ1 (h:=?_)
    try rw [e4]
    refine tk 22 HSZ1 (h:=?_)
    refine tk 23 HSZ1 (h:=?_)
    refine tk 24 HSZ1 (h:=?_)
    refine tk 25 HSZ1 (h:=?_)
    refine tk 26 HSZ1 (h:=?_)
    refine tk 27 HSZ1 (h:=?_)
    refine tk 28 HSZ1 (h:=?_)
    try rw [e5]
    refine tk 29 HSZ1 (h:=?_)
    refine tk 30 HSZ1 (h:=?_)
    refine tk 31 HSZ1 (h:=?_)
    refine tk 32 HSZ1 (h:=?_)
    try rw [e6]
    refine tk 33 HSZ1 (h:=?_)
    refine tk 34 HSZ1 (h:=?_)
    refine last_done (by kernel_rfl) ?_ _
    have HSX:Hid (Below W2.heap.size W2 Z1):=HSZ1
    clear HSZ1 bz1
    go_wp2
    go_meet
    exact⟨by rw [← HHC.out];(show (Value.bool false=Value.bool (!headC c now P ⟨ac,nd,lm,sb,st,sr,en,xs⟩));rw [show headC c now P ⟨ac,nd,lm,sb,st,sr,en,xs⟩=true by unfold headC;rw [HBd.out,decide_eq_true (show (0:Int)≤sb by omega),decide_eq_true (show sb≤now by omega),decide_eq_true (show sb+B≤1099511627776 by omega),decide_eq_true (show P≤sb by omega)];rfl];rfl),HSX.out⟩
 case rest=>
 obtain⟨rfl,hbx⟩:=hcut
 obtain⟨X,hX⟩:∃X,wc=X:=⟨_,rfl⟩
 rw [hX]at hbx ⊢
 clear hX
 have m0:=cellB hbx m0
 have m1:=cellB hbx m1
 have m2:=cellB hbx m2
 have m3:=cellB hbx m3
 have m4:=cellB hbx m4
 have m5:=cellB hbx m5
 have m6:=cellB hbx m6
 have m7:=cellB hbx m7
 have m8:=cellB hbx m8
 have m9:=cellB hbx m9
 have m10:=cellB hbx m10
 have m11:=cellB hbx m11
 have n0:=cellB hbx n0
 have n1:=cellB hbx n1
 have n2:=cellB hbx n2
 have n3:=cellB hbx n3
 have n4:=cellB hbx n4
 have n5:=cellB hbx n5
 have n6:=cellB hbx n6
 have n7:=cellB hbx n7
 have HBX:Hid (Below w.heap.size w X):=HB2.out.trans (hbx.mono HB2.out.size)
 cases hc with
 | false=>
  clear HHC
  go_wp2
  go_ret
  exact⟨by rw [HP.out,HJP.out,HA1.out];rfl,HBX.out⟩
 | true=>
 have hsb:0≤sb:=by have:=HHC.out;simp only [headC,Bool.and_eq_true,decide_eq_true_eq]at this;exact this.1
 have cT:=HTM.out X HBX.out hsb ⟨by omega,by omega⟩
 clear hbx HTM HHC
 go_wp2_with fail
 refine cT.mono ?_
 rintro e Y ⟨rfl,hy⟩
 have HBY:Hid (Below w.heap.size w Y):=HBX.out.trans (hy.mono HBX.out.size)
 clear hy
 go_wp2
 go_ret
 exact⟨by rw [HP.out,HJP.out,HA1.out];rfl,HBY.out⟩
end Go.Proofs.YtceoibfliggalaaGreatDoor
namespace Go.Proofs.YtceoibfliggalaaGreatDoor
open Go.RowKit Wd Tr Cg Lg
theorem bel_drawU (W:World) (n:Nat):Below W.heap.size W (W.drewN n):=by
 rw [World.drewN]
 exact⟨rfl,rfl,rfl,Nat.le_refl _,fun _ _=>rfl⟩
theorem vmap_at {ps:List Pj} {i:Nat} {p:Pj} (h:ps[i]?=some p):(ps.map Pj.v)[i]?=some p.v:=by rw [List.getElem?_map,h];rfl
theorem row_at {W:World} {jo:Option Addr} {ps:List Pj} (h:PjsAt W jo ps):∃g o,(0<ps.length→jo=some ⟨g,o,none⟩)∧∀x,Below W.heap.size W x→∀(k:Nat) (q:Pj),ps[k]?=some q→JbAt x g (o+k*8) q.jb:=by
 obtain⟨⟨g,o,hg,hcl⟩,_⟩:=h
 exact⟨g,o,fun h=>hg (by rw [List.length_map];exact h),fun x hx k q hq=>(hcl k q.jb (by rw [List.getElem?_map,hq];rfl)).below hx⟩
set_option maxRecDepth 20000 in
set_option maxHeartbeats 2000000 in
theorem ucheck_any {w:World} (c:Cf) (now:Int) {ao:Option Addr} {la:List Ac} (ca:Nat) {jo:Option Addr} {ps:List Pj} (cj:Nat) (hd:Int) (hA:AcsAt w ao la) (hu:∀(n:Nat) (a:Ac),la[n]?=some a→Word a.us) (hn:la.length*48≤281474976710656) (hJ:PjsAt w jo ps) (hl:ps.length≤140737488355328) (hcj:ps.length≤cj) (hsl:∀p∈ps,p.v.set.length≤140737488355328):
  Calls Tryz.prog 21 #[.agg (stL c now ao la.length ca jo ps.length cj hd)] w fun e w'=>e=.returned (.int .i64 (auditV (chkZ c) ⟨c,now,la,ps.map Pj.v,hd⟩))∧Below w.heap.size w w':=by
 have cC:=rcheck_any c
 have HLD:Hid (∀x,Below w.heap.size w x→Calls Tryz.prog 36 #[.slice ao la.length ca] x (RLoadP x la)):=fun x hx=>rload_any (hA.below hx) hn
 have HJB:Hid (chkZ c=0→now≤1099511627776→∀x,Below w.heap.size w x→∀(i:Nat) (p:Pj),ps[i]?=some p→Calls Tryz.prog 37 #[.agg (stL c now ao la.length ca jo ps.length cj hd),.int .i64 (i:Int)] x fun e w'=>e=.returned (.bool (jobB c now la.length (aheadOf (ps.map Pj.v) i) p.v))∧Below x.heap.size x w'):=fun h1 h2 x hx i p hp=>ujob_any c h1 now ao la.length ca cj hd (hJ.below hx) hl hsl h2 hp
 have HCM:Hid (∀x,Below w.heap.size w x→∀p q:Pj,p∈ps→q∈ps→Calls Tryz.prog 38 #[pjV p,pjV q] x fun e w'=>e=.returned (.bool (commonB p.v q.v))∧Below x.heap.size x w'):=fun x hx p q hp hq=>ucommon_any p q ((hJ.sets p hp).below hx) ((hJ.sets q hq).below hx) (hsl p hp) (hsl q hq)
 have HUS:Hid (∀x,Below w.heap.size w x→∀(n:Nat) (a:Ac),la[n]?=some a→(0≤rawJ n now (ps.map Pj.v)∧rawJ n now (ps.map Pj.v)≤4611686018427387904)→Calls Tryz.prog 39 #[.agg (stL c now ao la.length ca jo ps.length cj hd),.int .i64 (n:Int)] x fun e w'=>e=.returned (.bool (usageB now (ps.map Pj.v) n a))∧Below x.heap.size x w'):=fun x hx n a ha hr=>uusage_any c now ca cj hd (hA.below hx) (hJ.below hx) hl ha (hu n a ha) hr
 obtain⟨g,o,hg,hrow⟩:=row_at hJ
 have HROW:Hid (∀x,Below w.heap.size w x→∀(k:Nat) (q:Pj),ps[k]?=some q→JbAt x g (o+k*8) q.jb):=hrow
 have HN:Hid (ps.length=ps.length):=rfl
 obtain⟨L,hL⟩:∃L,la.length=L:=⟨_,rfl⟩
 obtain⟨N,hN⟩:∃N,ps.length=N:=⟨_,rfl⟩
 have HLL:Hid (la.length=L):=hL
 have HNN:Hid (ps.length=N∧(ps.map Pj.v).length=N):=⟨hN,by rw [List.length_map];exact hN⟩
 rw [hL]at HLD HJB HUS hn ⊢
 rw [hN]at HJB HUS hl hg hcj ⊢
 have HCJ:Hid (N≤cj):=hcj
 clear hcj
 have HG:Hid (0<N→jo=some ⟨g,o,none⟩):=hg
 clear hA hJ hsl hu hrow hL hN HN hg
 obtain⟨AV,hAV⟩:∃AV,auditV (chkZ c) ⟨c,now,la,ps.map Pj.v,hd⟩=AV:=⟨_,rfl⟩
 have HAV:Hid (auditV (chkZ c) ⟨c,now,la,ps.map Pj.v,hd⟩=AV):=hAV
 rw [hAV]
 clear hAV
 unfold stL cfV at *
 unfold pjV at HCM
 obtain⟨W,hW⟩:∃W,w.alloc (.cells #[.int .i64 c.nodes,.int .i64 c.queue,.int .i64 c.limit,.int .i64 c.age,.int .i64 c.fair,.int .i64 c.size,.int .i64 c.period,.int .i64 c.half,.int .i64 now,.slice ao L ca,.slice jo N cj,.int .i64 hd] 27)=W:=⟨_,rfl⟩
 have HBW:Hid (Below w.heap.size w W):=by rw [← hW];exact(Below.refl _ w).alloc (Nat.le_refl _) _
 have c0:W.cell? ⟨w.heap.size,0,none⟩=some (.int .i64 c.nodes):=by rw [← hW];exact cells_at (heap_alloc_new w _) rfl
 have c1:W.cell? ⟨w.heap.size,1,none⟩=some (.int .i64 c.queue):=by rw [← hW];exact cells_at (heap_alloc_new w _) rfl
 have c2:W.cell? ⟨w.heap.size,2,none⟩=some (.int .i64 c.limit):=by rw [← hW];exact cells_at (heap_alloc_new w _) rfl
 have c3:W.cell? ⟨w.heap.size,3,none⟩=some (.int .i64 c.age):=by rw [← hW];exact cells_at (heap_alloc_new w _) rfl
 have c4:W.cell? ⟨w.heap.size,4,none⟩=some (.int .i64 c.fair):=by rw [← hW];exact cells_at (heap_alloc_new w _) rfl
 have c5:W.cell? ⟨w.heap.size,5,none⟩=some (.int .i64 c.size):=by rw [← hW];exact cells_at (heap_alloc_new w _) rfl
 have c6:W.cell? ⟨w.heap.size,6,none⟩=some (.int .i64 c.period):=by rw [← hW];exact cells_at (heap_alloc_new w _) rfl
 have c7:W.cell? ⟨w.heap.size,7,none⟩=some (.int .i64 c.half):=by rw [← hW];exact cells_at (heap_alloc_new w _) rfl
 have c8:W.cell? ⟨w.heap.size,8,none⟩=some (.int .i64 now):=by rw [← hW];exact cells_at (heap_alloc_new w _) rfl
 have c9:W.cell? ⟨w.heap.size,9,none⟩=some (.slice ao L ca):=by rw [← hW];exact cells_at (heap_alloc_new w _) rfl
 have c10:W.cell? ⟨w.heap.size,10,none⟩=some (.slice jo N cj):=by rw [← hW];exact cells_at (heap_alloc_new w _) rfl
 have c11:W.cell? ⟨w.heap.size,11,none⟩=some (.int .i64 hd):=by rw [← hW];exact cells_at (heap_alloc_new w _) rfl
 have HK:Hid (W.cell? ⟨w.heap.size,0,none⟩=some (.int .i64 c.nodes)∧W.cell? ⟨w.heap.size,1,none⟩=some (.int .i64 c.queue)∧W.cell? ⟨w.heap.size,2,none⟩=some (.int .i64 c.limit)∧W.cell? ⟨w.heap.size,3,none⟩=some (.int .i64 c.age)∧W.cell? ⟨w.heap.size,4,none⟩=some (.int .i64 c.fair)∧W.cell? ⟨w.heap.size,5,none⟩=some (.int .i64 c.size)∧W.cell? ⟨w.heap.size,6,none⟩=some (.int .i64 c.period)∧W.cell? ⟨w.heap.size,7,none⟩=some (.int .i64 c.half)∧W.cell? ⟨w.heap.size,8,none⟩=some (.int .i64 now)∧W.cell? ⟨w.heap.size,9,none⟩=some (.slice ao L ca)∧W.cell? ⟨w.heap.size,10,none⟩=some (.slice jo N cj)∧W.cell? ⟨w.heap.size,11,none⟩=some (.int .i64 hd)):=⟨c0,c1,c2,c3,c4,c5,c6,c7,c8,c9,c10,c11⟩
 go_enter Tryz.func21,Tryz.ntmps21
 go_wp2_with fail
 refine(cC _).mono ?_
 rintro e w1 ⟨rfl,b1⟩
 clear hW cC
 have HB1:Hid (Below W.heap.size W w1):=b1
 clear c0 c1 c2 c3 c4 c5 c6 c7 c8 c9 c10 c11
 obtain⟨c0,c1,c2,c3,c4,c5,c6,c7,c8,c9,c10,c11⟩:=HK.out
 have m0:=cellB HB1.out c0
 have m1:=cellB HB1.out c1
 have m2:=cellB HB1.out c2
 have m3:=cellB HB1.out c3
 have m4:=cellB HB1.out c4
 have m5:=cellB HB1.out c5
 have m6:=cellB HB1.out c6
 have m7:=cellB HB1.out c7
 have m8:=cellB HB1.out c8
 have m9:=cellB HB1.out c9
 have m10:=cellB HB1.out c10
 have m11:=cellB HB1.out c11
 clear c0 c1 c2 c3 c4 c5 c6 c7 c8 c9 c10 c11
 clear b1
 by_cases hz:¬(chkZ c=0)
 ·have HT:Hid (AV=170):=HAV.out.symm.trans (aud_170 hz)
  have hz':(chkZ c != 0)=true:=by simpa using hz
  clear hz
  generalize chkZ c=z at *
  go_wp2
  go_ret
  exact⟨by rw [HT.out];rfl,HBW.out.trans (HB1.out.mono HBW.out.size)⟩
 replace hz:=Decidable.not_not.1 hz
 have HZ:Hid (chkZ c=0):=hz
 obtain⟨r,_,_⟩:=chk_ok hz
 have HRNG:Hid (Rng c):=r
 have HJB2:=HJB.out hz
 have HA0:Hid (AV=auditV 0 ⟨c,now,la,ps.map Pj.v,hd⟩):=HAV.out.symm.trans (by rw [hz])
 rw [hz]
 clear hz HJB r HAV
 by_cases h0:now<0∨1099511627776<now
 ·have HT:Hid (AV=171):=HA0.out.trans (aud_171 h0)
  clear HJB2
  rcases h0 with h0 | h0
  ·skip
   go_wp2
   go_ret
   exact⟨by rw [HT.out];rfl,HBW.out.trans (HB1.out.mono HBW.out.size)⟩
  ·have h1:¬now<0:=by omega
   go_wp2
   go_ret
   exact⟨by rw [HT.out];rfl,HBW.out.trans (HB1.out.mono HBW.out.size)⟩
 have HJB3:Hid (∀x,Below w.heap.size w x→∀(i:Nat) (p:Pj),ps[i]?=some p→Calls Tryz.prog 37 #[.agg #[.int .i64 c.nodes,.int .i64 c.queue,.int .i64 c.limit,.int .i64 c.age,.int .i64 c.fair,.int .i64 c.size,.int .i64 c.period,.int .i64 c.half,.int .i64 now,.slice ao L ca,.slice jo N cj,.int .i64 hd],.int .i64 (i:Int)] x fun e w'=>e=.returned (.bool (jobB c now L (aheadOf (ps.map Pj.v) i) p.v))∧Below x.heap.size x w'):=HJB2 (by omega)
 have HNOW:Hid (¬(now<0∨1099511627776<now)):=h0
 have h1:¬now<0:=by omega
 have h2:¬1099511627776<now:=by omega
 clear h0 HJB2
 have cL:=HLD.out w1 (HBW.out.trans (HB1.out.mono HBW.out.size))
 clear HLD
 go_wp2_with fail
 refine cL.mono ?_
 rintro e w2 ⟨hy,hno,b2⟩
 have HB2:Hid (Below W.heap.size W w2):=HB1.out.trans (b2.mono HB1.out.size)
 clear b2 cL m0 m1 m2 m3 m4 m5 m6 m7 m8 m9 m10 m11 HB1 h1 h2
 obtain⟨c0,c1,c2,c3,c4,c5,c6,c7,c8,c9,c10,c11⟩:=HK.out
 have m0:=cellB HB2.out c0
 have m1:=cellB HB2.out c1
 have m2:=cellB HB2.out c2
 have m3:=cellB HB2.out c3
 have m4:=cellB HB2.out c4
 have m5:=cellB HB2.out c5
 have m6:=cellB HB2.out c6
 have m7:=cellB HB2.out c7
 have m8:=cellB HB2.out c8
 have m9:=cellB HB2.out c9
 have m10:=cellB HB2.out c10
 have m11:=cellB HB2.out c11
 clear c0 c1 c2 c3 c4 c5 c6 c7 c8 c9 c10 c11
 by_cases hle:¬(loadE la=0)
 ·have HT:Hid (AV=172):=HA0.out.trans (aud_172 HNOW.out hle)
  obtain rfl:=hno hle
  have hz':(loadE la != 0)=true:=by simpa using hle
  clear hy hno hle
  generalize loadE la=z at *
  go_wp2
  go_ret
  exact⟨by rw [HT.out];rfl,HBW.out.trans (HB2.out.mono HBW.out.size)⟩
 replace hle:=Decidable.not_not.1 hle
 have HLE:Hid (loadE la=0):=hle
 obtain⟨dt,vt,rfl,_⟩:=hy hle
 clear hy hno hle
 by_cases h5:(4096:Int)<(N:Int)
 ·have HT:Hid (AV=174):=HA0.out.trans (aud_174 HNOW.out HLE.out (.inl (by show 4096<(ps.map Pj.v).length;rw [HNN.out.2];omega)))
  go_wp2
  go_ret
  exact⟨by rw [HT.out];rfl,HBW.out.trans (HB2.out.mono HBW.out.size)⟩
 have HN4:Hid (N≤4096):=(by omega:N≤4096)
 have h174:Hid (jobsB c now L (ps.map Pj.v) N=false→AV=174):=fun h=>HA0.out.trans (aud_174 HNOW.out HLE.out (.inr (by show jobsB c now la.length (ps.map Pj.v) (ps.map Pj.v).length=false;rw [HLL.out,HNN.out.2];exact h)))
 have HTL:Hid (jobsB c now L (ps.map Pj.v) N=true→AV=tailV ⟨c,now,la,ps.map Pj.v,hd⟩):=fun h=>HA0.out.trans (aud_tail HNOW.out HLE.out (by show (ps.map Pj.v).length≤4096;rw [HNN.out.2];exact HN4.out) (by show jobsB c now la.length (ps.map Pj.v) (ps.map Pj.v).length=true;rw [HLL.out,HNN.out.2];exact h))
 clear HA0
 go_wp2
 clear m0 m1 m2 m3 m4 m5 m6 m7 m8 m9 m10 m11
 go_loopg [5,40] N (fun gk pp pk wr=>∃i:Nat,i+gk=N∧pk=.int .i64 i∧pp=.int .i64 ((pendN ((ps.map Pj.v).take i):Nat):Int)∧Below W.heap.size W wr∧jobsB c now L (ps.map Pj.v) i=true)
 case atStart=>exact⟨0,by omega,rfl,rfl,HB2.out,rfl⟩
 case round=>
  clear HB2
  obtain⟨i,hi,rfl,rfl,hb,hjs⟩:=hrel
  have HB:Hid (Below W.heap.size W wr):=hb
  have HJS:Hid (jobsB c now L (ps.map Pj.v) i=true):=hjs
  clear hb hjs
  by_cases hlt:i<N
  ·have hlt':(i:Int)<N:=by omega
   obtain⟨p,hp⟩:∃p,ps[i]?=some p:=⟨_,List.getElem?_eq_getElem (by rw [HNN.out.1];exact hlt)⟩
   obtain rfl:=HG.out (by omega)
   obtain⟨d0,d1,d2,d3,d4,d5,d6,d7⟩:=HROW.out wr (HBW.out.trans (HB.out.mono HBW.out.size)) i p hp
   have HPM:Hid (jobsB c now L (ps.map Pj.v) (i+1)=(jobsB c now L (ps.map Pj.v) i&&jobB c now L (aheadOf (ps.map Pj.v) i) p.v)):=jobs_succ (vmap_at hp)
   have HPN:Hid (pendN ((ps.map Pj.v).take (i+1))=pendN ((ps.map Pj.v).take i)+(if p.v.st=1 then 1 else 0)):=pend_succ (vmap_at hp)
   have HBAD:Hid (jobB c now L (aheadOf (ps.map Pj.v) i) p.v=false→jobsB c now L (ps.map Pj.v) N=false):=(show jobB c now L (aheadOf (ps.map Pj.v) i) p.v=false→jobsB c now L (ps.map Pj.v) N=false from fun h=>by have:=jobs_false (vmap_at hp) h;rw [HNN.out.2]at this;exact this)
   have HPL:Hid (pendN ((ps.map Pj.v).take i)≤4096):=(show pendN ((ps.map Pj.v).take i)≤4096 from Nat.le_trans (pend_le _) (by rw [List.length_take,HNN.out.2];have:=HN4.out;omega))
   obtain⟨⟨ac,nd,lm,sb,st,sr,en,xs⟩,sa,sc⟩:=p
   dsimp only [Pj.jb]at d0 d1 d2 d3 d4 d5 d6 d7 HPM HPN HBAD
   obtain⟨w3,hw3⟩:∃w3,wr.alloc (.cells #[.int .i64 ac,.int .i64 nd,.int .i64 lm,.int .i64 sb,.int .i64 st,.int .i64 sr,.int .i64 en,.slice sa xs.length sc] 55)=w3:=⟨_,rfl⟩
   have b3:Below wr.heap.size wr w3:=by rw [← hw3];exact(Below.refl _ wr).alloc (Nat.le_refl _) _
   have j4:w3.cell? ⟨wr.heap.size,4,none⟩=some (.int .i64 st):=by rw [← hw3];exact cells_at (heap_alloc_new wr _) rfl
   have HB3:Hid (Below W.heap.size W w3):=HB.out.trans (b3.mono HB.out.size)
   obtain⟨c0,c1,c2,c3,c4,c5,c6,c7,c8,c9,c10,c11⟩:=HK.out
   have m0:=cellB HB3.out c0
   have m1:=cellB HB3.out c1
   have m2:=cellB HB3.out c2
   have m3:=cellB HB3.out c3
   have m4:=cellB HB3.out c4
   have m5:=cellB HB3.out c5
   have m6:=cellB HB3.out c6
   have m7:=cellB HB3.out c7
   have m8:=cellB HB3.out c8
   have m9:=cellB HB3.out c9
   have m10:=cellB HB3.out c10
   have m11:=cellB HB3.out c11
   clear c0 c1 c2 c3 c4 c5 c6 c7 c8 c9 c10 c11
   obtain⟨c0,c1,c2,c3,c4,c5,c6,c7,c8,c9,c10,c11⟩:=HK.out
   have t0:=cellB HB.out c0
   have t1:=cellB HB.out c1
   have t2:=cellB HB.out c2
   have t3:=cellB HB.out c3
   have t4:=cellB HB.out c4
   have t5:=cellB HB.out c5
   have t6:=cellB HB.out c6
   have t7:=cellB HB.out c7
   have t8:=cellB HB.out c8
   have t9:=cellB HB.out c9
   have t10:=cellB HB.out c10
   have t11:=cellB HB.out c11
   clear c0 c1 c2 c3 c4 c5 c6 c7 c8 c9 c10 c11
   have cJ:=HJB3.out w3 (HBW.out.trans (HB3.out.mono HBW.out.size)) i _ hp
   dsimp only at cJ
   clear b3 hp
   generalize hJB:jobB c now L (aheadOf (ps.map Pj.v) i) ⟨ac,nd,lm,sb,st,sr,en,xs⟩=bj at *
   clear hJB
   go_wp2_with fail
   refine cJ.mono ?_
   rintro e w4 ⟨rfl,b4⟩
   have j4':=cellB b4 j4
   have HB4:Hid (Below W.heap.size W w4):=HB3.out.trans (b4.mono HB3.out.size)
   clear b4 cJ j4 hw3 m0 m1 m2 m3 m4 m5 m6 m7 m8 m9 m10 m11 t0 t1 t2 t3 t4 t5 t6 t7 t8 t9 t10 t11 d0 d1 d2 d3 d4 d5 d6 d7 HB3 HB
   cases bj with
   | false=>
    have HT:Hid (AV=174):=h174.out (HBAD.out rfl)
    go_wp2
    go_ret
    exact⟨by rw [HT.out];rfl,HBW.out.trans (HB4.out.mono HBW.out.size)⟩
   | true=>
   by_cases h1:st=1
   ·subst h1
    have hww:IntKind.i64.wrap (((pendN ((ps.map Pj.v).take i):Nat):Int)+1)=((pendN ((ps.map Pj.v).take i):Nat):Int)+1:=by rw [IntKind.wrap_i64];have:=HPL.out;omega
    go_wp2
    go_roundg (N - (i+1))
    case measure=>omega
    case rel=>exact⟨i+1,by omega,rfl,by rw [HPN.out];simp,HB4.out,by rw [HPM.out,HJS.out];rfl⟩
   ·go_wp2
    go_roundg (N - (i+1))
    case measure=>omega
    case rel=>exact⟨i+1,by omega,rfl,by rw [HPN.out,if_neg h1];rfl,HB4.out,by rw [HPM.out,HJS.out];rfl⟩
  ·obtain rfl:i=N:=by omega
   have HT0:Hid (AV=tailV ⟨c,now,la,ps.map Pj.v,hd⟩):=HTL.out HJS.out
   have HPD:Hid (pendN ((ps.map Pj.v).take i)=pendN (ps.map Pj.v)):=(show pendN ((ps.map Pj.v).take i)=pendN (ps.map Pj.v) by have:=pend_all (ps.map Pj.v);rw [HNN.out.2]at this;exact this)
   rw [HPD.out]
   have HRAW:Hid (∀n:Nat,0≤rawJ n now (ps.map Pj.v)∧rawJ n now (ps.map Pj.v)≤4611686018427387904):=fun n=>by
    have:=raw_box (N:=L) (js:=ps.map Pj.v) HRNG.out (by rw [HNN.out.2];exact HJS.out) (n:Int)
    rw [HNN.out.2]at this
    have h4:=HN4.out
    omega
   have t175:Hid (c.queue<(pendN (ps.map Pj.v):Int)→AV=175):=fun h=>HT0.out.trans (tail_175 h)
   have t176:Hid (¬c.queue<(pendN (ps.map Pj.v):Int)→apartB (ps.map Pj.v) i=false→AV=176):=fun h1 h2=>HT0.out.trans (tail_176 h1 (by show apartB (ps.map Pj.v) (ps.map Pj.v).length=false;rw [HNN.out.2];exact h2))
   have t173:Hid (¬c.queue<(pendN (ps.map Pj.v):Int)→apartB (ps.map Pj.v) i=true→usagesB now (ps.map Pj.v) la L=false→AV=173):=fun h1 h2 h3=>HT0.out.trans (tail_173 h1 (by show apartB (ps.map Pj.v) (ps.map Pj.v).length=true;rw [HNN.out.2];exact h2) (by show usagesB now (ps.map Pj.v) la la.length=false;rw [HLL.out];exact h3))
   have t177:Hid (¬c.queue<(pendN (ps.map Pj.v):Int)→apartB (ps.map Pj.v) i=true→usagesB now (ps.map Pj.v) la L=true→AV=if holdB ⟨c,now,la,ps.map Pj.v,hd⟩=false then 177 else 0):=fun h1 h2 h3=>HT0.out.trans (tail_hold h1 (by show apartB (ps.map Pj.v) (ps.map Pj.v).length=true;rw [HNN.out.2];exact h2) (by show usagesB now (ps.map Pj.v) la la.length=true;rw [HLL.out];exact h3))
   clear HTL h174 HPD HT0 HJB3 HRNG HZ
   generalize hPP:((pendN (ps.map Pj.v):Nat):Int)=PP at *
   clear hPP
   obtain⟨c0,c1,c2,c3,c4,c5,c6,c7,c8,c9,c10,c11⟩:=HK.out
   have m0:=cellB HB.out c0
   have m1:=cellB HB.out c1
   have m2:=cellB HB.out c2
   have m3:=cellB HB.out c3
   have m4:=cellB HB.out c4
   have m5:=cellB HB.out c5
   have m6:=cellB HB.out c6
   have m7:=cellB HB.out c7
   have m8:=cellB HB.out c8
   have m9:=cellB HB.out c9
   have m10:=cellB HB.out c10
   have m11:=cellB HB.out c11
   clear c0 c1 c2 c3 c4 c5 c6 c7 c8 c9 c10 c11
   by_cases h6:c.queue<PP
   ·have HT:Hid (AV=175):=t175.out h6
    go_wp2
    go_ret
    exact⟨by rw [HT.out];rfl,HBW.out.trans (HB.out.mono HBW.out.size)⟩
   have HQ:Hid (¬c.queue<PP):=h6
   go_wp2
   clear m0 m1 m2 m3 m4 m5 m6 m7 m8 m9 m10 m11 h6
   obtain⟨V0,hV0⟩:∃V0,wr=V0:=⟨_,rfl⟩
   rw [hV0]at HB ⊢
   clear hV0
   go_loopg [63] i (fun gk pk wr=>∃k:Nat,k+gk=i∧pk=.int .i64 k∧Below W.heap.size W wr∧apartB (ps.map Pj.v) k=true)
   case atStart=>exact⟨0,by omega,rfl,HB.out,rfl⟩
   case round=>
    clear HB
    obtain⟨k,hk,rfl,hb,hap⟩:=hrel
    have HB:Hid (Below W.heap.size W wr):=hb
    have HAP:Hid (apartB (ps.map Pj.v) k=true):=hap
    clear hb hap
    by_cases hltk:k<i
    ·have hltk':(k:Int)<i:=by omega
     obtain⟨p,hp⟩:∃p,ps[k]?=some p:=⟨_,List.getElem?_eq_getElem (by rw [HNN.out.1];exact hltk)⟩
     obtain rfl:=HG.out (by omega)
     obtain⟨d0,d1,d2,d3,d4,d5,d6,d7⟩:=HROW.out wr (HBW.out.trans (HB.out.mono HBW.out.size)) k p hp
     have HPA:Hid (apartB (ps.map Pj.v) (k+1)=(apartB (ps.map Pj.v) k&&((ps.map Pj.v).take k).all fun b=> !commonB p.v b)):=apart_succ (vmap_at hp)
     have HBAD:Hid (∀b∈(ps.map Pj.v).take k,commonB p.v b=true→apartB (ps.map Pj.v) i=false):=fun b hb h=>(by have:=apart_false (vmap_at hp) hb h;rw [HNN.out.2]at this;exact this)
     have HPM:Hid (p∈ps):=List.mem_of_getElem? hp
     clear hp
     obtain⟨⟨ac,nd,lm,sb,st,sr,en,xs⟩,sa,sc⟩:=p
     dsimp only [Pj.jb]at d0 d1 d2 d3 d4 d5 d6 d7 HPA HBAD
     obtain⟨w3,hw3⟩:∃w3,wr.alloc (.cells #[.int .i64 ac,.int .i64 nd,.int .i64 lm,.int .i64 sb,.int .i64 st,.int .i64 sr,.int .i64 en,.slice sa xs.length sc] 55)=w3:=⟨_,rfl⟩
     have b3:Below wr.heap.size wr w3:=by rw [← hw3];exact(Below.refl _ wr).alloc (Nat.le_refl _) _
     have j0:w3.cell? ⟨wr.heap.size,0,none⟩=some (.int .i64 ac):=by rw [← hw3];exact cells_at (heap_alloc_new wr _) rfl
     have j1:w3.cell? ⟨wr.heap.size,1,none⟩=some (.int .i64 nd):=by rw [← hw3];exact cells_at (heap_alloc_new wr _) rfl
     have j2:w3.cell? ⟨wr.heap.size,2,none⟩=some (.int .i64 lm):=by rw [← hw3];exact cells_at (heap_alloc_new wr _) rfl
     have j3:w3.cell? ⟨wr.heap.size,3,none⟩=some (.int .i64 sb):=by rw [← hw3];exact cells_at (heap_alloc_new wr _) rfl
     have j4:w3.cell? ⟨wr.heap.size,4,none⟩=some (.int .i64 st):=by rw [← hw3];exact cells_at (heap_alloc_new wr _) rfl
     have j5:w3.cell? ⟨wr.heap.size,5,none⟩=some (.int .i64 sr):=by rw [← hw3];exact cells_at (heap_alloc_new wr _) rfl
     have j6:w3.cell? ⟨wr.heap.size,6,none⟩=some (.int .i64 en):=by rw [← hw3];exact cells_at (heap_alloc_new wr _) rfl
     have j7:w3.cell? ⟨wr.heap.size,7,none⟩=some (.slice sa xs.length sc):=by rw [← hw3];exact cells_at (heap_alloc_new wr _) rfl
     have HB3:Hid (Below W.heap.size W w3):=HB.out.trans (b3.mono HB.out.size)
     obtain⟨c0,c1,c2,c3,c4,c5,c6,c7,c8,c9,c10,c11⟩:=HK.out
     have m0:=cellB HB3.out c0
     have m1:=cellB HB3.out c1
     have m2:=cellB HB3.out c2
     have m3:=cellB HB3.out c3
     have m4:=cellB HB3.out c4
     have m5:=cellB HB3.out c5
     have m6:=cellB HB3.out c6
     have m7:=cellB HB3.out c7
     have m8:=cellB HB3.out c8
     have m9:=cellB HB3.out c9
     have m10:=cellB HB3.out c10
     have m11:=cellB HB3.out c11
     clear c0 c1 c2 c3 c4 c5 c6 c7 c8 c9 c10 c11
     obtain⟨c0,c1,c2,c3,c4,c5,c6,c7,c8,c9,c10,c11⟩:=HK.out
     have t0:=cellB HB.out c0
     have t1:=cellB HB.out c1
     have t2:=cellB HB.out c2
     have t3:=cellB HB.out c3
     have t4:=cellB HB.out c4
     have t5:=cellB HB.out c5
     have t6:=cellB HB.out c6
     have t7:=cellB HB.out c7
     have t8:=cellB HB.out c8
     have t9:=cellB HB.out c9
     have t10:=cellB HB.out c10
     have t11:=cellB HB.out c11
     clear c0 c1 c2 c3 c4 c5 c6 c7 c8 c9 c10 c11
     obtain⟨bk,hbk⟩:∃bk,wr.heap.size=bk:=⟨_,rfl⟩
     have hk1:(0:Int)≤(k:Int):=by omega
     have hk2:(k:Int)≤(i:Int):=by omega
     have hk3:(k:Int)≤(cj:Int):=by have:=HCJ.out;omega
     have HBK:Hid (Below w3.heap.size w3 w3):=Below.refl _ _
     have HJC:Hid (w3.cell? ⟨bk,0,none⟩=some (.int .i64 ac)∧w3.cell? ⟨bk,1,none⟩=some (.int .i64 nd)∧w3.cell? ⟨bk,2,none⟩=some (.int .i64 lm)∧w3.cell? ⟨bk,3,none⟩=some (.int .i64 sb)∧w3.cell? ⟨bk,4,none⟩=some (.int .i64 st)∧w3.cell? ⟨bk,5,none⟩=some (.int .i64 sr)∧w3.cell? ⟨bk,6,none⟩=some (.int .i64 en)∧w3.cell? ⟨bk,7,none⟩=some (.slice sa xs.length sc)):=⟨by rw [← hbk];exact j0,by rw [← hbk];exact j1,by rw [← hbk];exact j2,by rw [← hbk];exact j3,by rw [← hbk];exact j4,by rw [← hbk];exact j5,by rw [← hbk];exact j6,by rw [← hbk];exact j7⟩
     go_wp2
     clear m0 m1 m2 m3 m4 m5 m6 m7 m8 m9 m10 m11 t0 t1 t2 t3 t4 t5 t6 t7 t8 t9 t10 t11 d0 d1 d2 d3 d4 d5 d6 d7 j0 j1 j2 j3 j4 j5 j6 j7 hw3 hbk b3 HB
     go_loopg [73] k (fun gk pl wr=>∃m:Nat,m+gk=k∧pl=.int .i64 m∧Below w3.heap.size w3 wr∧∀b∈(ps.map Pj.v).take m,commonB ⟨ac,nd,lm,sb,st,sr,en,xs⟩ b=false)
     case atStart=>exact⟨0,by omega,rfl,Below.refl _ _,fun b hb=>by simp at hb⟩
     case round=>
      obtain⟨m,hm,rfl,hb,hno⟩:=hrel
      have HBR:Hid (Below w3.heap.size w3 wr):=hb
      have HNO:Hid (∀b∈(ps.map Pj.v).take m,commonB ⟨ac,nd,lm,sb,st,sr,en,xs⟩ b=false):=hno
      have HBRW:Hid (Below W.heap.size W wr):=HB3.out.trans (hb.mono HB3.out.size)
      clear hb hno
      by_cases hltm:m<k
      ·have hltm':(m:Int)<k:=by omega
       obtain⟨q,hq⟩:∃q,ps[m]?=some q:=⟨_,List.getElem?_eq_getElem (by rw [HNN.out.1];omega)⟩
       obtain⟨d0,d1,d2,d3,d4,d5,d6,d7⟩:=HROW.out wr (HBW.out.trans (HBRW.out.mono HBW.out.size)) m q hq
       have HQM:Hid (q.v∈(ps.map Pj.v).take k∧(ps.map Pj.v).take (m+1)=(ps.map Pj.v).take m++ [q.v]):=(show q.v∈(ps.map Pj.v).take k∧(ps.map Pj.v).take (m+1)=(ps.map Pj.v).take m++ [q.v] by
        have hv:=vmap_at hq
        obtain⟨h9,e9⟩:=List.getElem?_eq_some_iff.1 hv
        refine⟨List.mem_of_getElem? (i:=m) (by rw [List.getElem?_take];rw [if_pos hltm];exact hv),?_⟩
        rw [List.take_succ_eq_append_getElem h9,e9])
       have HQP:Hid (q∈ps):=List.mem_of_getElem? hq
       clear hq
       have HCQ:Hid (∀x,Below w.heap.size w x→Calls Tryz.prog 38 #[.agg #[.int .i64 ac,.int .i64 nd,.int .i64 lm,.int .i64 sb,.int .i64 st,.int .i64 sr,.int .i64 en,.slice sa xs.length sc],.agg #[.int .i64 q.v.ac,.int .i64 q.v.nd,.int .i64 q.v.lm,.int .i64 q.v.sb,.int .i64 q.v.st,.int .i64 q.v.sr,.int .i64 q.v.en,.slice q.sa q.v.set.length q.sc]] x fun e w'=>e=.returned (.bool (commonB ⟨ac,nd,lm,sb,st,sr,en,xs⟩ q.v))∧Below x.heap.size x w'):=fun x hx=>HCM.out x hx ⟨⟨ac,nd,lm,sb,st,sr,en,xs⟩,sa,sc⟩ q HPM.out HQP.out
       obtain⟨⟨ac',nd',lm',sb',st',sr',en',ys⟩,sa',sc'⟩:=q
       dsimp only [Pj.jb]at d0 d1 d2 d3 d4 d5 d6 d7 HQM HCQ
       obtain⟨w5,hw5⟩:∃w5,wr.alloc (.cells #[.int .i64 ac',.int .i64 nd',.int .i64 lm',.int .i64 sb',.int .i64 st',.int .i64 sr',.int .i64 en',.slice sa' ys.length sc'] 55)=w5:=⟨_,rfl⟩
       have b5:Below wr.heap.size wr w5:=by rw [← hw5];exact(Below.refl _ wr).alloc (Nat.le_refl _) _
       have y0:w5.cell? ⟨wr.heap.size,0,none⟩=some (.int .i64 ac'):=by rw [← hw5];exact cells_at (heap_alloc_new wr _) rfl
       have y1:w5.cell? ⟨wr.heap.size,1,none⟩=some (.int .i64 nd'):=by rw [← hw5];exact cells_at (heap_alloc_new wr _) rfl
       have y2:w5.cell? ⟨wr.heap.size,2,none⟩=some (.int .i64 lm'):=by rw [← hw5];exact cells_at (heap_alloc_new wr _) rfl
       have y3:w5.cell? ⟨wr.heap.size,3,none⟩=some (.int .i64 sb'):=by rw [← hw5];exact cells_at (heap_alloc_new wr _) rfl
       have y4:w5.cell? ⟨wr.heap.size,4,none⟩=some (.int .i64 st'):=by rw [← hw5];exact cells_at (heap_alloc_new wr _) rfl
       have y5:w5.cell? ⟨wr.heap.size,5,none⟩=some (.int .i64 sr'):=by rw [← hw5];exact cells_at (heap_alloc_new wr _) rfl
       have y6:w5.cell? ⟨wr.heap.size,6,none⟩=some (.int .i64 en'):=by rw [← hw5];exact cells_at (heap_alloc_new wr _) rfl
       have y7:w5.cell? ⟨wr.heap.size,7,none⟩=some (.slice sa' ys.length sc'):=by rw [← hw5];exact cells_at (heap_alloc_new wr _) rfl
       have HB5:Hid (Below w3.heap.size w3 w5):=HBR.out.trans (b5.mono HBR.out.size)
       obtain⟨z0,z1,z2,z3,z4,z5,z6,z7⟩:=HJC.out
       have j0:=cellB HB5.out z0
       have j1:=cellB HB5.out z1
       have j2:=cellB HB5.out z2
       have j3:=cellB HB5.out z3
       have j4:=cellB HB5.out z4
       have j5:=cellB HB5.out z5
       have j6:=cellB HB5.out z6
       have j7:=cellB HB5.out z7
       have cQ:=HCQ.out w5 (HBW.out.trans ((HB3.out.trans (HB5.out.mono HB3.out.size)).mono HBW.out.size))
       generalize hCB:commonB ⟨ac,nd,lm,sb,st,sr,en,xs⟩ ⟨ac',nd',lm',sb',st',sr',en',ys⟩=cb at *
       have HCB:Hid (commonB ⟨ac,nd,lm,sb,st,sr,en,xs⟩ ⟨ac',nd',lm',sb',st',sr',en',ys⟩=cb):=hCB
       clear hCB z0 z1 z2 z3 z4 z5 z6 z7 b5 HCQ
       go_wp2_with fail
       refine cQ.mono ?_
       rintro e w6 ⟨rfl,b6⟩
       have HB6:Hid (Below w3.heap.size w3 w6):=HB5.out.trans (b6.mono HB5.out.size)
       clear b6 cQ hw5 y0 y1 y2 y3 y4 y5 y6 y7 j0 j1 j2 j3 j4 j5 j6 j7 d0 d1 d2 d3 d4 d5 d6 d7 HB5 HBR HBRW
       cases cb with
       | true=>
        have HT:Hid (AV=176):=t176.out HQ.out (HBAD.out _ HQM.out.1 HCB.out)
        go_wp2
        go_ret
        exact⟨by rw [HT.out];rfl,HBW.out.trans ((HB3.out.trans (HB6.out.mono HB3.out.size)).mono HBW.out.size)⟩
       | false=>
       go_wp2
       go_roundg (k - (m+1))
       case measure=>omega
       case rel=>
        refine⟨m+1,by omega,rfl,HB6.out,fun b hb=>?_⟩
        rw [HQM.out.2]at hb
        rcases List.mem_append.1 hb with h | h
        ·exact HNO.out b h
        ·have e9:b=⟨ac',nd',lm',sb',st',sr',en',ys⟩:=by simpa using h
         rw [e9]
         exact HCB.out
      ·obtain rfl:m=k:=by omega
       have HAK:Hid (apartB (ps.map Pj.v) (m+1)=true):=(show apartB (ps.map Pj.v) (m+1)=true by rw [HPA.out,HAP.out,Bool.true_and];exact List.all_eq_true.2 fun b hb=>by rw [HNO.out b hb];rfl)
       clear HNO HPA HBAD
       go_wp2
       go_roundg (i - (m+1))
       case measure=>omega
       case rel=>exact⟨m+1,by omega,rfl,HBRW.out,HAK.out⟩
    ·obtain rfl:k=i:=by omega
     clear HCM
     obtain⟨c0,c1,c2,c3,c4,c5,c6,c7,c8,c9,c10,c11⟩:=HK.out
     have m0:=cellB HB.out c0
     have m1:=cellB HB.out c1
     have m2:=cellB HB.out c2
     have m3:=cellB HB.out c3
     have m4:=cellB HB.out c4
     have m5:=cellB HB.out c5
     have m6:=cellB HB.out c6
     have m7:=cellB HB.out c7
     have m8:=cellB HB.out c8
     have m9:=cellB HB.out c9
     have m10:=cellB HB.out c10
     have m11:=cellB HB.out c11
     clear c0 c1 c2 c3 c4 c5 c6 c7 c8 c9 c10 c11
     go_wp2
     clear m0 m1 m2 m3 m4 m5 m6 m7 m8 m9 m10 m11
     obtain⟨V1,hV1⟩:∃V1,wr=V1:=⟨_,rfl⟩
     rw [hV1]at HB ⊢
     clear hV1
     go_loopg [85] L (fun gk pk wr=>∃n:Nat,n+gk=L∧pk=.int .i64 n∧Below W.heap.size W wr∧usagesB now (ps.map Pj.v) la n=true)
     case atStart=>exact⟨0,by omega,rfl,HB.out,rfl⟩
     case round=>
      clear HB
      obtain⟨n,hn',rfl,hb,hus⟩:=hrel
      have HB:Hid (Below W.heap.size W wr):=hb
      have HUN:Hid (usagesB now (ps.map Pj.v) la n=true):=hus
      clear hb hus
      obtain⟨c0,c1,c2,c3,c4,c5,c6,c7,c8,c9,c10,c11⟩:=HK.out
      have m0:=cellB HB.out c0
      have m1:=cellB HB.out c1
      have m2:=cellB HB.out c2
      have m3:=cellB HB.out c3
      have m4:=cellB HB.out c4
      have m5:=cellB HB.out c5
      have m6:=cellB HB.out c6
      have m7:=cellB HB.out c7
      have m8:=cellB HB.out c8
      have m9:=cellB HB.out c9
      have m10:=cellB HB.out c10
      have m11:=cellB HB.out c11
      clear c0 c1 c2 c3 c4 c5 c6 c7 c8 c9 c10 c11
      by_cases hltn:n<L
      ·have hltn':(n:Int)<L:=by omega
       obtain⟨a,ha⟩:∃a,la[n]?=some a:=⟨_,List.getElem?_eq_getElem (by rw [HLL.out];exact hltn)⟩
       have cU:=HUS.out wr (HBW.out.trans (HB.out.mono HBW.out.size)) n a ha (HRAW.out n)
       have HUS1:Hid (usagesB now (ps.map Pj.v) la (n+1)=(usagesB now (ps.map Pj.v) la n&&usageB now (ps.map Pj.v) n a)):=usages_succ ha
       have HBAD:Hid (usageB now (ps.map Pj.v) n a=false→usagesB now (ps.map Pj.v) la L=false):=(show usageB now (ps.map Pj.v) n a=false→usagesB now (ps.map Pj.v) la L=false from fun h=>by have:=usages_false ha h;rw [HLL.out]at this;exact this)
       generalize hUB:usageB now (ps.map Pj.v) n a=ub at *
       clear hUB ha
       go_wp2_with fail
       refine cU.mono ?_
       rintro e w6 ⟨rfl,b6⟩
       have HB6:Hid (Below W.heap.size W w6):=HB.out.trans (b6.mono HB.out.size)
       clear b6 cU m0 m1 m2 m3 m4 m5 m6 m7 m8 m9 m10 m11 HB
       cases ub with
       | false=>
        have HT:Hid (AV=173):=t173.out HQ.out HAP.out (HBAD.out rfl)
        go_wp2
        go_ret
        exact⟨by rw [HT.out];rfl,HBW.out.trans (HB6.out.mono HBW.out.size)⟩
       | true=>
       go_wp2
       go_roundg (L - (n+1))
       case measure=>omega
       case rel=>exact⟨n+1,by omega,rfl,HB6.out,by rw [HUS1.out,HUN.out];rfl⟩
      ·obtain rfl:n=L:=by omega
       have HT7:Hid (AV=if holdB ⟨c,now,la,ps.map Pj.v,hd⟩=false then 177 else 0):=t177.out HQ.out HAP.out HUN.out
       by_cases hm1:hd= -1
       ·have HT:Hid (AV=0):=HT7.out.trans (by rw [if_neg (by simp [holdB,hm1])])
        subst hm1
        go_wp2
        go_ret
        exact⟨by rw [HT.out];rfl,HBW.out.trans (HB.out.mono HBW.out.size)⟩
       have hm2:(hd== -1)=false:=by simpa using hm1
       go_upto_region 39 with fail
       by_cases hneg:hd<0
       ·have HT:Hid (AV=177):=HT7.out.trans (by rw [if_pos];unfold holdB;rw [decide_eq_false hm1,decide_eq_false (show ¬(0:Int)≤hd by omega)];rfl)
        go_quiet (fail)
        go_wp2
        go_ret
        exact⟨by rw [HT.out];rfl,HBW.out.trans ((HB.out.trans ((bel_drawU wr nq).mono HB.out.size)).mono HBW.out.size)⟩
       obtain⟨h,rfl⟩:∃h:Nat,hd=h:=⟨hd.toNat,by omega⟩
       have HHB:Hid (holdB ⟨c,now,la,ps.map Pj.v,(h:Int)⟩=match (ps.map Pj.v)[h]? with | none=>false | some j=>decide (j.st=1)&&decide (j.sb<now)):=(show holdB ⟨c,now,la,ps.map Pj.v,(h:Int)⟩=_ by unfold holdB;rw [decide_eq_false hm1,decide_eq_true (show (0:Int)≤(h:Int) by omega)];simp only [Bool.false_or,Bool.true_and,Int.toNat_natCast];rfl)
       by_cases hge:(k:Int)≤(h:Int)
       ·have HT:Hid (AV=177):=HT7.out.trans (by rw [if_pos];rw [HHB.out,List.getElem?_eq_none (by rw [HNN.out.2];omega)])
        go_quiet (fail)
        go_wp2
        go_ret
        exact⟨by rw [HT.out];rfl,HBW.out.trans ((HB.out.trans ((bel_drawU wr nq).mono HB.out.size)).mono HBW.out.size)⟩
       have hlt:(h:Int)<(k:Int):=by omega
       have h00:(0:Int)≤(h:Int):=by omega
       obtain⟨q,hq⟩:∃q,ps[h]?=some q:=⟨_,List.getElem?_eq_getElem (by rw [HNN.out.1];omega)⟩
       obtain rfl:=HG.out (by omega)
       have hjb:=HROW.out wr (HBW.out.trans (HB.out.mono HBW.out.size)) h q hq
       have d3:=hjb.sb
       have d4:=hjb.st
       have HV:Hid (holdB ⟨c,now,la,ps.map Pj.v,(h:Int)⟩=(decide (q.v.st=1)&&decide (q.v.sb<now))):=(show holdB ⟨c,now,la,ps.map Pj.v,(h:Int)⟩=_ by rw [HHB.out,vmap_at hq])
       obtain⟨⟨ac',nd',lm',sb',st',sr',en',ys⟩,sa',sc'⟩:=q
       dsimp only [Pj.jb]at d3 d4 HV
       clear hjb hq HROW
       by_cases hs1:st'=1
       ·subst hs1
        by_cases hs2:now≤sb'
        ·have HT:Hid (AV=177):=HT7.out.trans (by rw [if_pos];rw [HV.out,decide_eq_false (show ¬sb'<now by omega),Bool.and_false])
         go_quiet (fail)
         go_wp2
         go_ret
         exact⟨by rw [HT.out];rfl,HBW.out.trans ((HB.out.trans ((bel_drawU wr nq).mono HB.out.size)).mono HBW.out.size)⟩
        ·have HT:Hid (AV=0):=HT7.out.trans (by rw [if_neg];rw [HV.out,decide_eq_true (show sb'<now by omega)];simp)
         go_quiet (fail)
         go_wp2
         go_ret
         exact⟨by rw [HT.out];rfl,HBW.out.trans ((HB.out.trans ((bel_drawU wr nq).mono HB.out.size)).mono HBW.out.size)⟩
       ·have HT:Hid (AV=177):=HT7.out.trans (by rw [if_pos];rw [HV.out,decide_eq_false hs1,Bool.false_and])
        have hs3:(st' != 1)=true:=by simpa using hs1
        go_quiet (fail)
        go_wp2
        go_ret
        exact⟨by rw [HT.out];rfl,HBW.out.trans ((HB.out.trans ((bel_drawU wr nq).mono HB.out.size)).mono HBW.out.size)⟩
end Go.Proofs.YtceoibfliggalaaGreatDoor
namespace Go.Proofs.YtceoibfliggalaaGreatDoor
open Go.RowKit Wd Tr Cg Lg
structure StIn (w:World) (ao:Option Addr) (la:List Ac) (ca:Nat) (jo:Option Addr) (ps:List Pj) (cj:Nat):Prop where
 acs:AcsAt w ao la
 us:∀(n:Nat) (a:Ac),la[n]?=some a→Word a.us
 nm:∀a∈la,a.nm.size≤maxLen
 l48:la.length*48≤281474976710656
 cap:la.length≤ca
 anil:ao=none→la= []∧ca=0
 jobs:PjsAt w jo ps
 l80:ps.length*80≤281474976710656
 jcap:ps.length≤cj
 jnil:jo=none→ps= []∧cj=0
 sl:∀p∈ps,p.v.set.length*8≤140737488355328
 sc:∀p∈ps,p.v.set.length≤p.sc
 snil:∀p∈ps,p.sa=none→p.v.set= []∧p.sc=0
theorem StIn.below {w w':World} {ao:Option Addr} {la:List Ac} {ca:Nat} {jo:Option Addr} {ps:List Pj} {cj:Nat} (h:StIn w ao la ca jo ps cj) (b:Below w.heap.size w w'):StIn w' ao la ca jo ps cj:=⟨h.acs.below b,h.us,h.nm,h.l48,h.cap,h.anil,h.jobs.below b,h.l80,h.jcap,h.jnil,h.sl,h.sc,h.snil⟩
def setsN:List Pj→Nat
 | []=>0
 | p::ps=>p.v.set.length+setsN ps
theorem sets_app:∀a b:List Pj,setsN (a++b)=setsN a+setsN b
 | [],b=>by simp [setsN]
 | p::a,b=>by simp only [List.cons_append,setsN,sets_app a b];omega
theorem sets_take {ps:List Pj} {i:Nat} {p:Pj} (h:ps[i]?=some p):setsN (ps.take (i+1))=setsN (ps.take i)+p.v.set.length:=by
 obtain⟨hi,rfl⟩:=List.getElem?_eq_some_iff.1 h
 rw [List.take_succ_eq_append_getElem hi,sets_app]
 simp [setsN]
theorem sets_le (ps:List Pj) (i:Nat):setsN (ps.take i)≤setsN ps:=by
 have:=sets_app (ps.take i) (ps.drop i)
 rw [List.take_append_drop]at this
 omega
theorem sets_mem {ps:List Pj} {p:Pj} (h:p∈ps):p.v.set.length≤setsN ps:=by
 obtain⟨i,hi⟩:=List.mem_iff_getElem?.1 h
 have h1:=sets_take hi
 have h2:=sets_le ps (i+1)
 omega
def wtN (la:List Ac) (ps:List Pj):Nat:=la.length+ps.length+setsN ps
end Go.Proofs.YtceoibfliggalaaGreatDoor
namespace Go.Proofs.YtceoibfliggalaaGreatDoor
open Go.RowKit Wd Tr Cg Lg
theorem wpList_append_mv {P:Program} {w:World} {ops:Array Oper} {rest:List Oper} {o:Oper} {a:Act} {Q:Exit→Act→World→Prop} (hgd:o.guard=none) (s x:Operand) (t:TypeId)
  (ho:o.op=.call {callee:=.builtin .append,args:= #[s,x],argTypes:= #[t,t]})
  (base:Nat) (e:TypeId) (i:TypeInfo) (z:Value) (size bytes:Nat) (ht:P.underlying t=some (.slice e)) (hi:P.info? e=some i) (hz:i.zero=some z)
  (hsize:i.size=size) (hby:i.bytes=bytes) (hzs:z.cells.size=size) (hsz:0<size)
  (v:Value) (n:Nat) (xs:List Value) (hs:a.eval s=v) (hown:w.ownsRow base e size v n xs)
  (ao:Option Addr) (m c:Nat) (news:List Value) (hx:a.eval x=.slice ao m c) (hnil:ao=none→m=0∧c=0) (hl:news.length=m*size) (hnews:∀ad,ao=some ad→∀j u,news[j]?=some u→w.cell? (ad.add j)=some u) (h1:∀u∈news,u.oneCell'=true)
  (h63:n+m≤maxLen) (hbytes:(n+m)*bytes≤140737488355328) (hbase:base≤w.heap.size)
  (h:∀v' w',w'.ownsRow base e size v' (n+m) (xs++news)→w.grownBy w' v.ownBlock→(v'.ownBlock=v.ownBlock∨v'.ownBlock=some w.heap.size)→wpList P ops Q rest (a.put o.dst v') w'):
  wpList P ops Q (o::rest) a w:=by
 cases ao with
 | none=>
  obtain⟨rfl,rfl⟩:=hnil rfl
  have hn0:news= []:=List.length_eq_zero_iff.1 (by rw [hl];omega)
  subst hn0
  exact wpList_append_own_none hgd s x t ho base e i size ht hi v n xs hs hown hx (h v w (by simpa using hown) ⟨rfl,rfl,rfl,Nat.le_refl _,fun _ _ _=>rfl⟩ (.inl rfl))
 | some ad=>exact wpList_append_own_at _ hgd s x t ho base e i z size bytes ht hi hz hsize hby hzs hsz v n xs hs hown ad m c news hx hl (hnews ad rfl) h1 h63 hbytes hbase (fun v' w' g1 g2 _ g4=>h v' w' g1 g2 g4)
theorem own_val {W:World} {B e sz n:Nat} {v:Value} {vs:List Value} (h:W.ownsRow B e sz v n vs):∃ao cap,v=.slice ao n cap∧n≤cap∧(ao=none→n=0∧cap=0)∧∀a,ao=some a→∃g,a=⟨g,0,none⟩∧B≤g∧g<W.heap.size:=by
 rcases h.2 with⟨h1,h0⟩ | ⟨b,cap,cur,h1,hb,h2,h3,_⟩
 ·subst h0
  exact⟨none,0,h1,Nat.le_refl _,fun _=>⟨rfl,rfl⟩,fun a e=>by cases e⟩
 ·exact ⟨_,cap,h1,h3,(fun e=>by cases e),fun a e=>by cases e;exact⟨b,rfl,hb,(Array.getElem?_eq_some_iff.1 h2).1⟩⟩
theorem own_nil (W:World) (B e sz:Nat):W.ownsRow B e sz (.slice none 0 0) 0 []:=⟨by simp,.inl ⟨rfl,rfl⟩⟩
theorem row_stand {W W':World} {B e sz n:Nat} {v:Value} {vs:List Value} (h:W.ownsRow B e sz v n vs) (hb:∀g,v.ownBlock=some g→W'.heap[g]?=W.heap[g]?):W'.ownsRow B e sz v n vs:=by
 refine⟨h.1,?_⟩
 rcases h.2 with h1 | ⟨g,cap,cur,h1,h2,h3,h4⟩
 ·exact .inl h1
 ·exact .inr ⟨g,cap,cur,h1,h2,(hb g (by rw [h1];rfl)).trans h3,h4⟩
def i64s (l:List Int):List Value:=l.map (Value.int .i64)
theorem ints_own {W:World} {B:Nat} {ao:Option Addr} {l:List Int} {cap:Nat} (h:W.ownsRow B 3 1 (.slice ao l.length cap) l.length (i64s l)):IntsAt W ao l:=by
 obtain⟨ao',cap',e,_,h0,h1⟩:=own_val h
 cases e
 cases ao with
 | none=>exact⟨0,0,fun hp=>by have:=(h0 rfl).1;omega,fun k n hn=>by have:=(List.getElem?_eq_some_iff.1 hn).1;have:=(h0 rfl).1;omega⟩
 | some a=>
  obtain⟨g,rfl,_,_⟩:=h1 a rfl
  refine⟨g,0,fun _=>rfl,fun k n hn=>?_⟩
  have:=h.cells (g:=g) rfl k (.int .i64 n) (by unfold i64s;rw [List.getElem?_map,hn];rfl)
  rwa [Addr.add_lit]at this
def flatJ:List Pj→List Value
 | []=> []
 | p::l=>.int .i64 p.v.ac::.int .i64 p.v.nd::.int .i64 p.v.lm::.int .i64 p.v.sb::.int .i64 p.v.st::.int .i64 p.v.sr::.int .i64 p.v.en::.slice p.sa p.v.set.length p.sc::flatJ l
theorem flatJ_len (l:List Pj):(flatJ l).length=l.length*8:=by
 induction l with
 | nil=>rfl
 | cons s l ih=>simp [flatJ,ih];omega
theorem flatJ_app (a b:List Pj):flatJ (a++b)=flatJ a++flatJ b:=by
 induction a with
 | nil=>rfl
 | cons s l ih=>simp [flatJ,ih]
theorem flatJ_at (l:List Pj):∀j p,l[j]?=some p→(flatJ l)[j*8]?=some (.int .i64 p.v.ac)∧(flatJ l)[j*8+1]?=some (.int .i64 p.v.nd)∧(flatJ l)[j*8+2]?=some (.int .i64 p.v.lm)∧(flatJ l)[j*8+3]?=some (.int .i64 p.v.sb)∧(flatJ l)[j*8+4]?=some (.int .i64 p.v.st)∧(flatJ l)[j*8+5]?=some (.int .i64 p.v.sr)∧(flatJ l)[j*8+6]?=some (.int .i64 p.v.en)∧(flatJ l)[j*8+7]?=some (.slice p.sa p.v.set.length p.sc):=by
 induction l with
 | nil=>intro j s h;simp at h
 | cons x l ih=>
  intro j a h
  cases j with
  | zero=>simp at h;subst h;simp [flatJ]
  | succ j=>
   have:=ih j a (by simpa using h)
   simp only [flatJ]
   rw [show (j+1)*8=j*8+1+1+1+1+1+1+1+1 by omega]
   simpa using this
theorem jobs_own {W:World} {B:Nat} {jo:Option Addr} {l:List Pj} {cap:Nat} (h:W.ownsRow B 55 8 (.slice jo l.length cap) l.length (flatJ l)):JobsAt W jo (l.map Pj.jb):=by
 obtain⟨ao',cap',e,_,h0,h1⟩:=own_val h
 cases e
 cases jo with
 | none=>exact⟨0,0,fun hp=>by rw [List.length_map]at hp;have:=(h0 rfl).1;omega,fun k n hn=>by have:=(List.getElem?_eq_some_iff.1 hn).1;rw [List.length_map]at this;have:=(h0 rfl).1;omega⟩
 | some a=>
  obtain⟨g,rfl,_,_⟩:=h1 a rfl
  refine⟨g,0,fun _=>rfl,fun k j hj=>?_⟩
  rw [List.getElem?_map]at hj
  cases hp:l[k]? with
  | none=>rw [hp]at hj;cases hj
  | some p=>
   rw [hp]at hj
   cases hj
   obtain⟨e0,e1,e2,e3,e4,e5,e6,e7⟩:=flatJ_at l k p hp
   have hc:=fun j u (hu:(flatJ l)[j]?=some u)=>(show W.cell? ⟨g,0+j,none⟩=some u by have:=h.cells (g:=g) rfl j u hu;rwa [Addr.add_lit]at this)
   exact⟨hc _ _ e0,hc _ _ e1,hc _ _ e2,hc _ _ e3,hc _ _ e4,hc _ _ e5,hc _ _ e6,hc _ _ e7⟩
end Go.Proofs.YtceoibfliggalaaGreatDoor
