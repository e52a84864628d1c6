/-
  TEXTS: AuN, RuE.
-/
import Derived.Test.YtceoibfliggalaaGreatDoorKw8
import Derived.Test.YtceoibfliggalaaGreatDoorKw7
import Derived.Test.YtceoibfliggalaaGreatDoorKw10
import Derived.Test.YtceoibfliggalaaGreatDoorKw9
import Derived.Deep.CutBlock
import Derived.Deep.DeepCutAuto
namespace Go.Proofs.YtceoibfliggalaaGreatDoor
open Wd Tr Cg
theorem aud_170 {e:Int} {s:Sv} (h:e≠0):auditV e s=170:=by unfold auditV;rw [if_pos h]
theorem aud_171 {s:Sv} (h:s.now<0∨1099511627776<s.now):auditV 0 s=171:=by unfold auditV;rw [if_neg (by simp),if_pos h]
theorem aud_172 {s:Sv} (h0:¬(s.now<0∨1099511627776<s.now)) (h:loadE s.la≠0):auditV 0 s=172:=by unfold auditV;rw [if_neg (by simp),if_neg h0,if_pos h]
theorem aud_174 {s:Sv} (h0:¬(s.now<0∨1099511627776<s.now)) (h1:loadE s.la=0) (h:4096<s.js.length∨jobsB s.cf s.now s.la.length s.js s.js.length=false):auditV 0 s=174:=by
 unfold auditV
 rw [if_neg (by simp),if_neg h0,if_neg (by simpa using h1),if_pos h]
theorem aud_tail {s:Sv} (h0:¬(s.now<0∨1099511627776<s.now)) (h1:loadE s.la=0) (h2:s.js.length≤4096) (h3:jobsB s.cf s.now s.la.length s.js s.js.length=true):auditV 0 s=tailV s:=by
 unfold auditV
 rw [if_neg (by simp),if_neg h0,if_neg (by simpa using h1),if_neg (by rw [h3];simp;omega)]
theorem jobs_false {c:Cf} {now:Int} {N:Nat} {js:List Jv} {i:Nat} {j:Jv} (hj:js[i]?=some j) (h:jobB c now N (aheadOf js i) j=false):jobsB c now N js js.length=false:=by
 cases hb:jobsB c now N js js.length with
 | false=>rfl
 | true=>
  have:=jobs_iff.1 hb i (List.getElem?_eq_some_iff.1 hj).1 j hj
  rw [this]at h
  exact h
theorem apart_false {js:List Jv} {i:Nat} {a b:Jv} (ha:js[i]?=some a) (hb:b∈js.take i) (h:commonB a b=true):apartB js js.length=false:=by
 cases hc:apartB js js.length with
 | false=>rfl
 | true=>
  have:=apart_iff.1 hc i (List.getElem?_eq_some_iff.1 ha).1 a ha b hb
  rw [this]at h
  cases h
theorem usages_false {now:Int} {js:List Jv} {la:List Ac} {i:Nat} {a:Ac} (ha:la[i]?=some a) (h:usageB now js i a=false):usagesB now js la la.length=false:=by
 cases hc:usagesB now js la la.length with
 | false=>rfl
 | true=>
  have:=usages_iff.1 hc i (List.getElem?_eq_some_iff.1 ha).1 a ha
  rw [this]at h
  exact h
theorem tail_175 {s:Sv} (h:s.cf.queue<(pendN s.js:Int)):tailV s=175:=by unfold tailV;rw [if_pos h]
theorem tail_176 {s:Sv} (h0:¬s.cf.queue<(pendN s.js:Int)) (h:apartB s.js s.js.length=false):tailV s=176:=by unfold tailV;rw [if_neg h0,if_pos h]
theorem tail_173 {s:Sv} (h0:¬s.cf.queue<(pendN s.js:Int)) (h1:apartB s.js s.js.length=true) (h:usagesB s.now s.js s.la s.la.length=false):tailV s=173:=by unfold tailV;rw [if_neg h0,if_neg (by rw [h1];simp),if_pos h]
theorem tail_hold {s:Sv} (h0:¬s.cf.queue<(pendN s.js:Int)) (h1:apartB s.js s.js.length=true) (h2:usagesB s.now s.js s.la s.la.length=true):tailV s=if holdB s=false then 177 else 0:=by unfold tailV;rw [if_neg h0,if_neg (by rw [h1];simp),if_neg (by rw [h2];simp)]
theorem pend_all (js:List Jv):pendN (js.take js.length)=pendN js:=by rw [List.take_length]
theorem pend_le (js:List Jv):pendN js≤js.length:=List.length_filter_le _ _
theorem ran_box {c:Cf} {now:Int} {N:Nat} {p:Int} {j:Jv} (r:Rng c) (h:jobB c now N p j=true):0≤ranJ now j∧ranJ now j≤1048576∧1≤j.nd∧j.nd≤256:=by
 unfold jobB headB at h
 simp only [Bool.and_eq_true,decide_eq_true_eq]at h
 obtain⟨⟨⟨a1,a2,a3,a4,a5,a6⟩,b1,b2,b3,b4⟩,ht⟩:=h
 have:=r.n1;have:=r.l1
 refine⟨?_,?_,a3,by omega⟩
 all_goals
  unfold ranJ
  unfold timesB at ht
  split
  ·rename_i h3
   rw [if_neg (by omega),if_neg (by omega)]at ht
   split at ht
   ·cases ht
   ·rw [if_neg (by omega)]at ht
    split at ht
    ·simp only [Bool.and_eq_true,decide_eq_true_eq]at ht;omega
    ·split at ht
     ·simp only [Bool.and_eq_true,decide_eq_true_eq]at ht;omega
     ·cases ht
  ·split
   ·rename_i h2
    rw [if_neg (by omega),if_neg (by omega)]at ht
    split at ht
    ·cases ht
    ·simp only [Bool.and_eq_true,decide_eq_true_eq]at ht
     rename_i h9
     omega
   ·omega
theorem raw_box {c:Cf} {now:Int} {N:Nat} (r:Rng c) {js:List Jv} (h:jobsB c now N js js.length=true) (a:Int):0≤rawJ a now js∧rawJ a now js≤js.length*268435456:=by
 have hall:∀j∈js,0≤ranJ now j∧ranJ now j≤1048576∧1≤j.nd∧j.nd≤256:=fun j hj=>by
  obtain⟨i,hi⟩:=List.mem_iff_getElem?.1 hj
  exact ran_box r (jobs_iff.1 h i (List.getElem?_eq_some_iff.1 hi).1 j hi)
 clear h
 induction js with
 | nil=>exact⟨Int.le_refl _,by simp [rawJ]⟩
 | cons j js ih=>
  have ih:=ih fun x hx=>hall x (List.mem_cons_of_mem _ hx)
  obtain⟨h1,h2,h3,h4⟩:=hall j (List.mem_cons_self ..)
  simp only [rawJ,List.length_cons]
  have hm:=mul_box (a:=j.nd) (b:=ranJ now j) (A:=256) (B:=1048576) (by omega) h1 h4 h2
  split<;>omega
end Go.Proofs.YtceoibfliggalaaGreatDoor
namespace Go.Proofs.YtceoibfliggalaaGreatDoor
open Go.RowKit Wd Tr Cg Lg
def headA (c:Cf) (N:Nat) (j:Jv):Bool:=decide (1≤j.ac)&&(decide (j.ac<(N:Int))&&(decide (1≤j.nd)&&(decide (j.nd≤c.nodes)&&(decide (1≤j.lm)&&decide (j.lm≤c.limit)))))
def headC (c:Cf) (now:Int) (p:Int) (j:Jv):Bool:=decide (0≤j.sb)&&(decide (j.sb≤now)&&(decide (j.sb+boundZ c≤1099511627776)&&decide (p≤j.sb)))
theorem ahead_zero (js:List Jv):aheadOf js 0=0:=rfl
theorem ahead_succ {js:List Jv} {i:Nat} {j:Jv} (h:js[i]?=some j):aheadOf js (i+1)=j.sb:=by
 unfold aheadOf
 rw [if_neg (by omega),Nat.add_sub_cancel,h]
set_option maxRecDepth 20000 in
set_option maxHeartbeats 8000000 in
theorem ujob_any {w:World} (c:Cf) (hck:chkZ c=0) (now:Int) (ao:Option Addr) (na ca:Nat) {jo:Option Addr} {ps:List Pj} (cj:Nat) (hd:Int) (hJ:PjsAt w jo ps) (hl:ps.length≤140737488355328) (hsl:∀p∈ps,p.v.set.length≤140737488355328) (hnow:now≤1099511627776) {i:Nat} {p:Pj} (hp:ps[i]?=some p):
  Calls Tryz.prog 37 #[.agg (stL c now ao na ca jo ps.length cj hd),.int .i64 (i:Int)] w fun e w'=>e=.returned (.bool (jobB c now na (aheadOf (ps.map Pj.v) i) p.v))∧Below w.heap.size w w':=by
 have hi:=(List.getElem?_eq_some_iff.1 hp).1
 have hpm:=List.mem_of_getElem? hp
 obtain⟨⟨g,o,hg,hcl⟩,hsets⟩:=hJ
 obtain rfl:=hg (by rw [List.length_map];omega)
 have hrow:∀k q,ps[k]?=some q→JbAt w g (o+k*8) q.jb:=fun k q hq=>hcl k q.jb (by rw [List.getElem?_map,hq];rfl)
 have hpj:=hrow i p hp
 have HPREV:Hid (∀k q,ps[k]?=some q→w.cell? ⟨g,o+k*8+3,none⟩=some (.int .i64 q.v.sb)):=fun k q hq=>(hrow k q hq).sb
 have HAH:Hid (∀k q,ps[k]?=some q→aheadOf (ps.map Pj.v) (k+1)=q.v.sb):=fun k q hq=>ahead_succ (by rw [List.getElem?_map,hq];rfl)
 have HGET:Hid (∀k,k<ps.length→∃q,ps[k]?=some q):=fun k hk=>⟨_,List.getElem?_eq_getElem hk⟩
 obtain⟨r,hm,_⟩:=chk_ok hck
 have hbb:=bound_box r
 have cB:=rBound_yes hck
 have HTM:Hid (∀x,Below w.heap.size w x→0≤p.v.sb→(0≤p.v.lm∧p.v.lm≤1048576)→Calls Tryz.prog 84 #[.agg (stL c now (ao) na ca (some ⟨g,o,none⟩) ps.length cj hd),pjV p] x fun e w'=>e=.returned (.bool (timesB c now p.v))∧Below x.heap.size x w'):=fun x hx h1 h2=>utimes_any c now ao na ca _ _ cj hd p ((hsets p hpm).below hx) (hsl p hpm) h1 hnow h2
 have hlim:=r.l1
 have hJP:jobB c now na (aheadOf (ps.map Pj.v) i) p.v=((headA c na p.v&&headC c now (aheadOf (ps.map Pj.v) i) p.v)&&timesB c now p.v):=rfl
 obtain⟨⟨ac,nd,lm,sb,st,sr,en,xs⟩,sa,sc⟩:=p
 obtain⟨y0,y1,y2,y3,y4,y5,y6,y7⟩:=hpj
 have hiI:(i:Int)<(ps.length:Int):=by omega
 have hi0:(0:Int)≤(i:Int):=by omega
 have HI:Hid (i<ps.length):=hi
 generalize ps.length=N at *
 unfold stL pjV cfV at *
 dsimp only [Pj.jb]at y0 y1 y2 y3 y4 y5 y6 y7 hJP HTM ⊢
 have HJP:Hid (jobB c now na (aheadOf (ps.map Pj.v) i) ⟨ac,nd,lm,sb,st,sr,en,xs⟩=((headA c na ⟨ac,nd,lm,sb,st,sr,en,xs⟩&&headC c now (aheadOf (ps.map Pj.v) i) ⟨ac,nd,lm,sb,st,sr,en,xs⟩)&&timesB c now ⟨ac,nd,lm,sb,st,sr,en,xs⟩)):=hJP
 clear hJP hsets hcl hg hsl hpm hrow hp hi hm r hck
 obtain⟨W,hW⟩:∃W,w.alloc (.cells #[.int .i64 c.nodes,.int .i64 c.queue,.int .i64 c.limit,.int .i64 c.age,.int .i64 c.fair,.int .i64 c.size,.int .i64 c.period,.int .i64 c.half,.int .i64 now,.slice ao na ca,.slice (some ⟨g,o,none⟩) N cj,.int .i64 hd] 27)=W:=⟨_,rfl⟩
 have b1:Below w.heap.size w W:=by rw [← hW];exact(Below.refl _ w).alloc (Nat.le_refl _) _
 have k0:W.cell? ⟨w.heap.size,0,none⟩=some (.int .i64 c.nodes):=by rw [← hW];exact cells_at (heap_alloc_new w _) rfl
 have k1:W.cell? ⟨w.heap.size,1,none⟩=some (.int .i64 c.queue):=by rw [← hW];exact cells_at (heap_alloc_new w _) rfl
 have k2:W.cell? ⟨w.heap.size,2,none⟩=some (.int .i64 c.limit):=by rw [← hW];exact cells_at (heap_alloc_new w _) rfl
 have k3:W.cell? ⟨w.heap.size,3,none⟩=some (.int .i64 c.age):=by rw [← hW];exact cells_at (heap_alloc_new w _) rfl
 have k4:W.cell? ⟨w.heap.size,4,none⟩=some (.int .i64 c.fair):=by rw [← hW];exact cells_at (heap_alloc_new w _) rfl
 have k5:W.cell? ⟨w.heap.size,5,none⟩=some (.int .i64 c.size):=by rw [← hW];exact cells_at (heap_alloc_new w _) rfl
 have k6:W.cell? ⟨w.heap.size,6,none⟩=some (.int .i64 c.period):=by rw [← hW];exact cells_at (heap_alloc_new w _) rfl
 have k7:W.cell? ⟨w.heap.size,7,none⟩=some (.int .i64 c.half):=by rw [← hW];exact cells_at (heap_alloc_new w _) rfl
 have k8:W.cell? ⟨w.heap.size,8,none⟩=some (.int .i64 now):=by rw [← hW];exact cells_at (heap_alloc_new w _) rfl
 have k9:W.cell? ⟨w.heap.size,9,none⟩=some (.slice ao na ca):=by rw [← hW];exact cells_at (heap_alloc_new w _) rfl
 have k10:W.cell? ⟨w.heap.size,10,none⟩=some (.slice (some ⟨g,o,none⟩) N cj):=by rw [← hW];exact cells_at (heap_alloc_new w _) rfl
 have k11:W.cell? ⟨w.heap.size,11,none⟩=some (.int .i64 hd):=by rw [← hW];exact cells_at (heap_alloc_new w _) rfl
 have hzW:W.heap.size=w.heap.size+1:=by rw [← hW];simp
 have x0:=cellB b1 y0
 have x1:=cellB b1 y1
 have x2:=cellB b1 y2
 have x3:=cellB b1 y3
 have x4:=cellB b1 y4
 have x5:=cellB b1 y5
 have x6:=cellB b1 y6
 have x7:=cellB b1 y7
 clear y0 y1 y2 y3 y4 y5 y6 y7
 obtain⟨W2,hW2⟩:∃W2,W.alloc (.cells #[.int .i64 ac,.int .i64 nd,.int .i64 lm,.int .i64 sb,.int .i64 st,.int .i64 sr,.int .i64 en,.slice sa xs.length sc] 55)=W2:=⟨_,rfl⟩
 have b2:Below W.heap.size W W2:=by rw [← hW2];exact(Below.refl _ W).alloc (Nat.le_refl _) _
 have m0:=cellB b2 k0
 have m1:=cellB b2 k1
 have m2:=cellB b2 k2
 have m3:=cellB b2 k3
 have m4:=cellB b2 k4
 have m5:=cellB b2 k5
 have m6:=cellB b2 k6
 have m7:=cellB b2 k7
 have m8:=cellB b2 k8
 have m9:=cellB b2 k9
 have m10:=cellB b2 k10
 have m11:=cellB b2 k11
 have n0:W2.cell? ⟨W.heap.size,0,none⟩=some (.int .i64 ac):=by rw [← hW2];exact cells_at (heap_alloc_new W _) rfl
 have n1:W2.cell? ⟨W.heap.size,1,none⟩=some (.int .i64 nd):=by rw [← hW2];exact cells_at (heap_alloc_new W _) rfl
 have n2:W2.cell? ⟨W.heap.size,2,none⟩=some (.int .i64 lm):=by rw [← hW2];exact cells_at (heap_alloc_new W _) rfl
 have n3:W2.cell? ⟨W.heap.size,3,none⟩=some (.int .i64 sb):=by rw [← hW2];exact cells_at (heap_alloc_new W _) rfl
 have n4:W2.cell? ⟨W.heap.size,4,none⟩=some (.int .i64 st):=by rw [← hW2];exact cells_at (heap_alloc_new W _) rfl
 have n5:W2.cell? ⟨W.heap.size,5,none⟩=some (.int .i64 sr):=by rw [← hW2];exact cells_at (heap_alloc_new W _) rfl
 have n6:W2.cell? ⟨W.heap.size,6,none⟩=some (.int .i64 en):=by rw [← hW2];exact cells_at (heap_alloc_new W _) rfl
 have n7:W2.cell? ⟨W.heap.size,7,none⟩=some (.slice sa xs.length sc):=by rw [← hW2];exact cells_at (heap_alloc_new W _) rfl
 have HB2:Hid (Below w.heap.size w W2):=b1.trans (b2.mono b1.size)
 clear b1 b2 hzW
 go_enter Tryz.func37,Tryz.ntmps37
 go_upto_region 2 with fail
 clear hW hW2 k0 k1 k2 k3 k4 k5 k6 k7 k8 k9 k10 k11 x0 x1 x2 x3 x4 x5 x6 x7
 by_cases q0:¬(1≤ac)
 ·have HT:Hid (headA c na ⟨ac,nd,lm,sb,st,sr,en,xs⟩=false):=(show headA c na ⟨ac,nd,lm,sb,st,sr,en,xs⟩=false by simp [headA,q0])
  go_wp2
  go_ret
  exact⟨by rw [HJP.out,HT.out];rfl,HB2.out⟩
 replace q0:=Decidable.not_not.1 q0
 by_cases q1:¬(ac<(na:Int))
 ·have HT:Hid (headA c na ⟨ac,nd,lm,sb,st,sr,en,xs⟩=false):=(show headA c na ⟨ac,nd,lm,sb,st,sr,en,xs⟩=false by simp [headA,q0,q1])
  go_wp2
  go_ret
  exact⟨by rw [HJP.out,HT.out];rfl,HB2.out⟩
 replace q1:=Decidable.not_not.1 q1
 by_cases q2:¬(1≤nd)
 ·have HT:Hid (headA c na ⟨ac,nd,lm,sb,st,sr,en,xs⟩=false):=(show headA c na ⟨ac,nd,lm,sb,st,sr,en,xs⟩=false by simp [headA,q0,q1,q2])
  go_wp2
  go_ret
  exact⟨by rw [HJP.out,HT.out];rfl,HB2.out⟩
 replace q2:=Decidable.not_not.1 q2
 by_cases q3:¬(nd≤c.nodes)
 ·have HT:Hid (headA c na ⟨ac,nd,lm,sb,st,sr,en,xs⟩=false):=(show headA c na ⟨ac,nd,lm,sb,st,sr,en,xs⟩=false by simp [headA,q0,q1,q2,q3])
  go_wp2
  go_ret
  exact⟨by rw [HJP.out,HT.out];rfl,HB2.out⟩
 replace q3:=Decidable.not_not.1 q3
 by_cases q4:¬(1≤lm)
 ·have HT:Hid (headA c na ⟨ac,nd,lm,sb,st,sr,en,xs⟩=false):=(show headA c na ⟨ac,nd,lm,sb,st,sr,en,xs⟩=false by simp [headA,q0,q1,q2,q3,q4])
  go_wp2
  go_ret
  exact⟨by rw [HJP.out,HT.out];rfl,HB2.out⟩
 replace q4:=Decidable.not_not.1 q4
 by_cases q5:¬(lm≤c.limit)
 ·have HT:Hid (headA c na ⟨ac,nd,lm,sb,st,sr,en,xs⟩=false):=(show headA c na ⟨ac,nd,lm,sb,st,sr,en,xs⟩=false by simp [headA,q0,q1,q2,q3,q4,q5])
  go_wp2
  go_ret
  exact⟨by rw [HJP.out,HT.out];rfl,HB2.out⟩
 replace q5:=Decidable.not_not.1 q5
 have HA1:Hid (headA c na ⟨ac,nd,lm,sb,st,sr,en,xs⟩=true):=(show headA c na ⟨ac,nd,lm,sb,st,sr,en,xs⟩=true by simp [headA,q0,q1,q2,q3,q4,q5])
 go_upto_region 4 with fail
 obtain⟨B,hB⟩:∃B,boundZ c=B:=⟨_,rfl⟩
 have HBd:Hid (boundZ c=B):=hB
 rw [hB]at cB hbb
 clear hB
 obtain⟨P,hP⟩:∃P,aheadOf (ps.map Pj.v) i=P:=⟨_,rfl⟩
 have HP:Hid (aheadOf (ps.map Pj.v) i=P):=hP
 rw [hP]at HJP
 clear hP
 obtain⟨hc,hhc⟩:∃hc,headC c now P ⟨ac,nd,lm,sb,st,sr,en,xs⟩=hc:=⟨_,rfl⟩
 have HHC:Hid (headC c now P ⟨ac,nd,lm,sb,st,sr,en,xs⟩=hc):=hhc
 rw [hhc]at HJP
 clear hhc
 go_cut [82] (fun v x=>v=.bool (!hc)∧Below W2.heap.size W2 x)
 case first=>
  by_cases z1:sb<0
  ·have e1:decide (sb<0)=true:=decide_eq_true z1
   refine wp_region_last (S:=(fun x':World=>Below W2.heap.size W2 x')) (L:=99) (by kernel_rfl) ?_
   have HSW0:(fun x':World=>Below W2.heap.size W2 x') (W2.drew):=drew_below W2
   have HF:Hid (∀xx:World,(fun x':World=>Below W2.heap.size W2 x') xx→_∧_∧_∧_∧_∧_∧_∧_∧_∧_∧_∧True):=fun xx hSx=>⟨cellB hSx m0,cellB hSx m1,cellB hSx m2,cellB hSx m3,cellB hSx m4,cellB hSx m5,cellB hSx m6,cellB hSx m7,cellB hSx m8,cellB hSx m10,cellB hSx n3,trivial⟩
   refine tk 0 HSW0 (h:=?_)
   refine tk 1 HSW0 (h:=?_)
   refine tk 2 HSW0 (h:=?_)
   try rw [e1]
   refine tk 3 HSW0 (h:=?_)
   refine sk 4 HSW0 (h:=?_)
   refine sk 5 HSW0 (h:=?_)
   refine sk 6 HSW0 (h:=?_)
   refine sk 7 HSW0 (h:=?_)
   refine sk 8 HSW0 (h:=?_)
   refine tk 9 HSW0 (h:=?_)
   refine tk 10 HSW0 (h:=?_)
   refine sk 11 HSW0 (h:=?_)
   refine sk 12 HSW0 (h:=?_)
   refine sk 13 HSW0 (h:=?_)
   refine sk 14 HSW0 (h:=?_)
   refine sk 15 HSW0 (h:=?_)
   refine sk 16 HSW0 (h:=?_)
   refine sk 17 HSW0 (h:=?_)
   refine tk 18 HSW0 (h:=?_)
   refine tk 19 HSW0 (h:=?_)
   refine sk 20 HSW0 (h:=?_)
   refine sk 21 HSW0 (h:=?_)
   refine sk 22 HSW0 (h:=?_)
   refine sk 23 HSW0 (h:=?_)
   refine sk 24 HSW0 (h:=?_)
   refine sk 25 HSW0 (h:=?_)
   refine sk 26 HSW0 (h:=?_)
   refine sk 27 HSW0 (h:=?_)
   refine sk 28 HSW0 (h:=?_)
   refine sk 29 HSW0 (h:=?_)
   refine sk 30 HSW0 (h:=?_)
   refine sk 31 HSW0 (h:=?_)
   refine sk 32 HSW0 (h:=?_)
   refine sk 33 HSW0 (h:=?_)
   refine tk 34 HSW0 (h:=?_)
   refine last_done (by kernel_rfl) ?_ _
   have HSX:Hid (Below W2.heap.size W2 W2.drew):=HSW0
   clear HSW0
   go_wp2
   go_meet
   exact⟨by rw [← HHC.out];(show (Value.bool true=Value.bool (!headC c now P ⟨ac,nd,lm,sb,st,sr,en,xs⟩));rw [show headC c now P ⟨ac,nd,lm,sb,st,sr,en,xs⟩=false by unfold headC;rw [decide_eq_false (show ¬(0:Int)≤sb by omega)];rfl];rfl),HSX.out⟩
  have e1:decide (sb<0)=false:=decide_eq_false z1
  by_cases z2:now<sb
  ·have e2:decide (now<sb)=true:=decide_eq_true z2
   refine wp_region_last (S:=(fun x':World=>Below W2.heap.size W2 x')) (L:=99) (by kernel_rfl) ?_
   have HSW0:(fun x':World=>Below W2.heap.size W2 x') (W2.drew):=drew_below W2
   have HF:Hid (∀xx:World,(fun x':World=>Below W2.heap.size W2 x') xx→_∧_∧_∧_∧_∧_∧_∧_∧_∧_∧_∧True):=fun xx hSx=>⟨cellB hSx m0,cellB hSx m1,cellB hSx m2,cellB hSx m3,cellB hSx m4,cellB hSx m5,cellB hSx m6,cellB hSx m7,cellB hSx m8,cellB hSx m10,cellB hSx n3,trivial⟩
   refine tk 0 HSW0 (h:=?_)
   refine tk 1 HSW0 (h:=?_)
   refine tk 2 HSW0 (h:=?_)
   try rw [e1]
   refine tk 3 HSW0 (h:=?_)
   refine tk 4 HSW0 (h:=?_)
   refine tk 5 HSW0 (h:=?_)
   refine tk 6 HSW0 (h:=?_)
   refine tk 7 HSW0 (h:=?_)
   refine tk 8 HSW0 (h:=?_)
   try rw [e2]
   refine tk 9 HSW0 (h:=?_)
   refine tk 10 HSW0 (h:=?_)
   refine sk 11 HSW0 (h:=?_)
   refine sk 12 HSW0 (h:=?_)
   refine sk 13 HSW0 (h:=?_)
   refine sk 14 HSW0 (h:=?_)
   refine sk 15 HSW0 (h:=?_)
   refine sk 16 HSW0 (h:=?_)
   refine sk 17 HSW0 (h:=?_)
   refine tk 18 HSW0 (h:=?_)
   refine tk 19 HSW0 (h:=?_)
   refine sk 20 HSW0 (h:=?_)
   refine sk 21 HSW0 (h:=?_)
   refine sk 22 HSW0 (h:=?_)
   refine sk 23 HSW0 (h:=?_)
   refine sk 24 HSW0 (h:=?_)
   refine sk 25 HSW0 (h:=?_)
   refine sk 26 HSW0 (h:=?_)
   refine sk 27 HSW0 (h:=?_)
   refine sk 28 HSW0 (h:=?_)
   refine sk 29 HSW0 (h:=?_)
   refine sk 30 HSW0 (h:=?_)
   refine sk 31 HSW0 (h:=?_)
   refine sk 32 HSW0 (h:=?_)
   refine sk 33 HSW0 (h:=?_)
   refine tk 34 HSW0 (h:=?_)
   refine last_done (by kernel_rfl) ?_ _
   have HSX:Hid (Below W2.heap.size W2 W2.drew):=HSW0
   clear HSW0
   go_wp2
   go_meet
   exact⟨by rw [← HHC.out];(show (Value.bool true=Value.bool (!headC c now P ⟨ac,nd,lm,sb,st,sr,en,xs⟩));rw [show headC c now P ⟨ac,nd,lm,sb,st,sr,en,xs⟩=false by unfold headC;rw [decide_eq_false (show ¬sb≤now by omega),Bool.false_and,Bool.and_false]];rfl),HSX.out⟩
  have e2:decide (now<sb)=false:=decide_eq_false z2
  have hw:IntKind.i64.wrap (sb+B)=sb+B:=by rw [IntKind.wrap_i64];omega
  by_cases z3:1099511627776<sb+B
  ·have e3:decide (1099511627776<sb+B)=true:=decide_eq_true z3
   refine wp_region_last (S:=(fun x':World=>Below W2.heap.size W2 x')) (L:=99) (by kernel_rfl) ?_
   have HSW0:(fun x':World=>Below W2.heap.size W2 x') (W2.drew):=drew_below W2
   have HF:Hid (∀xx:World,(fun x':World=>Below W2.heap.size W2 x') xx→_∧_∧_∧_∧_∧_∧_∧_∧_∧_∧_∧True):=fun xx hSx=>⟨cellB hSx m0,cellB hSx m1,cellB hSx m2,cellB hSx m3,cellB hSx m4,cellB hSx m5,cellB hSx m6,cellB hSx m7,cellB hSx m8,cellB hSx m10,cellB hSx n3,trivial⟩
   refine tk 0 HSW0 (h:=?_)
   refine tk 1 HSW0 (h:=?_)
   refine tk 2 HSW0 (h:=?_)
   try rw [e1]
   refine tk 3 HSW0 (h:=?_)
   refine tk 4 HSW0 (h:=?_)
   refine tk 5 HSW0 (h:=?_)
   refine tk 6 HSW0 (h:=?_)
   refine tk 7 HSW0 (h:=?_)
   refine tk 8 HSW0 (h:=?_)
   try rw [e2]
   refine tk 9 HSW0 (h:=?_)
   refine tk 10 HSW0 (h:=?_)
   refine tk 11 HSW0 (h:=?_)
   refine tk 12 HSW0 (h:=?_)
   refine tk 13 HSW0 (h:=?_)
   refine tk 14 HSW0 (h:=?_)
   refine last_one (i:=15) (by kernel_rfl) rfl ?_
   intro K hK
   go_simp
   go_at_call 83
   refine(cB _).mono ?_
   rintro e Z1 ⟨rfl,bz1⟩
   have HSZ1:(fun x':World=>Below W2.heap.size W2 x') Z1:=HSW0.trans (bz1.mono HSW0.size)
   go_simp
   refine hK.out _ _ (fun _=>HSZ1) (fun _=>?_)
   clear hK K HSW0
   refine tk 16 HSZ1 (h:=?_)
   try rw [hw]
   refine tk 17 HSZ1 (h:=?_)
   try rw [e3]
   refine tk 18 HSZ1 (h:=?_)
   refine tk 19 HSZ1 (h:=?_)
   refine sk 20 HSZ1 (h:=?_)
   refine sk 21 HSZ1 (h:=?_)
   refine sk 22 HSZ1 (h:=?_)
   refine sk 23 HSZ1 (h:=?_)
   refine sk 24 HSZ1 (h:=?_)
   refine sk 25 HSZ1 (h:=?_)
   refine sk 26 HSZ1 (h:=?_)
   refine sk 27 HSZ1 (h:=?_)
   refine sk 28 HSZ1 (h:=?_)
   refine sk 29 HSZ1 (h:=?_)
   refine sk 30 HSZ1 (h:=?_)
   refine sk 31 HSZ1 (h:=?_)
   refine sk 32 HSZ1 (h:=?_)
   refine sk 33 HSZ1 (h:=?_)
   refine tk 34 HSZ1 (h:=?_)
   refine last_done (by kernel_rfl) ?_ _
   have HSX:Hid (Below W2.heap.size W2 Z1):=HSZ1
   clear HSZ1 bz1
   go_wp2
   go_meet
   exact⟨by rw [← HHC.out];(show (Value.bool true=Value.bool (!headC c now P ⟨ac,nd,lm,sb,st,sr,en,xs⟩));rw [show headC c now P ⟨ac,nd,lm,sb,st,sr,en,xs⟩=false by unfold headC;rw [HBd.out,decide_eq_false (show ¬sb+B≤1099511627776 by omega),Bool.false_and,Bool.and_false,Bool.and_false]];rfl),HSX.out⟩
  have e3:decide (1099511627776<sb+B)=false:=decide_eq_false z3
  rcases i with _ | i
  ·have hP0:P=0:=HP.out.symm.trans (ahead_zero _)
   have HP0:Hid (P=0):=hP0
   clear hP0
   have e4:decide ((0:Int)<((0:Nat):Int))=false:=by simp
   refine wp_region_last (S:=(fun x':World=>Below W2.heap.size W2 x')) (L:=99) (by kernel_rfl) ?_
   have HSW0:(fun x':World=>Below W2.heap.size W2 x') (W2.drew):=drew_below W2
   have HF:Hid (∀xx:World,(fun x':World=>Below W2.heap.size W2 x') xx→_∧_∧_∧_∧_∧_∧_∧_∧_∧_∧_∧True):=fun xx hSx=>⟨cellB hSx m0,cellB hSx m1,cellB hSx m2,cellB hSx m3,cellB hSx m4,cellB hSx m5,cellB hSx m6,cellB hSx m7,cellB hSx m8,cellB hSx m10,cellB hSx n3,trivial⟩
   refine tk 0 HSW0 (h:=?_)
   refine tk 1 HSW0 (h:=?_)
   refine tk 2 HSW0 (h:=?_)
   try rw [e1]
   refine tk 3 HSW0 (h:=?_)
   refine tk 4 HSW0 (h:=?_)
   refine tk 5 HSW0 (h:=?_)
   refine tk 6 HSW0 (h:=?_)
   refine tk 7 HSW0 (h:=?_)
   refine tk 8 HSW0 (h:=?_)
   try rw [e2]
   refine tk 9 HSW0 (h:=?_)
   refine tk 10 HSW0 (h:=?_)
   refine tk 11 HSW0 (h:=?_)
   refine tk 12 HSW0 (h:=?_)
   refine tk 13 HSW0 (h:=?_)
   refine tk 14 HSW0 (h:=?_)
   refine last_one (i:=15) (by kernel_rfl) rfl ?_
   intro K hK
   go_simp
   go_at_call 83
   refine(cB _).mono ?_
   rintro e Z1 ⟨rfl,bz1⟩
   have HSZ1:(fun x':World=>Below W2.heap.size W2 x') Z1:=HSW0.trans (bz1.mono HSW0.size)
   go_simp
   refine hK.out _ _ (fun _=>HSZ1) (fun _=>?_)
   clear hK K HSW0
   refine tk 16 HSZ1 (h:=?_)
   try rw [hw]
   refine tk 17 HSZ1 (h:=?_)
   try rw [e3]
   refine tk 18 HSZ1 (h:=?_)
   refine tk 19 HSZ1 (h:=?_)
   refine tk 20 HSZ1 (h:=?_)
   refine tk 21 HSZ1 (h:=?_)
   try rw [e4]
   refine tk 22 HSZ1 (h:=?_)
   refine sk 23 HSZ1 (h:=?_)
   refine sk 24 HSZ1 (h:=?_)
   refine sk 25 HSZ1 (h:=?_)
   refine sk 26 HSZ1 (h:=?_)
   refine sk 27 HSZ1 (h:=?_)
   refine sk 28 HSZ1 (h:=?_)
   refine sk 29 HSZ1 (h:=?_)
   refine sk 30 HSZ1 (h:=?_)
   refine sk 31 HSZ1 (h:=?_)
   refine sk 32 HSZ1 (h:=?_)
   refine tk 33 HSZ1 (h:=?_)
   refine tk 34 HSZ1 (h:=?_)
   refine last_done (by kernel_rfl) ?_ _
   have HSX:Hid (Below W2.heap.size W2 Z1):=HSZ1
   clear HSZ1 bz1
   go_wp2
   go_meet
   exact⟨by rw [← HHC.out];(show (Value.bool false=Value.bool (!headC c now P ⟨ac,nd,lm,sb,st,sr,en,xs⟩));rw [show headC c now P ⟨ac,nd,lm,sb,st,sr,en,xs⟩=true by unfold headC;have:=HP0.out;rw [HBd.out,decide_eq_true (show (0:Int)≤sb by omega),decide_eq_true (show sb≤now by omega),decide_eq_true (show sb+B≤1099511627776 by omega),decide_eq_true (show P≤sb by omega)];rfl];rfl),HSX.out⟩
  ·obtain ⟨q,hq⟩:=HGET.out i (by have:=HI.out;omega)
   have hPq:q.v.sb=P:=(HAH.out i q hq).symm.trans HP.out
   have xq:=cellB HB2.out (HPREV.out i q hq)
   rw [hPq]at xq
   clear hPq hq
   have e4:decide ((0:Int)<((i+1:Nat):Int))=true:=decide_eq_true (by omega)
   have e5:IntKind.i64.wrap (((i+1:Nat):Int) - 1)=(i:Int):=by rw [IntKind.wrap_i64];have:=HI.out;omega
   have e5':IntKind.i64.wrap (i:Int)=(i:Int):=by rw [IntKind.wrap_i64];have:=HI.out;omega
   have hil:(i:Int)<(N:Int):=by have:=HI.out;omega
   have hil0:(0:Int)≤(i:Int):=by omega
   by_cases z6:sb<P
   ·have e6:decide (sb<P)=true:=decide_eq_true z6
    refine wp_region_last (S:=(fun x':World=>Below W2.heap.size W2 x')) (L:=99) (by kernel_rfl) ?_
    have HSW0:(fun x':World=>Below W2.heap.size W2 x') (W2.drew):=drew_below W2
    have HF:Hid (∀xx:World,(fun x':World=>Below W2.heap.size W2 x') xx→_∧_∧_∧_∧_∧_∧_∧_∧_∧_∧_∧_∧True):=fun xx hSx=>⟨cellB hSx m0,cellB hSx m1,cellB hSx m2,cellB hSx m3,cellB hSx m4,cellB hSx m5,cellB hSx m6,cellB hSx m7,cellB hSx m8,cellB hSx m10,cellB hSx n3,cellB hSx xq,trivial⟩
    refine tk 0 HSW0 (h:=?_)
    refine tk 1 HSW0 (h:=?_)
    refine tk 2 HSW0 (h:=?_)
    try rw [e1]
    refine tk 3 HSW0 (h:=?_)
    refine tk 4 HSW0 (h:=?_)
    refine tk 5 HSW0 (h:=?_)
    refine tk 6 HSW0 (h:=?_)
    refine tk 7 HSW0 (h:=?_)
    refine tk 8 HSW0 (h:=?_)
    try rw [e2]
    refine tk 9 HSW0 (h:=?_)
    refine tk 10 HSW0 (h:=?_)
    refine tk 11 HSW0 (h:=?_)
    refine tk 12 HSW0 (h:=?_)
    refine tk 13 HSW0 (h:=?_)
    refine tk 14 HSW0 (h:=?_)
    refine last_one (i:=15) (by kernel_rfl) rfl ?_
    intro K hK
    go_simp
    go_at_call 83
    refine(cB _).mono ?_
    rintro e Z1 ⟨rfl,bz1⟩
    have HSZ1:(fun x':World=>Below W2.heap.size W2 x') Z1:=HSW0.trans (bz1.mono HSW0.size)
    go_simp
    refine hK.out _ _ (fun _=>HSZ1) (fun _=>?_)
    clear hK K HSW0
    refine tk 16 HSZ1 (h:=?_)
    try rw [hw]
    refine tk 17 HSZ1 (h:=?_)
    try rw [e3]
    refine tk 18 HSZ1 (h:=?_)
    refine tk 19 HSZ1 (h:=?_)
    refine tk 20 HSZ1 (h:=?_)
    refine tk 21 HSZ1 (h:=?_)
    try rw [e4]
    refine tk 22 HSZ1 (h:=?_)
    refine tk 23 HSZ1 (h:=?_)
    refine tk 24 HSZ1 (h:=?_)
    refine tk 25 HSZ1 (h:=?_)
    refine tk 26 HSZ1 (h:=?_)
    refine tk 27 HSZ1 (h:=?_)
    refine tk 28 HSZ1 (h:=?_)
    try rw [e5]
    refine tk 29 HSZ1 (h:=?_)
    refine tk 30 HSZ1 (h:=?_)
    refine tk 31 HSZ1 (h:=?_)
    refine tk 32 HSZ1 (h:=?_)
    try rw [e6]
    refine tk 33 HSZ1 (h:=?_)
    refine tk 34 HSZ1 (h:=?_)
    refine last_done (by kernel_rfl) ?_ _
    have HSX:Hid (Below W2.heap.size W2 Z1):=HSZ1
    clear HSZ1 bz1
    go_wp2
    go_meet
    exact⟨by rw [← HHC.out];(show (Value.bool true=Value.bool (!headC c now P ⟨ac,nd,lm,sb,st,sr,en,xs⟩));rw [show headC c now P ⟨ac,nd,lm,sb,st,sr,en,xs⟩=false by unfold headC;rw [HBd.out,decide_eq_true (show (0:Int)≤sb by omega),decide_eq_true (show sb≤now by omega),decide_eq_true (show sb+B≤1099511627776 by omega),decide_eq_false (show ¬P≤sb by omega)];rfl];rfl),HSX.out⟩
   ·have e6:decide (sb<P)=false:=decide_eq_false z6
    refine wp_region_last (S:=(fun x':World=>Below W2.heap.size W2 x')) (L:=99) (by kernel_rfl) ?_
    have HSW0:(fun x':World=>Below W2.heap.size W2 x') (W2.drew):=drew_below W2
    have HF:Hid (∀xx:World,(fun x':World=>Below W2.heap.size W2 x') xx→_∧_∧_∧_∧_∧_∧_∧_∧_∧_∧_∧_∧True):=fun xx hSx=>⟨cellB hSx m0,cellB hSx m1,cellB hSx m2,cellB hSx m3,cellB hSx m4,cellB hSx m5,cellB hSx m6,cellB hSx m7,cellB hSx m8,cellB hSx m10,cellB hSx n3,cellB hSx xq,trivial⟩
    refine tk 0 HSW0 (h:=?_)
    refine tk 1 HSW0 (h:=?_)
    refine tk 2 HSW0 (h:=?_)
    try rw [e1]
    refine tk 3 HSW0 (h:=?_)
    refine tk 4 HSW0 (h:=?_)
    refine tk 5 HSW0 (h:=?_)
    refine tk 6 HSW0 (h:=?_)
    refine tk 7 HSW0 (h:=?_)
    refine tk 8 HSW0 (h:=?_)
    try rw [e2]
    refine tk 9 HSW0 (h:=?_)
    refine tk 10 HSW0 (h:=?_)
    refine tk 11 HSW0 (h:=?_)
    refine tk 12 HSW0 (h:=?_)
    refine tk 13 HSW0 (h:=?_)
    refine tk 14 HSW0 (h:=?_)
    refine last_one (i:=15) (by kernel_rfl) rfl ?_
    intro K hK
    go_simp
    go_at_call 83
    refine(cB _).mono ?_
    rintro e Z1 ⟨rfl,bz1⟩
    have HSZ1:(fun x':World=>Below W2.heap.size W2 x') Z1:=HSW0.trans (bz1.mono HSW0.size)
    go_simp
    refine hK.out _ _ (fun _=>HSZ1) (fun _=>?_)
    clear hK K HSW0
    refine tk 16 HSZ1 (h:=?_)
    try rw [hw]
    refine tk 17 HSZ1 (h:=?_)
    try rw [e3]
    refine tk 18 HSZ1 (h:=?_)
    refine tk 19 HSZ1 (h:=?_)
    refine tk 20 HSZ1 (h:=?_)
    refine tk 21 HSZ1 (h:=?_)
    try rw [e4]
    refine tk 22 HSZ1 (h:=?_)
    refine tk 23 HSZ1 (h:=?_)
    refine tk 24 HSZ1 (h:=?_)
    refine tk 25 HSZ1 (h:=?_)
    refine tk 26 HSZ1 (h:=?_)
    refine tk 27 HSZ1 (h:=?_)
    refine tk 28 HSZ1 (h:=?_)
    try rw [e5]
    refine tk 29 HSZ1 (h:=?_)
    refine tk 30 HSZ1 (h:=?_)
    refine tk 31 HSZ1 (h:=?_)
    refine tk 32 HSZ1 (h:=?_)
    try rw [e6]
    refine tk 33 HSZ1 (h:=?_)
    refine tk 34 HSZ1 (h:=?_)
    refine last_done (by kernel_rfl) ?_ _
    have HSX:Hid (Below W2.heap.size W2 Z1):=HSZ1
    clear HSZ1 bz1
    go_wp2
    go_meet
    exact⟨by rw [← HHC.out];(show (Value.bool false=Value.bool (!headC c now P ⟨ac,nd,lm,sb,st,sr,en,xs⟩));rw [show headC c now P ⟨ac,nd,lm,sb,st,sr,en,xs⟩=true by unfold headC;rw [HBd.out,decide_eq_true (show (0:Int)≤sb by omega),decide_eq_true (show sb≤now by omega),decide_eq_true (show sb+B≤1099511627776 by omega),decide_eq_true (show P≤sb by omega)];rfl];rfl),HSX.out⟩
 case rest=>
 obtain⟨rfl,hbx⟩:=hcut
 obtain⟨X,hX⟩:∃X,wc=X:=⟨_,rfl⟩
 rw [hX]at hbx ⊢
 clear hX
 have m0:=cellB hbx m0
 have m1:=cellB hbx m1
 have m2:=cellB hbx m2
 have m3:=cellB hbx m3
 have m4:=cellB hbx m4
 have m5:=cellB hbx m5
 have m6:=cellB hbx m6
 have m7:=cellB hbx m7
 have m8:=cellB hbx m8
 have m9:=cellB hbx m9
 have m10:=cellB hbx m10
 have m11:=cellB hbx m11
 have n0:=cellB hbx n0
 have n1:=cellB hbx n1
 have n2:=cellB hbx n2
 have n3:=cellB hbx n3
 have n4:=cellB hbx n4
 have n5:=cellB hbx n5
 have n6:=cellB hbx n6
 have n7:=cellB hbx n7
 have HBX:Hid (Below w.heap.size w X):=HB2.out.trans (hbx.mono HB2.out.size)
 cases hc with
 | false=>
  clear HHC
  go_wp2
  go_ret
  exact⟨by rw [HP.out,HJP.out,HA1.out];rfl,HBX.out⟩
 | true=>
 have hsb:0≤sb:=by have:=HHC.out;simp only [headC,Bool.and_eq_true,decide_eq_true_eq]at this;exact this.1
 have cT:=HTM.out X HBX.out hsb ⟨by omega,by omega⟩
 clear hbx HTM HHC
 go_wp2_with fail
 refine cT.mono ?_
 rintro e Y ⟨rfl,hy⟩
 have HBY:Hid (Below w.heap.size w Y):=HBX.out.trans (hy.mono HBX.out.size)
 clear hy
 go_wp2
 go_ret
 exact⟨by rw [HP.out,HJP.out,HA1.out];rfl,HBY.out⟩
end Go.Proofs.YtceoibfliggalaaGreatDoor
