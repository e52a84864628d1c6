/-
  TEXTS: CfF, AuN.
-/
import Derived.Test.YtceoibfliggalaaGreatDoorKr8
import Derived.Test.YtceoibfliggalaaGreatDoorKr7
namespace Go.Proofs.YtceoibfliggalaaGreatDoor
open Go.RowKit Wd Cg
theorem chk_ok {c:Cf} (h:chkZ c=0):Rng c∧mZ c≤2147483648∧offN c*1000≤offD c*topZ c:=by
 unfold chkZ at h
 by_cases r:Rng c
 ·rw [if_neg (fun h=>h r)]at h
  by_cases hm:2147483648<mZ c
  ·rw [if_pos hm]at h;omega
  ·rw [if_neg hm]at h
   by_cases ho:offD c*topZ c<offN c*1000
   ·rw [if_pos ho]at h;omega
   ·exact ⟨r,by omega,by omega⟩
 ·rw [if_pos r]at h;omega
theorem rBound_yes {c:Cf} (h:chkZ c=0) (w:World):Calls Tryz.prog 83 #[cfV c] w fun e w'=>e=.returned (.int .i64 (boundZ c))∧Below w.heap.size w w':=by
 have c1:=rcheck_any c
 obtain⟨r,hm,_⟩:=chk_ok h
 rw [h]at c1
 have c2:=rbound_any r
 generalize boundZ c=L0 at *
 unfold cfV at *
 have hS:=St.new w c
 go_enter Tryz.func83,Tryz.ntmps83
 go_wp2_with fail
 refine(c1 _).mono ?_
 rintro e w1 ⟨rfl,b1⟩
 replace hS:=keepW hS b1
 clear b1
 obtain⟨s0,s1,s2,s3,s4,s5,s6,s7,_,_⟩:=id hS
 go_wp2_with fail
 refine(c2 _).mono ?_
 rintro e w2 ⟨rfl,b2⟩
 replace hS:=keepW hS b2
 clear b2 s0 s1 s2 s3 s4 s5 s6 s7
 go_wp2
 go_ret
 exact⟨rfl,hS.bel⟩
end Go.Proofs.YtceoibfliggalaaGreatDoor
namespace Go.Proofs.YtceoibfliggalaaGreatDoor
open Wd Tr Cg
theorem aud_170 {e:Int} {s:Sv} (h:e≠0):auditV e s=170:=by unfold auditV;rw [if_pos h]
theorem aud_171 {s:Sv} (h:s.now<0∨1099511627776<s.now):auditV 0 s=171:=by unfold auditV;rw [if_neg (by simp),if_pos h]
theorem aud_172 {s:Sv} (h0:¬(s.now<0∨1099511627776<s.now)) (h:loadE s.la≠0):auditV 0 s=172:=by unfold auditV;rw [if_neg (by simp),if_neg h0,if_pos h]
theorem aud_174 {s:Sv} (h0:¬(s.now<0∨1099511627776<s.now)) (h1:loadE s.la=0) (h:4096<s.js.length∨jobsB s.cf s.now s.la.length s.js s.js.length=false):auditV 0 s=174:=by
 unfold auditV
 rw [if_neg (by simp),if_neg h0,if_neg (by simpa using h1),if_pos h]
theorem aud_tail {s:Sv} (h0:¬(s.now<0∨1099511627776<s.now)) (h1:loadE s.la=0) (h2:s.js.length≤4096) (h3:jobsB s.cf s.now s.la.length s.js s.js.length=true):auditV 0 s=tailV s:=by
 unfold auditV
 rw [if_neg (by simp),if_neg h0,if_neg (by simpa using h1),if_neg (by rw [h3];simp;omega)]
theorem jobs_false {c:Cf} {now:Int} {N:Nat} {js:List Jv} {i:Nat} {j:Jv} (hj:js[i]?=some j) (h:jobB c now N (aheadOf js i) j=false):jobsB c now N js js.length=false:=by
 cases hb:jobsB c now N js js.length with
 | false=>rfl
 | true=>
  have:=jobs_iff.1 hb i (List.getElem?_eq_some_iff.1 hj).1 j hj
  rw [this]at h
  exact h
theorem apart_false {js:List Jv} {i:Nat} {a b:Jv} (ha:js[i]?=some a) (hb:b∈js.take i) (h:commonB a b=true):apartB js js.length=false:=by
 cases hc:apartB js js.length with
 | false=>rfl
 | true=>
  have:=apart_iff.1 hc i (List.getElem?_eq_some_iff.1 ha).1 a ha b hb
  rw [this]at h
  cases h
theorem usages_false {now:Int} {js:List Jv} {la:List Ac} {i:Nat} {a:Ac} (ha:la[i]?=some a) (h:usageB now js i a=false):usagesB now js la la.length=false:=by
 cases hc:usagesB now js la la.length with
 | false=>rfl
 | true=>
  have:=usages_iff.1 hc i (List.getElem?_eq_some_iff.1 ha).1 a ha
  rw [this]at h
  exact h
theorem tail_175 {s:Sv} (h:s.cf.queue<(pendN s.js:Int)):tailV s=175:=by unfold tailV;rw [if_pos h]
theorem tail_176 {s:Sv} (h0:¬s.cf.queue<(pendN s.js:Int)) (h:apartB s.js s.js.length=false):tailV s=176:=by unfold tailV;rw [if_neg h0,if_pos h]
theorem tail_173 {s:Sv} (h0:¬s.cf.queue<(pendN s.js:Int)) (h1:apartB s.js s.js.length=true) (h:usagesB s.now s.js s.la s.la.length=false):tailV s=173:=by unfold tailV;rw [if_neg h0,if_neg (by rw [h1];simp),if_pos h]
theorem tail_hold {s:Sv} (h0:¬s.cf.queue<(pendN s.js:Int)) (h1:apartB s.js s.js.length=true) (h2:usagesB s.now s.js s.la s.la.length=true):tailV s=if holdB s=false then 177 else 0:=by unfold tailV;rw [if_neg h0,if_neg (by rw [h1];simp),if_neg (by rw [h2];simp)]
theorem pend_all (js:List Jv):pendN (js.take js.length)=pendN js:=by rw [List.take_length]
theorem pend_le (js:List Jv):pendN js≤js.length:=List.length_filter_le _ _
theorem ran_box {c:Cf} {now:Int} {N:Nat} {p:Int} {j:Jv} (r:Rng c) (h:jobB c now N p j=true):0≤ranJ now j∧ranJ now j≤1048576∧1≤j.nd∧j.nd≤256:=by
 unfold jobB headB at h
 simp only [Bool.and_eq_true,decide_eq_true_eq]at h
 obtain⟨⟨⟨a1,a2,a3,a4,a5,a6⟩,b1,b2,b3,b4⟩,ht⟩:=h
 have:=r.n1;have:=r.l1
 refine⟨?_,?_,a3,by omega⟩
 all_goals
  unfold ranJ
  unfold timesB at ht
  split
  ·rename_i h3
   rw [if_neg (by omega),if_neg (by omega)]at ht
   split at ht
   ·cases ht
   ·rw [if_neg (by omega)]at ht
    split at ht
    ·simp only [Bool.and_eq_true,decide_eq_true_eq]at ht;omega
    ·split at ht
     ·simp only [Bool.and_eq_true,decide_eq_true_eq]at ht;omega
     ·cases ht
  ·split
   ·rename_i h2
    rw [if_neg (by omega),if_neg (by omega)]at ht
    split at ht
    ·cases ht
    ·simp only [Bool.and_eq_true,decide_eq_true_eq]at ht
     rename_i h9
     omega
   ·omega
theorem raw_box {c:Cf} {now:Int} {N:Nat} (r:Rng c) {js:List Jv} (h:jobsB c now N js js.length=true) (a:Int):0≤rawJ a now js∧rawJ a now js≤js.length*268435456:=by
 have hall:∀j∈js,0≤ranJ now j∧ranJ now j≤1048576∧1≤j.nd∧j.nd≤256:=fun j hj=>by
  obtain⟨i,hi⟩:=List.mem_iff_getElem?.1 hj
  exact ran_box r (jobs_iff.1 h i (List.getElem?_eq_some_iff.1 hi).1 j hi)
 clear h
 induction js with
 | nil=>exact⟨Int.le_refl _,by simp [rawJ]⟩
 | cons j js ih=>
  have ih:=ih fun x hx=>hall x (List.mem_cons_of_mem _ hx)
  obtain⟨h1,h2,h3,h4⟩:=hall j (List.mem_cons_self ..)
  simp only [rawJ,List.length_cons]
  have hm:=mul_box (a:=j.nd) (b:=ranJ now j) (A:=256) (B:=1048576) (by omega) h1 h4 h2
  split<;>omega
end Go.Proofs.YtceoibfliggalaaGreatDoor
