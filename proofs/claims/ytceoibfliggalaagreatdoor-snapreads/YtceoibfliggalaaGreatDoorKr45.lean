/-
  TEXTS: AuP.
-/
import Derived.Test.YtceoibfliggalaaGreatDoorKr9
namespace Go.Proofs.YtceoibfliggalaaGreatDoor
open Wd Tr Cg
structure Okay (s:Sv):Prop where
 n0:0≤s.now
 n1:s.now≤1099511627776
 load:loadE s.la=0
 many:s.js.length≤4096
 jobs:jobsB s.cf s.now s.la.length s.js s.js.length=true
 queue:(pendN s.js:Int)≤s.cf.queue
 apart:apartB s.js s.js.length=true
 usage:usagesB s.now s.js s.la s.la.length=true
 hold:holdB s=true
theorem aud_ok {e:Int} {s:Sv}:auditV e s=0↔e=0∧Okay s:=by
 constructor
 ·intro h
  unfold auditV at h
  split at h
  ·omega
  ·rename_i h0
   split at h
   ·omega
   ·rename_i h1
    split at h
    ·omega
    ·rename_i h2
     split at h
     ·omega
     ·rename_i h3
      unfold tailV at h
      split at h
      ·omega
      ·rename_i h4
       split at h
       ·omega
       ·rename_i h5
        split at h
        ·omega
        ·rename_i h6
         split at h
         ·omega
         ·rename_i h7
          refine⟨by omega,by omega,by omega,by omega,by omega,?_,by omega,by simpa using h5,by simpa using h6,by simpa using h7⟩
          cases hj:jobsB s.cf s.now s.la.length s.js s.js.length with
          | true=>rfl
          | false=>exact absurd (.inr hj) h3
 ·rintro ⟨rfl,k⟩
  have h1:=k.n0;have h2:=k.n1;have h3:=k.queue
  rw [aud_tail (by omega) k.load k.many k.jobs,tail_hold (by omega) k.apart k.usage,if_neg (by rw [k.hold];simp)]
section
variable (n:Int) (js:List Jv)
end
end Go.Proofs.YtceoibfliggalaaGreatDoor
