/-
  TEXTS: AdB, NdB, AdC, AuQ, SwM, SwN.
-/
import Derived.Test.YtceoibfliggalaaGreatDoorKr33
import Derived.Test.YtceoibfliggalaaGreatDoorKr27
import Derived.Test.YtceoibfliggalaaGreatDoorKr7
import Derived.Test.YtceoibfliggalaaGreatDoorKr10
import Derived.Test.YtceoibfliggalaaGreatDoorKr11
import Derived.Deep.CutBlock
import Derived.Deep.DeepCutAuto
namespace Go.Proofs.YtceoibfliggalaaGreatDoor
open Go.RowKit Wd Tr Cg Lg
def startB (st:Int):Bool:=decide (¬st=1)&&decide (¬st=6)
theorem started_any {w:World} (p:Pj):Calls Tryz.prog 148 #[pjV p] w fun e w'=>e=.returned (.bool (startB p.v.st))∧Below w.heap.size w w':=by
 obtain⟨⟨ac,nd,lm,sb,st,sr,en,xs⟩,sa,sc⟩:=p
 unfold pjV
 dsimp only
 by_cases h:st=1
 ·subst h
  go_enter Tryz.func148,Tryz.ntmps148
  go_wp2
  go_ret
  exact⟨rfl,(Below.refl _ _).alloc (Nat.le_refl _) _⟩
 ·by_cases g:st=6
  ·subst g
   go_enter Tryz.func148,Tryz.ntmps148
   go_wp2
   go_ret
   exact⟨rfl,(Below.refl _ _).alloc (Nat.le_refl _) _⟩
  ·have e:startB st=true:=by simp [startB,h,g]
   rw [e]
   go_enter Tryz.func148,Tryz.ntmps148
   go_wp2
   go_ret
   exact⟨by simp [h,g],(Below.refl _ _).alloc (Nat.le_refl _) _⟩
def runB (now:Int) (j:Jv):Bool:=
 fromB (j.sb+1) now j.sr&&(if j.st=2 then decide (j.en=0)&&decide (now<j.sr+j.lm)
  else if j.st=3∨j.st=5 then fromB j.sr (min now (j.sr+j.lm - 1)) j.en
  else if j.st=4 then decide (j.en=j.sr+j.lm)&&decide (j.sr+j.lm≤now)else false)
set_option maxHeartbeats 2000000 in
set_option maxRecDepth 20000 in
theorem needRun_any {w:World} (p:Pj) (now:Int) (h1:0≤p.v.sb) (h2:p.v.sb≤1099511627776) (h3:now≤1099511627776) (h4:1≤p.v.lm) (h5:p.v.lm≤1048576):
  Calls Tryz.prog 147 #[pjV p,.int .i64 now] w fun e w'=>e=asksE (runB now p.v) 174∧Below w.heap.size w w':=by
 obtain⟨⟨ac,nd,lm,sb,st,sr,en,xs⟩,sa,sc⟩:=p
 unfold pjV
 dsimp only at h1 h2 h4 h5 ⊢
 have cF:=from_any
 have cQ:=need_any
 obtain⟨AV,hAV⟩:∃AV,asksE (runB now ⟨ac,nd,lm,sb,st,sr,en,xs⟩) 174=AV:=⟨_,rfl⟩
 have HAV:Hid (asksE (runB now ⟨ac,nd,lm,sb,st,sr,en,xs⟩) 174=AV):=hAV
 rw [hAV]
 clear hAV
 cases q1:fromB (sb+1) now sr with
 | false=>
  have HAA:Hid (AV=.panicked (thrown 174)):=by show AV=_;rw [← HAV.out];simp [runB,q1,asksE]
  have t:(false==true)=false:=rfl
  go_enter Tryz.func147,Tryz.ntmps147
  go_wp2_with (first | (go_at_call 104;refine(cF _ _ _ _).mono ?_;rintro e w1 ⟨rfl,rfl⟩;rw [q1]) | (go_at_call 103;refine(cQ _ _ _).mono ?_;rintro e w1 ⟨rfl,rfl⟩;(first | rw [t] | skip);first | rw [asksE_yes] | rw [asksE_no]))
  exact⟨rfl,HAA.out.symm,(Below.refl _ _).alloc (Nat.le_refl _) _⟩
 | true=>
  have hsr:sb+1≤sr∧sr≤now:=by simpa [fromB]using q1
  obtain⟨r1,r2⟩:=hsr
  by_cases s2:st=2
  ·subst s2
   have HA:Hid (AV=asksE (decide (en=0)&&decide (now<sr+lm)) 174):=by show AV=_;rw [← HAV.out];simp [runB,q1]
   by_cases e0:en=0
   ·subst e0
    replace HA:Hid (AV=asksE (decide (now<sr+lm)) 174):=by show AV=_;rw [HA.out];simp
    cases t:decide (now<sr+lm)with
    | false=>
     have HAA:Hid (AV=.panicked (thrown 174)):=by show AV=_;rw [HA.out];simp only [t];rfl
     go_enter Tryz.func147,Tryz.ntmps147
     go_wp2_with (first | (go_at_call 104;refine(cF _ _ _ _).mono ?_;rintro e w1 ⟨rfl,rfl⟩;rw [q1]) | (go_at_call 103;refine(cQ _ _ _).mono ?_;rintro e w1 ⟨rfl,rfl⟩;(first | rw [t] | skip);first | rw [asksE_yes] | rw [asksE_no]))
     exact⟨rfl,HAA.out.symm,(Below.refl _ _).alloc (Nat.le_refl _) _⟩
    | true=>
     have HAA:Hid (AV=.returned (.tuple #[])):=by show AV=_;rw [HA.out];simp only [t];rfl
     go_enter Tryz.func147,Tryz.ntmps147
     go_wp2_with (first | (go_at_call 104;refine(cF _ _ _ _).mono ?_;rintro e w1 ⟨rfl,rfl⟩;rw [q1]) | (go_at_call 103;refine(cQ _ _ _).mono ?_;rintro e w1 ⟨rfl,rfl⟩;(first | rw [t] | skip);first | rw [asksE_yes] | rw [asksE_no]))
     go_end0
     exact⟨HAA.out.symm,(Below.refl _ _).alloc (Nat.le_refl _) _⟩
   ·have HAA:Hid (AV=.panicked (thrown 174)):=by show AV=_;rw [HA.out,decide_eq_false e0];rfl
    have t:(false==true)=false:=rfl
    go_enter Tryz.func147,Tryz.ntmps147
    go_wp2_with (first | (go_at_call 104;refine(cF _ _ _ _).mono ?_;rintro e w1 ⟨rfl,rfl⟩;rw [q1]) | (go_at_call 103;refine(cQ _ _ _).mono ?_;rintro e w1 ⟨rfl,rfl⟩;(first | rw [t] | skip);first | rw [asksE_yes] | rw [asksE_no]))
    exact⟨rfl,HAA.out.symm,(Below.refl _ _).alloc (Nat.le_refl _) _⟩
  ·by_cases s3:st=3∨st=5
   ·have HA0:Hid (AV=asksE (fromB sr (min now (sr+lm - 1)) en) 174):=by show AV=_;rw [← HAV.out];simp [runB,q1,s2,s3]
    by_cases hm:sr+lm - 1<now
    ·have HA:Hid (AV=asksE (fromB sr (sr+lm - 1) en) 174):=by show AV=_;rw [HA0.out,show min now (sr+lm - 1)=sr+lm - 1 by omega]
     rcases s3 with s3 | s3
     ·subst s3
      cases t:fromB sr (sr+lm - 1) en with
      | false=>
       have HAA:Hid (AV=.panicked (thrown 174)):=by show AV=_;rw [HA.out];simp only [t];rfl
       go_enter Tryz.func147,Tryz.ntmps147
       go_wp2_with (first | (go_at_call 104;refine(cF _ _ _ _).mono ?_;rintro e w1 ⟨rfl,rfl⟩;(first | rw [q1] | rw [t])) | (go_at_call 103;refine(cQ _ _ _).mono ?_;rintro e w1 ⟨rfl,rfl⟩;(first | rw [t] | skip);first | rw [asksE_yes] | rw [asksE_no]))
       exact⟨rfl,HAA.out.symm,(Below.refl _ _).alloc (Nat.le_refl _) _⟩
      | true=>
       have HAA:Hid (AV=.returned (.tuple #[])):=by show AV=_;rw [HA.out];simp only [t];rfl
       go_enter Tryz.func147,Tryz.ntmps147
       go_wp2_with (first | (go_at_call 104;refine(cF _ _ _ _).mono ?_;rintro e w1 ⟨rfl,rfl⟩;(first | rw [q1] | rw [t])) | (go_at_call 103;refine(cQ _ _ _).mono ?_;rintro e w1 ⟨rfl,rfl⟩;(first | rw [t] | skip);first | rw [asksE_yes] | rw [asksE_no]))
       go_end0
       exact⟨HAA.out.symm,(Below.refl _ _).alloc (Nat.le_refl _) _⟩
     ·subst s3
      cases t:fromB sr (sr+lm - 1) en with
      | false=>
       have HAA:Hid (AV=.panicked (thrown 174)):=by show AV=_;rw [HA.out];simp only [t];rfl
       go_enter Tryz.func147,Tryz.ntmps147
       go_wp2_with (first | (go_at_call 104;refine(cF _ _ _ _).mono ?_;rintro e w1 ⟨rfl,rfl⟩;(first | rw [q1] | rw [t])) | (go_at_call 103;refine(cQ _ _ _).mono ?_;rintro e w1 ⟨rfl,rfl⟩;(first | rw [t] | skip);first | rw [asksE_yes] | rw [asksE_no]))
       exact⟨rfl,HAA.out.symm,(Below.refl _ _).alloc (Nat.le_refl _) _⟩
      | true=>
       have HAA:Hid (AV=.returned (.tuple #[])):=by show AV=_;rw [HA.out];simp only [t];rfl
       go_enter Tryz.func147,Tryz.ntmps147
       go_wp2_with (first | (go_at_call 104;refine(cF _ _ _ _).mono ?_;rintro e w1 ⟨rfl,rfl⟩;(first | rw [q1] | rw [t])) | (go_at_call 103;refine(cQ _ _ _).mono ?_;rintro e w1 ⟨rfl,rfl⟩;(first | rw [t] | skip);first | rw [asksE_yes] | rw [asksE_no]))
       go_end0
       exact⟨HAA.out.symm,(Below.refl _ _).alloc (Nat.le_refl _) _⟩
    ·have HA:Hid (AV=asksE (fromB sr now en) 174):=by show AV=_;rw [HA0.out,show min now (sr+lm - 1)=now by omega]
     rcases s3 with s3 | s3
     ·subst s3
      cases t:fromB sr now en with
      | false=>
       have HAA:Hid (AV=.panicked (thrown 174)):=by show AV=_;rw [HA.out];simp only [t];rfl
       go_enter Tryz.func147,Tryz.ntmps147
       go_wp2_with (first | (go_at_call 104;refine(cF _ _ _ _).mono ?_;rintro e w1 ⟨rfl,rfl⟩;(first | rw [q1] | rw [t])) | (go_at_call 103;refine(cQ _ _ _).mono ?_;rintro e w1 ⟨rfl,rfl⟩;(first | rw [t] | skip);first | rw [asksE_yes] | rw [asksE_no]))
       exact⟨rfl,HAA.out.symm,(Below.refl _ _).alloc (Nat.le_refl _) _⟩
      | true=>
       have HAA:Hid (AV=.returned (.tuple #[])):=by show AV=_;rw [HA.out];simp only [t];rfl
       go_enter Tryz.func147,Tryz.ntmps147
       go_wp2_with (first | (go_at_call 104;refine(cF _ _ _ _).mono ?_;rintro e w1 ⟨rfl,rfl⟩;(first | rw [q1] | rw [t])) | (go_at_call 103;refine(cQ _ _ _).mono ?_;rintro e w1 ⟨rfl,rfl⟩;(first | rw [t] | skip);first | rw [asksE_yes] | rw [asksE_no]))
       go_end0
       exact⟨HAA.out.symm,(Below.refl _ _).alloc (Nat.le_refl _) _⟩
     ·subst s3
      cases t:fromB sr now en with
      | false=>
       have HAA:Hid (AV=.panicked (thrown 174)):=by show AV=_;rw [HA.out];simp only [t];rfl
       go_enter Tryz.func147,Tryz.ntmps147
       go_wp2_with (first | (go_at_call 104;refine(cF _ _ _ _).mono ?_;rintro e w1 ⟨rfl,rfl⟩;(first | rw [q1] | rw [t])) | (go_at_call 103;refine(cQ _ _ _).mono ?_;rintro e w1 ⟨rfl,rfl⟩;(first | rw [t] | skip);first | rw [asksE_yes] | rw [asksE_no]))
       exact⟨rfl,HAA.out.symm,(Below.refl _ _).alloc (Nat.le_refl _) _⟩
      | true=>
       have HAA:Hid (AV=.returned (.tuple #[])):=by show AV=_;rw [HA.out];simp only [t];rfl
       go_enter Tryz.func147,Tryz.ntmps147
       go_wp2_with (first | (go_at_call 104;refine(cF _ _ _ _).mono ?_;rintro e w1 ⟨rfl,rfl⟩;(first | rw [q1] | rw [t])) | (go_at_call 103;refine(cQ _ _ _).mono ?_;rintro e w1 ⟨rfl,rfl⟩;(first | rw [t] | skip);first | rw [asksE_yes] | rw [asksE_no]))
       go_end0
       exact⟨HAA.out.symm,(Below.refl _ _).alloc (Nat.le_refl _) _⟩
   ·by_cases s4:st=4
    ·subst s4
     have HA:Hid (AV=asksE (decide (en=sr+lm)&&decide (sr+lm≤now)) 174):=by show AV=_;rw [← HAV.out];simp [runB,q1]
     by_cases e0:en=sr+lm
     ·replace HA:Hid (AV=asksE (decide (sr+lm≤now)) 174):=by show AV=_;rw [HA.out,decide_eq_true e0];rfl
      cases t:decide (sr+lm≤now)with
      | false=>
       have HAA:Hid (AV=.panicked (thrown 174)):=by show AV=_;rw [HA.out];simp only [t];rfl
       go_enter Tryz.func147,Tryz.ntmps147
       go_wp2_with (first | (go_at_call 104;refine(cF _ _ _ _).mono ?_;rintro e w1 ⟨rfl,rfl⟩;rw [q1]) | (go_at_call 103;refine(cQ _ _ _).mono ?_;rintro e w1 ⟨rfl,rfl⟩;(first | rw [t] | skip);first | rw [asksE_yes] | rw [asksE_no]))
       exact⟨rfl,HAA.out.symm,(Below.refl _ _).alloc (Nat.le_refl _) _⟩
      | true=>
       have HAA:Hid (AV=.returned (.tuple #[])):=by show AV=_;rw [HA.out];simp only [t];rfl
       go_enter Tryz.func147,Tryz.ntmps147
       go_wp2_with (first | (go_at_call 104;refine(cF _ _ _ _).mono ?_;rintro e w1 ⟨rfl,rfl⟩;rw [q1]) | (go_at_call 103;refine(cQ _ _ _).mono ?_;rintro e w1 ⟨rfl,rfl⟩;(first | rw [t] | skip);first | rw [asksE_yes] | rw [asksE_no]))
       go_end0
       exact⟨HAA.out.symm,(Below.refl _ _).alloc (Nat.le_refl _) _⟩
     ·have HAA:Hid (AV=.panicked (thrown 174)):=by show AV=_;rw [HA.out,decide_eq_false e0];rfl
      have t:(false==true)=false:=rfl
      go_enter Tryz.func147,Tryz.ntmps147
      go_wp2_with (first | (go_at_call 104;refine(cF _ _ _ _).mono ?_;rintro e w1 ⟨rfl,rfl⟩;rw [q1]) | (go_at_call 103;refine(cQ _ _ _).mono ?_;rintro e w1 ⟨rfl,rfl⟩;(first | rw [t] | skip);first | rw [asksE_yes] | rw [asksE_no]))
      exact⟨rfl,HAA.out.symm,(Below.refl _ _).alloc (Nat.le_refl _) _⟩
    ·have HAA:Hid (AV=.panicked (thrown 174)):=by show AV=_;rw [← HAV.out];simp [runB,q1,s2,s3,s4,asksE]
     have t:(false==true)=false:=rfl
     have s5:¬st=3:=fun e=>s3 (.inl e)
     have s6:¬st=5:=fun e=>s3 (.inr e)
     clear s3
     go_enter Tryz.func147,Tryz.ntmps147
     go_wp2_with (first | (go_at_call 104;refine(cF _ _ _ _).mono ?_;rintro e w1 ⟨rfl,rfl⟩;rw [q1]) | (go_at_call 103;refine(cQ _ _ _).mono ?_;rintro e w1 ⟨rfl,rfl⟩;(first | rw [t] | skip);first | rw [asksE_yes] | rw [asksE_no]))
     exact⟨rfl,HAA.out.symm,(Below.refl _ _).alloc (Nat.le_refl _) _⟩
def timB (now:Int) (j:Jv):Bool:=if j.st=1 then decide (j.sr=0)&&decide (j.en=0)else if j.st=6 then decide (j.sr=0)&&fromB j.sb now j.en else runB now j
set_option maxHeartbeats 2000000 in
set_option maxRecDepth 20000 in
theorem needTimes_any {w:World} (p:Pj) (now:Int) (h1:0≤p.v.sb) (h2:p.v.sb≤1099511627776) (h3:now≤1099511627776) (h4:1≤p.v.lm) (h5:p.v.lm≤1048576):
  Calls Tryz.prog 106 #[pjV p,.int .i64 now] w fun e w'=>e=asksE (timB now p.v) 174∧Below w.heap.size w w':=by
 have cR:∀x,Calls Tryz.prog 147 #[pjV p,.int .i64 now] x fun e w'=>e=asksE (runB now p.v) 174∧Below x.heap.size x w':=fun x=>needRun_any p now h1 h2 h3 h4 h5
 obtain⟨⟨ac,nd,lm,sb,st,sr,en,xs⟩,sa,sc⟩:=p
 unfold pjV at *
 dsimp only at cR ⊢
 have cF:=from_any
 have cQ:=need_any
 obtain⟨RV,hRV⟩:∃RV,runB now ⟨ac,nd,lm,sb,st,sr,en,xs⟩=RV:=⟨_,rfl⟩
 have HRV:Hid (runB now ⟨ac,nd,lm,sb,st,sr,en,xs⟩=RV):=hRV
 rw [hRV]at cR
 obtain⟨AV,hAV⟩:∃AV,asksE (timB now ⟨ac,nd,lm,sb,st,sr,en,xs⟩) 174=AV:=⟨_,rfl⟩
 have HAV:Hid (asksE (timB now ⟨ac,nd,lm,sb,st,sr,en,xs⟩) 174=AV):=hAV
 rw [hAV]
 clear hAV hRV h1 h2 h3 h4 h5
 by_cases s1:st=1
 ·subst s1
  have HA:Hid (AV=asksE (decide (sr=0)&&decide (en=0)) 174):=by show AV=_;rw [← HAV.out];simp [timB]
  by_cases e0:sr=0
  ·subst e0
   replace HA:Hid (AV=asksE (decide (en=0)) 174):=by show AV=_;rw [HA.out];simp
   by_cases e1:en=0
   ·subst e1
    have HAA:Hid (AV=.returned (.tuple #[])):=by show AV=_;rw [HA.out];rfl
    have t:(false==true)=false:=rfl
    go_enter Tryz.func106,Tryz.ntmps106
    go_wp2_with (first | (go_at_call 104;refine(cF _ _ _ _).mono ?_;rintro e w1 ⟨rfl,rfl⟩;rw [t]) | (go_at_call 103;refine(cQ _ _ _).mono ?_;rintro e w1 ⟨rfl,rfl⟩;(first | rw [t] | skip);first | rw [asksE_yes] | rw [asksE_no]))
    go_end0
    exact⟨HAA.out.symm,(Below.refl _ _).alloc (Nat.le_refl _) _⟩
   ·have HAA:Hid (AV=.panicked (thrown 174)):=by show AV=_;rw [HA.out,decide_eq_false e1];rfl
    have t:(en==0)=false:=beq_eq_false_iff_ne.2 e1
    go_enter Tryz.func106,Tryz.ntmps106
    go_wp2_with (first | (go_at_call 104;refine(cF _ _ _ _).mono ?_;rintro e w1 ⟨rfl,rfl⟩;rw [t]) | (go_at_call 103;refine(cQ _ _ _).mono ?_;rintro e w1 ⟨rfl,rfl⟩;(first | rw [t] | skip);first | rw [asksE_yes] | rw [asksE_no]))
    exact⟨rfl,HAA.out.symm,(Below.refl _ _).alloc (Nat.le_refl _) _⟩
  ·have HAA:Hid (AV=.panicked (thrown 174)):=by show AV=_;rw [HA.out,decide_eq_false e0];rfl
   have t:(false==true)=false:=rfl
   go_enter Tryz.func106,Tryz.ntmps106
   go_wp2_with (first | (go_at_call 104;refine(cF _ _ _ _).mono ?_;rintro e w1 ⟨rfl,rfl⟩;rw [t]) | (go_at_call 103;refine(cQ _ _ _).mono ?_;rintro e w1 ⟨rfl,rfl⟩;(first | rw [t] | skip);first | rw [asksE_yes] | rw [asksE_no]))
   exact⟨rfl,HAA.out.symm,(Below.refl _ _).alloc (Nat.le_refl _) _⟩
 ·by_cases s6:st=6
  ·subst s6
   have HA:Hid (AV=asksE (decide (sr=0)&&fromB sb now en) 174):=by show AV=_;rw [← HAV.out];simp [timB]
   by_cases e0:sr=0
   ·subst e0
    replace HA:Hid (AV=asksE (fromB sb now en) 174):=by show AV=_;rw [HA.out];simp
    cases t:fromB sb now en with
    | false=>
     have HAA:Hid (AV=.panicked (thrown 174)):=by show AV=_;rw [HA.out];simp only [t];rfl
     go_enter Tryz.func106,Tryz.ntmps106
     go_wp2_with (first | (go_at_call 104;refine(cF _ _ _ _).mono ?_;rintro e w1 ⟨rfl,rfl⟩;rw [t]) | (go_at_call 103;refine(cQ _ _ _).mono ?_;rintro e w1 ⟨rfl,rfl⟩;(first | rw [t] | skip);first | rw [asksE_yes] | rw [asksE_no]))
     exact⟨rfl,HAA.out.symm,(Below.refl _ _).alloc (Nat.le_refl _) _⟩
    | true=>
     have HAA:Hid (AV=.returned (.tuple #[])):=by show AV=_;rw [HA.out];simp only [t];rfl
     go_enter Tryz.func106,Tryz.ntmps106
     go_wp2_with (first | (go_at_call 104;refine(cF _ _ _ _).mono ?_;rintro e w1 ⟨rfl,rfl⟩;rw [t]) | (go_at_call 103;refine(cQ _ _ _).mono ?_;rintro e w1 ⟨rfl,rfl⟩;(first | rw [t] | skip);first | rw [asksE_yes] | rw [asksE_no]))
     go_end0
     exact⟨HAA.out.symm,(Below.refl _ _).alloc (Nat.le_refl _) _⟩
   ·have HAA:Hid (AV=.panicked (thrown 174)):=by show AV=_;rw [HA.out,decide_eq_false e0];rfl
    have t:(false==true)=false:=rfl
    go_enter Tryz.func106,Tryz.ntmps106
    go_wp2_with (first | (go_at_call 104;refine(cF _ _ _ _).mono ?_;rintro e w1 ⟨rfl,rfl⟩;rw [t]) | (go_at_call 103;refine(cQ _ _ _).mono ?_;rintro e w1 ⟨rfl,rfl⟩;(first | rw [t] | skip);first | rw [asksE_yes] | rw [asksE_no]))
    exact⟨rfl,HAA.out.symm,(Below.refl _ _).alloc (Nat.le_refl _) _⟩
  ·have HA:Hid (AV=asksE RV 174):=by show AV=_;rw [← HAV.out,←HRV.out];simp [timB,s1,s6]
   cases RV with
   | false=>
    have HAA:Hid (AV=.panicked (thrown 174)):=by show AV=_;rw [HA.out];rfl
    rw [asksE_no]at cR
    go_enter Tryz.func106,Tryz.ntmps106
    go_wp2_with (go_at_call 147;refine(cR _).mono ?_;rintro e w1 ⟨rfl,hb⟩)
    exact⟨rfl,HAA.out.symm,((Below.refl _ w).alloc (Nat.le_refl _) _).trans (hb.mono (by simp))⟩
   | true=>
    have HAA:Hid (AV=.returned (.tuple #[])):=by show AV=_;rw [HA.out];rfl
    rw [asksE_yes]at cR
    go_enter Tryz.func106,Tryz.ntmps106
    go_wp2_with (go_at_call 147;refine(cR _).mono ?_;rintro e w1 ⟨rfl,hb⟩)
    go_end0
    exact⟨HAA.out.symm,((Below.refl _ w).alloc (Nat.le_refl _) _).trans (hb.mono (by simp))⟩
end Go.Proofs.YtceoibfliggalaaGreatDoor
namespace Go.Proofs.YtceoibfliggalaaGreatDoor
open Go.RowKit Wd Tr Cg Lg
namespace Nd
def nthI (xs:List Int) (j:Nat):Int:=xs.getD j 0
theorem nthI_at {xs:List Int} {j:Nat} {x:Int} (h:xs[j]?=some x):nthI xs j=x:=by simp [nthI,h]
theorem setB_iff (n:Nat) (f:Nat→Int):∀m,setB n f m=true↔(∀j,j<m→0≤f j∧f j<n)∧∀j,j+1<m→f j<f (j+1)
 | 0=>by simp [setB]
 | m+1=>by
  simp only [setB,Bool.and_eq_true,Bool.or_eq_true,decide_eq_true_eq,setB_iff n f m]
  constructor
  ·rintro ⟨⟨⟨h1,h2⟩,h3⟩,h4⟩
   refine⟨fun j hj=>?_,fun j hj=>?_⟩
   ·by_cases e:j=m
    ·subst e;exact h3
    ·exact h1 j (by omega)
   ·by_cases e:j+1=m
    ·subst e;rcases h4 with h4 | h4
     ·omega
     ·exact h4
    ·exact h2 j (by omega)
  ·rintro ⟨h1,h2⟩
   refine⟨⟨⟨fun j hj=>h1 j (by omega),fun j hj=>h2 j (by omega)⟩,h1 m (by omega)⟩,?_⟩
   rcases m with _ | m
   ·exact .inl rfl
   ·exact .inr (h2 m (by omega))
theorem adj_lt {f:Nat→Int} {m:Nat} (h:∀j,j+1<m→f j<f (j+1)):∀d i,i+d+1<m→f i<f (i+d+1)
 | 0,i,hi=>h i hi
 | d+1,i,hi=>Int.lt_trans (adj_lt h d i (by omega)) (h (i+d+1) (by omega))
theorem setB_rise (n:Nat) (xs:List Int):setB n (nthI xs) xs.length=riseB n (-1) xs:=by
 rw [Bool.eq_iff_iff,setB_iff,rise_iff]
 constructor
 ·rintro ⟨h1,h2⟩
  refine⟨fun x hx=>?_,List.pairwise_iff_getElem.2 fun i j hi hj hij=>?_⟩
  ·obtain ⟨k,hk⟩:=List.getElem?_of_mem hx
   have h3:=h1 k (List.getElem?_eq_some_iff.1 hk).1
   rw [nthI_at hk]at h3
   omega
  ·have h3:=adj_lt h2 (j - i - 1) i (by omega)
   rw [show i+(j - i - 1)+1=j by omega,nthI_at (List.getElem?_eq_getElem hi),nthI_at (List.getElem?_eq_getElem hj)]at h3
   exact h3
 ·rintro ⟨h1,h2⟩
  refine⟨fun j hj=>?_,fun j hj=>?_⟩
  ·have h3:=h1 xs[j] (List.getElem_mem hj)
   rw [nthI_at (List.getElem?_eq_getElem hj)]
   omega
  ·rw [nthI_at (List.getElem?_eq_getElem (by omega:j<xs.length)),nthI_at (List.getElem?_eq_getElem hj)]
   exact List.pairwise_iff_getElem.1 h2 j (j+1) (by omega) hj (by omega)
theorem allB_iff (F:Nat) (f:Nat→Int) (fr:Bool):∀m,allB F f fr m=true↔∀j,j<m→(decide (0≤f j)&&F.testBit (f j).toNat)=fr
 | 0=>by simp [allB]
 | m+1=>by
  simp only [allB,Bool.and_eq_true,beq_iff_eq,allB_iff F f fr m]
  constructor
  ·rintro ⟨h1,h2⟩ j hj
   by_cases e:j=m
   ·subst e;exact h2
   ·exact h1 j (by omega)
  ·intro h
   exact⟨fun j hj=>h j (by omega),h m (by omega)⟩
theorem allB_mem (F:Nat) (xs:List Int) (fr:Bool) (h0:∀x∈xs,0≤x):allB F (nthI xs) fr xs.length=true↔∀x∈xs,F.testBit x.toNat=fr:=by
 rw [allB_iff]
 constructor
 ·intro h x hx
  obtain⟨k,hk⟩:=List.getElem?_of_mem hx
  have h1:=h k (List.getElem?_eq_some_iff.1 hk).1
  rw [nthI_at hk,decide_eq_true (h0 x hx),Bool.true_and]at h1
  exact h1
 ·intro h j hj
  have hm:=List.getElem_mem hj
  rw [nthI_at (List.getElem?_eq_getElem hj),decide_eq_true (h0 _ hm),Bool.true_and]
  exact h _ hm
theorem flip_bit (F:Nat) (xs:List Int) (h0:∀x∈xs,0≤x) (hp:xs.Pairwise (· < ·)) (k:Nat):∀m,m≤xs.length→(flipF F (nthI xs) m).testBit k=(F.testBit k ^^ decide ((k:Int)∈xs.take m))
 | 0,_=>by simp [flipF]
 | m+1,hm=>by
  have hx:=List.getElem?_eq_getElem (show m<xs.length by omega)
  have hpos:=h0 _ (List.getElem_mem (show m<xs.length by omega))
  have hnot:xs[m]∉xs.take m:=by
   intro h
   obtain⟨i,hi,he⟩:=List.mem_iff_getElem.1 h
   rw [List.length_take]at hi
   rw [List.getElem_take]at he
   have:=List.pairwise_iff_getElem.1 hp i m (by omega) (by omega) (by omega)
   omega
  rw [flipF,Nat.testBit_xor,flip_bit F xs h0 hp k m (by omega),Nat.testBit_two_pow,nthI_at hx,List.take_succ_eq_append_getElem (by omega)]
  by_cases e:(k:Int)=xs[m]
  ·have e1:xs[m].toNat=k:=by omega
   rw [← e]at hnot
   rw [decide_eq_false hnot,decide_eq_true e1,decide_eq_true (by rw [e];exact List.mem_append_right _ (List.mem_singleton.2 rfl))]
   simp
  ·have e1:¬xs[m].toNat=k:=by omega
   rw [decide_eq_false e1]
   have:decide ((k:Int)∈xs.take m++ [xs[m]])=decide ((k:Int)∈xs.take m):=by
    congr 1
    rw [List.mem_append,List.mem_singleton]
    exact propext ⟨fun h=>h.elim id (fun h=>absurd h e),.inl⟩
   rw [this]
   simp
theorem rise_pos {n:Int} {xs:List Int} (h:riseB n (-1) xs=true):∀x∈xs,0≤x:=fun x hx=>by have:=rise_mem h x hx;omega
theorem claim_ok {n F:Nat} {xs:List Int} (h:riseB n (-1) xs=true) (hf:∀x∈xs,F.testBit x.toNat=true):turnE n F (nthI xs) xs.length true=0∧∀k,(turnF n F (nthI xs) xs.length true).testBit k=(F.testBit k&& !decide ((k:Int)∈xs)):=by
 have e1:setB n (nthI xs) xs.length=true:=by rw [setB_rise];exact h
 have e2:allB F (nthI xs) true xs.length=true:=(allB_mem F xs true (rise_pos h)).2 hf
 refine⟨by simp [turnE,e1,e2],fun k=>?_⟩
 simp only [turnF,e1,e2,if_true]
 rw [flip_bit F xs (rise_pos h) (rise_up h) k _ (Nat.le_refl _),List.take_of_length_le (Nat.le_refl _)]
 by_cases hk:(k:Int)∈xs
 ·have:=hf _ hk
  rw [Int.toNat_natCast]at this
  rw [this,decide_eq_true hk];rfl
 ·rw [decide_eq_false hk];simp
theorem claim_no {n F:Nat} {xs:List Int} (h:riseB n (-1) xs=false∨∃x∈xs,F.testBit x.toNat=false):turnE n F (nthI xs) xs.length true≠0:=by
 unfold turnE
 rw [setB_rise]
 cases hr:riseB n (-1) xs with
 | false=>simp
 | true=>
  rcases h with h | ⟨x,hx,h⟩
  ·rw [hr]at h;cases h
  ·have:allB F (nthI xs) true xs.length=false:=by
    cases ha:allB F (nthI xs) true xs.length with
    | false=>rfl
    | true=>have:=(allB_mem F xs true (rise_pos hr)).1 ha x hx;rw [h]at this;cases this
   simp [this]
theorem give_ok {n F:Nat} {xs:List Int} (h:riseB n (-1) xs=true) (hf:∀x∈xs,F.testBit x.toNat=false) (k:Nat):(turnF n F (nthI xs) xs.length false).testBit k=(F.testBit k||decide ((k:Int)∈xs)):=by
 have e1:setB n (nthI xs) xs.length=true:=by rw [setB_rise];exact h
 have e2:allB F (nthI xs) false xs.length=true:=(allB_mem F xs false (rise_pos h)).2 hf
 simp only [turnF,e1,e2,if_true]
 rw [flip_bit F xs (rise_pos h) (rise_up h) k _ (Nat.le_refl _),List.take_of_length_le (Nat.le_refl _)]
 by_cases hk:(k:Int)∈xs
 ·have:=hf _ hk
  rw [Int.toNat_natCast]at this
  rw [this,decide_eq_true hk];rfl
 ·rw [decide_eq_false hk];simp
theorem full_free {n:Nat} {xs:List Int} (h:riseB n (-1) xs=true):∀x∈xs,(2^n - 1).testBit x.toNat=true:=fun x hx=>by
 have:=rise_mem h x hx
 rw [full_bit,decide_eq_true (by omega)]
end Nd
section
variable {x:World} {mb n F:Nat} {sa:Option Addr} {xs:List Int} {sc:Nat}
theorem ints_by (hI:IntsAt x sa xs) (hlow:∀ad,sa=some ad→0<xs.length→ad.block<mb):∃g o,(0<xs.length→sa=some ⟨g,o,none⟩)∧g≠mb∧∀j,j<xs.length→x.cell? ⟨g,o+j,none⟩=some (.int .i64 (Nd.nthI xs j)):=by
 obtain⟨g,o,hg,hc⟩:=hI
 by_cases h:0<xs.length
 ·have e:=hg h
  refine⟨g,o,hg,Nat.ne_of_lt (hlow _ e h),fun j hj=>?_⟩
  rw [Nd.nthI_at (List.getElem?_eq_getElem hj)]
  exact hc j _ (List.getElem?_eq_getElem hj)
 ·exact ⟨mb+1,0,fun e=>absurd e h,by omega,fun j hj=>by omega⟩
theorem claim_ints (hS:Nd.SetIn x mb n F) (hI:IntsAt x sa xs) (hlow:∀ad,sa=some ad→0<xs.length→ad.block<mb) (hl:xs.length≤140737488355328):
  Calls Tryz.prog 97 #[.pointer (some ⟨mb,0,none⟩),.slice sa xs.length sc] x fun e x'=>e=.returned (.int .i64 (Nd.turnE n F (Nd.nthI xs) xs.length true))∧Nd.SetIn x' mb n (Nd.turnF n F (Nd.nthI xs) xs.length true)∧Chg (fun i=>i=mb) x x':=by
 obtain⟨g,o,h1,h2,h3⟩:=ints_by hI hlow
 refine(Nd.claim_any mb n F g o xs.length sc sa (Nd.nthI xs) x hS h1 h2 hl h3).mono ?_
 rintro e w' ⟨rfl,a,b⟩
 exact⟨rfl,a,gr_chg b⟩
theorem give_ints (hS:Nd.SetIn x mb n F) (hI:IntsAt x sa xs) (hlow:∀ad,sa=some ad→0<xs.length→ad.block<mb) (hl:xs.length≤140737488355328):
  Calls Tryz.prog 110 #[.pointer (some ⟨mb,0,none⟩),.slice sa xs.length sc] x fun e x'=>e=.returned (.int .i64 (Nd.turnE n F (Nd.nthI xs) xs.length false))∧Nd.SetIn x' mb n (Nd.turnF n F (Nd.nthI xs) xs.length false)∧Chg (fun i=>i=mb) x x':=by
 obtain⟨g,o,h1,h2,h3⟩:=ints_by hI hlow
 refine(Nd.give_any mb n F g o xs.length sc sa (Nd.nthI xs) x hS h1 h2 hl h3).mono ?_
 rintro e w' ⟨rfl,a,b⟩
 exact⟨rfl,a,gr_chg b⟩
end
end Go.Proofs.YtceoibfliggalaaGreatDoor
namespace Go.Proofs.YtceoibfliggalaaGreatDoor
open Go.RowKit Wd Tr Cg Lg
theorem machine_any {w:World} (c:Cf) (n:Nat) (hn:c.nodes=(n:Int)) (h1:1≤n) (h2:n≤256):Calls Tryz.prog 108 #[cfV c] w fun e w'=>∃mb,e=.returned (.pointer (some ⟨mb,0,none⟩))∧Nd.SetIn w' mb n (2^n - 1)∧Below w.heap.size w w'∧w.heap.size≤mb:=by
 have cN:=fun x=>Nd.new_yes n x h1 h2
 unfold cfV
 rw [hn]
 clear hn
 go_enter Tryz.func108,Tryz.ntmps108
 go_wp2_with (go_at_call 93;refine(cN _).mono ?_;rintro e w1 ⟨rfl,hs,hb⟩)
 go_ret
 have hz:(w.alloc (.cells #[.int .i64 (n:Int),.int .i64 c.queue,.int .i64 c.limit,.int .i64 c.age,.int .i64 c.fair,.int .i64 c.size,.int .i64 c.period,.int .i64 c.half] 23)).heap.size=w.heap.size+1:=by simp
 rw [hz]at hs
 exact⟨_,rfl,hs,((Below.refl _ w).alloc (Nat.le_refl _) _).trans (hb.mono (by simp)),by omega⟩
def setsB (n:Int) (j:Jv):Bool:=decide ((j.set.length:Int)=if startB j.st then j.nd else 0)&&riseB n (-1) j.set
set_option maxHeartbeats 2000000 in
set_option maxRecDepth 20000 in
theorem needSet_any {w:World} (c:Cf) (p:Pj) (n:Nat) (hn:c.nodes=(n:Int)) (h1:1≤n) (h2:n≤256) (hI:IntsAt w p.sa p.v.set) (hl:p.v.set.length≤140737488355328):
  Calls Tryz.prog 107 #[pjV p,cfV c] w fun e w'=>e=asksE (setsB c.nodes p.v) 174∧Below w.heap.size w w':=by
 have cS:∀x,Calls Tryz.prog 148 #[pjV p] x fun e w'=>e=.returned (.bool (startB p.v.st))∧Below x.heap.size x w':=fun x=>started_any p
 have cM:∀x,Calls Tryz.prog 108 #[cfV c] x fun e w'=>∃mb,e=.returned (.pointer (some ⟨mb,0,none⟩))∧Nd.SetIn w' mb n (2^n - 1)∧Below x.heap.size x w'∧x.heap.size≤mb:=fun x=>machine_any c n hn h1 h2
 have HLOW:Hid (∀ad,p.sa=some ad→0<p.v.set.length→ad.block<w.heap.size):=by
  intro ad e hp
  obtain⟨g,o,hg,hc⟩:=hI
  have e2:=hg hp
  rw [e]at e2
  cases e2
  exact World.block_lt_of_cell? w ⟨g,o+0,none⟩ (hc 0 _ (List.getElem?_eq_getElem hp))
 have HI:Hid (IntsAt w p.sa p.v.set):=hI
 have HN:Hid (c.nodes=(n:Int)):=hn
 clear hn
 obtain⟨⟨ac,nd,lm,sb,st,sr,en,xs⟩,sa,sc⟩:=p
 unfold pjV cfV at *
 dsimp only at cS cM HLOW HI hl ⊢
 have cQ:=need_any
 obtain⟨AV,hAV⟩:∃AV,asksE (setsB c.nodes ⟨ac,nd,lm,sb,st,sr,en,xs⟩) 174=AV:=⟨_,rfl⟩
 have HAV:Hid (asksE (setsB c.nodes ⟨ac,nd,lm,sb,st,sr,en,xs⟩) 174=AV):=hAV
 rw [hAV]
 clear hAV hI
 obtain⟨many,hmany⟩:∃many,(if startB st then nd else 0)=many:=⟨_,rfl⟩
 have HMANY:Hid ((if startB st then nd else 0)=many):=hmany
 have HAV2:Hid (AV=asksE (decide ((xs.length:Int)=many)&&riseB c.nodes (-1) xs) 174):=by show AV=_;rw [← HAV.out,←hmany];rfl
 clear hmany HAV
 have HL:Hid (xs.length≤140737488355328):=hl
 clear hl
 obtain⟨W,hW⟩:∃W,(w.alloc (.cells #[.int .i64 ac,.int .i64 nd,.int .i64 lm,.int .i64 sb,.int .i64 st,.int .i64 sr,.int .i64 en,.slice sa xs.length sc] 55)).alloc (.cells #[.int .i64 c.nodes,.int .i64 c.queue,.int .i64 c.limit,.int .i64 c.age,.int .i64 c.fair,.int .i64 c.size,.int .i64 c.period,.int .i64 c.half] 23)=W:=⟨_,rfl⟩
 have HBW:Hid (Below w.heap.size w W):=by rw [← hW];exact((Below.refl _ w).alloc (Nat.le_refl _) _).alloc (by simp) _
 have j0:W.cell? ⟨w.heap.size,0,none⟩=some (.int .i64 ac):=by rw [← hW];simp
 have j1:W.cell? ⟨w.heap.size,1,none⟩=some (.int .i64 nd):=by rw [← hW];simp
 have j2:W.cell? ⟨w.heap.size,2,none⟩=some (.int .i64 lm):=by rw [← hW];simp
 have j3:W.cell? ⟨w.heap.size,3,none⟩=some (.int .i64 sb):=by rw [← hW];simp
 have j4:W.cell? ⟨w.heap.size,4,none⟩=some (.int .i64 st):=by rw [← hW];simp
 have j5:W.cell? ⟨w.heap.size,5,none⟩=some (.int .i64 sr):=by rw [← hW];simp
 have j6:W.cell? ⟨w.heap.size,6,none⟩=some (.int .i64 en):=by rw [← hW];simp
 have j7:W.cell? ⟨w.heap.size,7,none⟩=some (.slice sa xs.length sc):=by rw [← hW];simp
 have k0:W.cell? ⟨w.heap.size+1,0,none⟩=some (.int .i64 c.nodes):=by rw [← hW];simp
 have k1:W.cell? ⟨w.heap.size+1,1,none⟩=some (.int .i64 c.queue):=by rw [← hW];simp
 have k2:W.cell? ⟨w.heap.size+1,2,none⟩=some (.int .i64 c.limit):=by rw [← hW];simp
 have k3:W.cell? ⟨w.heap.size+1,3,none⟩=some (.int .i64 c.age):=by rw [← hW];simp
 have k4:W.cell? ⟨w.heap.size+1,4,none⟩=some (.int .i64 c.fair):=by rw [← hW];simp
 have k5:W.cell? ⟨w.heap.size+1,5,none⟩=some (.int .i64 c.size):=by rw [← hW];simp
 have k6:W.cell? ⟨w.heap.size+1,6,none⟩=some (.int .i64 c.period):=by rw [← hW];simp
 have k7:W.cell? ⟨w.heap.size+1,7,none⟩=some (.int .i64 c.half):=by rw [← hW];simp
 go_enter Tryz.func107,Tryz.ntmps107
 go_upto_region 2 with fail
 try rw [hW]
 clear hW
 go_upto_region 2 with fail
 go_cut [6] (fun v x=>v=.bool (startB st)∧Below W.heap.size W x)
 case first=>
  go_wp2_with (go_at_call 148;refine(cS _).mono ?_;rintro e w1 ⟨rfl,hb⟩)
  go_meet
  exact⟨rfl,hb⟩
 case rest=>
 obtain⟨rfl,hx1⟩:=hcut
 have HX1:Hid (Below W.heap.size W wc):=hx1
 have q1:=cellB hx1 j1
 clear hx1
 obtain⟨V,hV⟩:∃V:World,V=wc:=⟨_,rfl⟩
 rw [← hV]at HX1 q1
 rw [← hV]
 clear hV
 go_upto_if 6 with fail
 go_cut [4] (fun v x=>v=.int .i64 many∧V=x)
 case first=>
  cases hs:startB st with
  | true=>
   have HM:Hid (nd=many):=by show nd=many;rw [← HMANY.out,hs];rfl
   clear hs
   go_wp2
   go_meet
   exact⟨by rw [HM.out],rfl⟩
  | false=>
   have HM:Hid (0=many):=by show 0=many;rw [← HMANY.out,hs];rfl
   clear hs
   go_wp2
   go_meet
   exact⟨by rw [HM.out],rfl⟩
 case rest=>
 obtain⟨rfl,hx⟩:=hcut
 rw [← hx]
 clear hx q1
 replace j0:=cellB HX1.out j0
 replace k0:=cellB HX1.out k0
 replace j1:=cellB HX1.out j1
 replace k1:=cellB HX1.out k1
 replace j2:=cellB HX1.out j2
 replace k2:=cellB HX1.out k2
 replace j3:=cellB HX1.out j3
 replace k3:=cellB HX1.out k3
 replace j4:=cellB HX1.out j4
 replace k4:=cellB HX1.out k4
 replace j5:=cellB HX1.out j5
 replace k5:=cellB HX1.out k5
 replace j6:=cellB HX1.out j6
 replace k6:=cellB HX1.out k6
 replace j7:=cellB HX1.out j7
 replace k7:=cellB HX1.out k7
 go_upto_region 4 with fail
 have HBV:Hid (Below w.heap.size w V):=HBW.out.trans (HX1.out.mono HBW.out.size)
 by_cases hq:(xs.length:Int)=many
 ·have e5:((xs.length:Int)==many)=true:=beq_iff_eq.2 hq
  have HA3:Hid (AV=asksE (riseB c.nodes (-1) xs) 174):=by show AV=_;rw [HAV2.out,decide_eq_true hq];rfl
  have HCL:Hid (∀x mb,Nd.SetIn x mb n (2^n - 1)→Below V.heap.size V x→V.heap.size≤mb→Calls Tryz.prog 97 #[.pointer (some ⟨mb,0,none⟩),.slice sa xs.length sc] x fun e x'=>∃E:Int,e=.returned (.int .i64 E)∧(E=0↔riseB c.nodes (-1) xs=true)∧Below V.heap.size V x'):=by
   intro x mb hS hb hm
   refine(claim_ints hS (HI.out.below (HBV.out.trans (hb.mono HBV.out.size))) (fun ad e hp=>Nat.lt_of_lt_of_le (HLOW.out ad e hp) (Nat.le_trans HBV.out.size hm)) HL.out).mono ?_
   rintro e w' ⟨rfl,h3,h4⟩
   refine⟨_,rfl,?_,hb.trans ⟨h4.os,h4.tape,h4.output,h4.size,fun k hk=>h4.block k (Nat.lt_of_lt_of_le hk hb.size) (by omega)⟩⟩
   rw [HN.out]
   constructor
   ·intro h
    cases hr:riseB (n:Int) (-1) xs with
    | true=>rfl
    | false=>exact absurd h (Nd.claim_no (.inl hr))
   ·intro h
    exact(Nd.claim_ok h (Nd.full_free h)).1
  clear hq
  cases hr:riseB c.nodes (-1) xs with
  | true=>
   have HAA:Hid (AV=.returned (.tuple #[])):=by show AV=_;rw [HA3.out,hr];rfl
   rw [hr]at HCL
   clear hr
   refine wp_region_last (S:=(fun x':World=>Below V.heap.size V x')) (L:=99) (by kernel_rfl) ?_
   have HSW0:(fun x':World=>Below V.heap.size V x') (V.drew):=drew_below V
   have HF:Hid (∀xx:World,(fun x':World=>Below V.heap.size V x') xx→_∧_∧_∧_∧_∧_∧_∧_∧_∧_∧_∧_∧_∧_∧_∧_∧True):=fun xx hSx=>⟨cellB hSx j0,cellB hSx j1,cellB hSx j2,cellB hSx j3,cellB hSx j4,cellB hSx j5,cellB hSx j6,cellB hSx j7,cellB hSx k0,cellB hSx k1,cellB hSx k2,cellB hSx k3,cellB hSx k4,cellB hSx k5,cellB hSx k6,cellB hSx k7,trivial⟩
   refine tk 0 HSW0 (h:=?_)
   refine tk 1 HSW0 (h:=?_)
   refine tk 2 HSW0 (h:=?_)
   refine tk 3 HSW0 (h:=?_)
   refine tk 4 HSW0 (h:=?_)
   try rw [e5]
   refine tk 5 HSW0 (h:=?_)
   refine tk 6 HSW0 (h:=?_)
   refine tk 8 HSW0 (h:=?_)
   refine tk 9 HSW0 (h:=?_)
   refine last_one (i:=7) (by kernel_rfl) rfl ?_
   intro K hK
   go_simp
   go_at_call 108
   refine(cM _).mono ?_
   rintro e Z1 ⟨mb,rfl,hS1,bz1,hm1⟩
   have HSZ1:(fun x':World=>Below V.heap.size V x') Z1:=HSW0.trans (bz1.mono HSW0.size)
   go_simp
   refine hK.out _ _ (fun _=>HSZ1) (fun _=>?_)
   clear hK K HSW0
   refine last_one (i:=10) (by kernel_rfl) rfl ?_
   intro K hK
   go_simp
   go_at_call 97
   refine(HCL.out _ _ hS1 HSZ1 (Nat.le_trans (by exact Nat.le_refl _) hm1)).mono ?_
   rintro e Z2 ⟨E,rfl,hE,bz2⟩
   have HSZ2:(fun x':World=>Below V.heap.size V x') Z2:=bz2
   go_simp
   refine hK.out _ _ (fun _=>HSZ2) (fun _=>?_)
   clear hK K HSZ1
   have e11:(E==(0:Int))=true:=beq_iff_eq.2 (hE.2 rfl)
   refine tk 11 HSZ2 (h:=?_)
   try rw [e11]
   refine tk 12 HSZ2 (h:=?_)
   refine last_one (i:=13) (by kernel_rfl) rfl ?_
   intro K hK
   go_simp
   go_at_call 103
   refine(cQ _ _ _).mono ?_
   rintro e Z3 ⟨rfl,rfl⟩
   have HSZ3:(fun x':World=>Below V.heap.size V x') Z3:=HSZ2
   go_simp
   refine hK.out _ _ (fun _=>HSZ3) (fun _=>?_)
   clear hK K HSZ2
   refine last_done (by kernel_rfl) ?_ _
   go_wp2
   go_end0
   exact⟨HAA.out.symm,HBV.out.trans (HSZ3.mono HBV.out.size)⟩
  | false=>
   have HAA:Hid (AV=.panicked (thrown 174)):=by show AV=_;rw [HA3.out,hr];rfl
   rw [hr]at HCL
   clear hr
   refine wp_region_last (S:=(fun x':World=>Below V.heap.size V x')) (L:=99) (by kernel_rfl) ?_
   have HSW0:(fun x':World=>Below V.heap.size V x') (V.drew):=drew_below V
   have HF:Hid (∀xx:World,(fun x':World=>Below V.heap.size V x') xx→_∧_∧_∧_∧_∧_∧_∧_∧_∧_∧_∧_∧_∧_∧_∧_∧True):=fun xx hSx=>⟨cellB hSx j0,cellB hSx j1,cellB hSx j2,cellB hSx j3,cellB hSx j4,cellB hSx j5,cellB hSx j6,cellB hSx j7,cellB hSx k0,cellB hSx k1,cellB hSx k2,cellB hSx k3,cellB hSx k4,cellB hSx k5,cellB hSx k6,cellB hSx k7,trivial⟩
   refine tk 0 HSW0 (h:=?_)
   refine tk 1 HSW0 (h:=?_)
   refine tk 2 HSW0 (h:=?_)
   refine tk 3 HSW0 (h:=?_)
   refine tk 4 HSW0 (h:=?_)
   try rw [e5]
   refine tk 5 HSW0 (h:=?_)
   refine tk 6 HSW0 (h:=?_)
   refine tk 8 HSW0 (h:=?_)
   refine tk 9 HSW0 (h:=?_)
   refine last_one (i:=7) (by kernel_rfl) rfl ?_
   intro K hK
   go_simp
   go_at_call 108
   refine(cM _).mono ?_
   rintro e Z1 ⟨mb,rfl,hS1,bz1,hm1⟩
   have HSZ1:(fun x':World=>Below V.heap.size V x') Z1:=HSW0.trans (bz1.mono HSW0.size)
   go_simp
   refine hK.out _ _ (fun _=>HSZ1) (fun _=>?_)
   clear hK K HSW0
   refine last_one (i:=10) (by kernel_rfl) rfl ?_
   intro K hK
   go_simp
   go_at_call 97
   refine(HCL.out _ _ hS1 HSZ1 (Nat.le_trans (by exact Nat.le_refl _) hm1)).mono ?_
   rintro e Z2 ⟨E,rfl,hE,bz2⟩
   have HSZ2:(fun x':World=>Below V.heap.size V x') Z2:=bz2
   go_simp
   refine hK.out _ _ (fun _=>HSZ2) (fun _=>?_)
   clear hK K HSZ1
   have e11:(E==(0:Int))=false:=beq_eq_false_iff_ne.2 (fun h=>by cases hE.1 h)
   refine tk 11 HSZ2 (h:=?_)
   try rw [e11]
   refine tk 12 HSZ2 (h:=?_)
   refine last_one (i:=13) (by kernel_rfl) rfl ?_
   intro K hK
   go_simp
   go_at_call 103
   refine(cQ _ _ _).mono ?_
   rintro e Z3 ⟨rfl,rfl⟩
   go_simp
   exact⟨rfl,HAA.out.symm,HBV.out.trans (Below.mono HSZ2 HBV.out.size)⟩
 ·have e5:((xs.length:Int)==many)=false:=beq_eq_false_iff_ne.2 hq
  have HAA:Hid (AV=.panicked (thrown 174)):=by show AV=_;rw [HAV2.out,decide_eq_false hq];rfl
  clear hq
  refine wp_region_last (S:=(fun x':World=>Below V.heap.size V x')) (L:=99) (by kernel_rfl) ?_
  have HSW0:(fun x':World=>Below V.heap.size V x') (V.drew):=drew_below V
  have HF:Hid (∀xx:World,(fun x':World=>Below V.heap.size V x') xx→_∧_∧_∧_∧_∧_∧_∧_∧_∧_∧_∧_∧_∧_∧_∧_∧True):=fun xx hSx=>⟨cellB hSx j0,cellB hSx j1,cellB hSx j2,cellB hSx j3,cellB hSx j4,cellB hSx j5,cellB hSx j6,cellB hSx j7,cellB hSx k0,cellB hSx k1,cellB hSx k2,cellB hSx k3,cellB hSx k4,cellB hSx k5,cellB hSx k6,cellB hSx k7,trivial⟩
  refine tk 0 HSW0 (h:=?_)
  refine tk 1 HSW0 (h:=?_)
  refine tk 2 HSW0 (h:=?_)
  refine tk 3 HSW0 (h:=?_)
  refine tk 4 HSW0 (h:=?_)
  try rw [e5]
  refine tk 5 HSW0 (h:=?_)
  refine sk 6 HSW0 (h:=?_)
  refine sk 7 HSW0 (h:=?_)
  refine sk 8 HSW0 (h:=?_)
  refine sk 9 HSW0 (h:=?_)
  refine sk 10 HSW0 (h:=?_)
  refine sk 11 HSW0 (h:=?_)
  refine tk 12 HSW0 (h:=?_)
  refine last_one (i:=13) (by kernel_rfl) rfl ?_
  intro K hK
  go_simp
  go_at_call 103
  refine(cQ _ _ _).mono ?_
  rintro e Z3 ⟨rfl,rfl⟩
  go_simp
  exact⟨rfl,HAA.out.symm,HBV.out.trans (Below.mono HSW0 HBV.out.size)⟩
end Go.Proofs.YtceoibfliggalaaGreatDoor
namespace Go.Proofs.YtceoibfliggalaaGreatDoor
open Go.RowKit Wd Tr Cg Lg
theorem times_eq {c:Cf} {now:Int} {j:Jv}:timesB c now j=(timB now j&&setsB c.nodes j):=by
 unfold timesB timB setsB setB startB
 by_cases s1:j.st=1
 ·rw [if_pos s1,if_pos s1]
  simp only [s1]
  by_cases h:j.set.length=0
  ·have:=List.eq_nil_of_length_eq_zero h
   simp [this,riseB]
  ·simp [h]
 ·rw [if_neg s1,if_neg s1]
  by_cases s6:j.st=6
  ·rw [if_pos s6,if_pos s6]
   simp only [s6]
   by_cases h:j.set.length=0
   ·have:=List.eq_nil_of_length_eq_zero h
    simp [this,riseB,fromB]
   ·simp [h]
  ·rw [if_neg s6,if_neg s6]
   have e:(decide (¬j.st=1)&&decide (¬j.st=6))=true:=by simp [s1,s6]
   simp only [e,if_true]
   unfold runB
   cases hr:riseB c.nodes (-1) j.set with
   | false=>simp
   | true=>
    by_cases hn:(j.set.length:Int)=j.nd
    ·rw [decide_eq_true hn]
     simp only [Bool.and_true,Bool.true_eq_false,false_or]
     by_cases h1:j.sr≤j.sb∨now<j.sr
     ·rw [if_pos h1]
      have:fromB (j.sb+1) now j.sr=false:=by
       unfold fromB
       rcases h1 with h | h
       ·rw [decide_eq_false (by omega)];rfl
       ·rw [decide_eq_false (show ¬j.sr≤now by omega),Bool.and_false]
      rw [this];rfl
     ·rw [if_neg h1]
      have:fromB (j.sb+1) now j.sr=true:=by unfold fromB;rw [decide_eq_true (by omega),decide_eq_true (by omega)];rfl
      rw [this,Bool.true_and]
      by_cases s2:j.st=2
      ·rw [if_pos s2,if_pos s2,Bool.and_comm]
      ·rw [if_neg s2,if_neg s2]
       by_cases s3:j.st=3∨j.st=5
       ·rw [if_pos s3,if_pos s3,Bool.eq_iff_iff]
        simp only [fromB,Bool.and_eq_true,decide_eq_true_eq]
        omega
       ·rw [if_neg s3,if_neg s3]
        by_cases s4:j.st=4
        ·rw [if_pos s4,if_pos s4,Bool.eq_iff_iff]
         simp only [Bool.and_eq_true,decide_eq_true_eq]
         omega
        ·rw [if_neg s4,if_neg s4]
    ·rw [decide_eq_false hn];simp
def partB (c:Cf) (now:Int) (N:Nat) (p:Int) (j:Jv):Bool:=fromB 1 ((N:Int) - 1) j.ac&&(fromB 1 c.nodes j.nd&&(fromB 1 c.limit j.lm&&fromB p (min now (1099511627776 - boundZ c)) j.sb))
theorem job_eq {c:Cf} {now:Int} {N:Nat} {p:Int} {j:Jv} (hp:0≤p):jobB c now N p j=(partB c now N p j&&(timB now j&&setsB c.nodes j)):=by
 unfold jobB
 have e:headB c now N p j=partB c now N p j:=by
  unfold headB partB fromB
  rw [Bool.eq_iff_iff]
  simp only [Bool.and_eq_true,decide_eq_true_eq]
  generalize boundZ c=B
  omega
 rw [e,times_eq]
end Go.Proofs.YtceoibfliggalaaGreatDoor
namespace Go.Proofs.YtceoibfliggalaaGreatDoor
open Wd Tr Cg Lg
def actB (j:Jv):Bool:=startB j.st&& !decide (j.sr=j.en)
def evT (j:Jv) (i:Nat):List Ev:=if actB j=true then [⟨j.sr,true,i⟩]else []
def evG (j:Jv) (i:Nat):List Ev:=if actB j=true∧¬j.st=2 then [⟨j.en,false,i⟩]else []
def evL (f:Jv→Nat→List Ev) (js:List Jv) (n:Nat):List Ev:=(List.range n).flatMap fun i=>match js[i]? with
 | none=> []
 | some j=>f j i
theorem evL_succ (f:Jv→Nat→List Ev) {js:List Jv} {n:Nat} {j:Jv} (h:js[n]?=some j):evL f js (n+1)=evL f js n++f j n:=by
 unfold evL
 rw [List.range_succ,List.flatMap_append]
 simp [h]
theorem evL_mem {f:Jv→Nat→List Ev} {js:List Jv} {n:Nat} {e:Ev}:e∈evL f js n↔∃i,i<n∧∃j,js[i]?=some j∧e∈f j i:=by
 unfold evL
 rw [List.mem_flatMap]
 constructor
 ·rintro ⟨i,hi,he⟩
  cases hj:js[i]? with
  | none=>rw [hj]at he;cases he
  | some j=>rw [hj]at he;exact⟨i,List.mem_range.1 hi,j,hj,he⟩
 ·rintro ⟨i,hi,j,hj,he⟩
  exact⟨i,List.mem_range.2 hi,by rw [hj];exact he⟩
theorem evT_mem {j:Jv} {i:Nat} {e:Ev}:e∈evT j i↔actB j=true∧e=⟨j.sr,true,i⟩:=by
 unfold evT
 split
 ·simp [*]
 ·simp [*]
theorem evG_mem {j:Jv} {i:Nat} {e:Ev}:e∈evG j i↔(actB j=true∧¬j.st=2)∧e=⟨j.en,false,i⟩:=by
 unfold evG
 split
 ·simp [*]
 ·simp only [List.not_mem_nil,false_iff];rintro ⟨h,_⟩;contradiction
def evA (js:List Jv):List Ev:=evL evG js js.length++evL evT js js.length
theorem evA_take {js:List Jv} {e:Ev} (h:e.tk=true):e∈evA js↔∃j,js[e.jx]?=some j∧actB j=true∧e=⟨j.sr,true,e.jx⟩:=by
 unfold evA
 rw [List.mem_append,evL_mem,evL_mem]
 constructor
 ·rintro (⟨i,hi,j,hj,he⟩ | ⟨i,hi,j,hj,he⟩)
  ·obtain ⟨_,rfl⟩:=evG_mem.1 he;cases h
  ·obtain ⟨h1,rfl⟩:=evT_mem.1 he
   exact⟨j,hj,h1,rfl⟩
 ·rintro ⟨j,hj,h1,h2⟩
  exact .inr ⟨e.jx,(List.getElem?_eq_some_iff.1 hj).1,j,hj,evT_mem.2 ⟨h1,h2⟩⟩
theorem evA_give {js:List Jv} {e:Ev} (h:e.tk=false):e∈evA js↔∃j,js[e.jx]?=some j∧(actB j=true∧¬j.st=2)∧e=⟨j.en,false,e.jx⟩:=by
 unfold evA
 rw [List.mem_append,evL_mem,evL_mem]
 constructor
 ·rintro (⟨i,hi,j,hj,he⟩ | ⟨i,hi,j,hj,he⟩)
  ·obtain ⟨h1,rfl⟩:=evG_mem.1 he
   exact⟨j,hj,h1,rfl⟩
  ·obtain ⟨_,rfl⟩:=evT_mem.1 he;cases h
 ·rintro ⟨j,hj,h1,h2⟩
  exact .inl ⟨e.jx,(List.getElem?_eq_some_iff.1 hj).1,j,hj,evG_mem.2 ⟨h1,h2⟩⟩
theorem evL_tk {b:Bool} {f:Jv→Nat→List Ev} (hf:∀j i,∀e∈f j i,e.tk=b) {js:List Jv} {n:Nat}:∀e∈evL f js n,e.tk=b:=fun e he=>by
 obtain⟨i,_,j,_,h⟩:=evL_mem.1 he
 exact hf j i e h
theorem evT_tk:∀j i,∀e∈evT j i,e.tk=true:=fun j i e h=>by obtain⟨_,rfl⟩:=evT_mem.1 h;rfl
theorem evG_tk:∀j i,∀e∈evG j i,e.tk=false:=fun j i e h=>by obtain⟨_,rfl⟩:=evG_mem.1 h;rfl
theorem evA_ord (js:List Jv):(evA js).Pairwise Ev.O:=by
 unfold evA
 refine List.pairwise_append.2 ⟨List.Pairwise.imp_of_mem (R:=fun _ _=>True) (fun {a b} ha _ _ e=>?_) (List.pairwise_of_forall (fun _ _=>trivial)),List.Pairwise.imp_of_mem (R:=fun _ _=>True) (fun {a b} _ hb _ _=>evL_tk evT_tk b hb) (List.pairwise_of_forall (fun _ _=>trivial)),fun a ha b hb _=>evL_tk evT_tk b hb⟩
 rw [evL_tk evG_tk a ha]at e;cases e
theorem evL_nodup {f:Jv→Nat→List Ev} (h1:∀j i,(f j i).Nodup) (h2:∀j i,∀e∈f j i,e.jx=i) (js:List Jv):∀n,n≤js.length→(evL f js n).Nodup
 | 0,_=>by simp [evL]
 | n+1,hn=>by
  have hj:=List.getElem?_eq_getElem (show n<js.length by omega)
  rw [evL_succ f hj,List.nodup_append]
  refine⟨evL_nodup h1 h2 js n (by omega),h1 _ _,fun a ha b hb e=>?_⟩
  subst e
  obtain⟨i,hi,j,_,he⟩:=evL_mem.1 ha
  have e1:=h2 _ _ _ he
  have e2:=h2 _ _ _ hb
  omega
theorem evA_nodup (js:List Jv):(evA js).Nodup:=by
 unfold evA
 rw [List.nodup_append]
 refine⟨evL_nodup (fun j i=>?_) (fun j i e h=>?_) js _ (Nat.le_refl _),evL_nodup (fun j i=>?_) (fun j i e h=>?_) js _ (Nat.le_refl _),fun a ha b hb e=>?_⟩
 ·unfold evG;split<;>simp
 ·obtain ⟨_,rfl⟩:=evG_mem.1 h;rfl
 ·unfold evT;split<;>simp
 ·obtain ⟨_,rfl⟩:=evT_mem.1 h;rfl
 ·subst e
  have:=evL_tk evG_tk a ha
  rw [evL_tk evT_tk a hb]at this
  cases this
def setN (js:List Jv) (k:Nat):List Int:=match js[k]? with
 | none=> []
 | some j=>j.set
theorem setN_at {js:List Jv} {k:Nat} {j:Jv} (h:js[k]?=some j):setN js k=j.set:=by simp only [setN,h]
def Holds0 (P:List Ev) (h:Nat):Prop:=(∃e∈P,e.tk=true∧e.jx=h)∧∀e∈P,e.tk=false→e.jx≠h
structure Jok (js:List Jv):Prop where
 tm:∀(i:Nat) (j:Jv),js[i]?=some j→startB j.st=true→j.st=2∨j.sr≤j.en
 run:∀(i:Nat) (j:Jv),js[i]?=some j→j.st=2→¬j.sr=j.en
 set:∀(i:Nat) (j:Jv),js[i]?=some j→j.set≠ []→startB j.st=true
theorem apart_not {js:List Jv} {i h:Nat} {a b:Jv} (hi:js[i]?=some a) (hh:js[h]?=some b) (hne:i≠h) (hc:commonB a b=true):apartB js js.length=false:=by
 cases hA:apartB js js.length with
 | false=>rfl
 | true=>
  have li:=(List.getElem?_eq_some_iff.1 hi).1
  have lh:=(List.getElem?_eq_some_iff.1 hh).1
  rcases (by omega:h<i∨i<h)with g | g
  ·have:=apart_iff.1 hA i li a hi b (List.mem_of_getElem? (i:=h) (by rw [List.getElem?_take_of_lt g];exact hh))
   rw [hc]at this;exact this
  ·have:=apart_iff.1 hA h lh b hh a (List.mem_of_getElem? (i:=i) (by rw [List.getElem?_take_of_lt g];exact hi))
   rw [common_comm,hc]at this;exact this
theorem actj_parts {j:Jv} (h:actB j=true):startB j.st=true∧¬j.sr=j.en:=by
 simpa [actB]using h
theorem srt_before {C:List Ev} (hs:SrtE C) {p:Nat} {e x:Ev} (hp:C[p]?=some e) (hx:x∈C.take p):x.R e:=by
 obtain⟨k,hk,hkx⟩:=mem_take_at hx
 exact hs.get hkx hp hk
theorem sweep_no {js:List Jv} (J:Jok js) {C:List Ev} (hperm:C.Perm (evA js)) (hs:SrtE C) {p:Nat} {e:Ev} (hp:C[p]?=some e) (htk:e.tk=true) {h:Nat} (hh:Holds0 (C.take p) h) (hm:meetB (setN js e.jx) (setN js h)=true):apartB js js.length=false:=by
 obtain⟨a,ha,ga,ea⟩:=(evA_take htk).1 (hperm.mem_iff.1 (List.mem_of_getElem? hp))
 obtain⟨⟨x,hx,hxt,hxj⟩,hno⟩:=hh
 have hxC:x∈C:=List.mem_of_mem_take hx
 obtain⟨b,hb,gb,eb⟩:=(evA_take hxt).1 (hperm.mem_iff.1 hxC)
 rw [hxj]at hb eb
 have hR:=(srt_before hs hp hx).le
 have hne:e.jx≠h:=by
  intro q
  have:x=e:=by
   rw [eb,ea,q]
   rw [q]at ha
   rw [ha]at hb
   cases hb
   rfl
  subst this
  obtain⟨k,hk,hkx⟩:=mem_take_at hx
  have hnd:=hperm.nodup_iff.2 (evA_nodup js)
  have h1:=(List.getElem?_eq_some_iff.1 hkx).1
  have h2:=(List.getElem?_eq_some_iff.1 hp).1
  exact List.pairwise_iff_getElem.1 hnd k p h1 h2 hk (by rw [(List.getElem?_eq_some_iff.1 hkx).2,(List.getElem?_eq_some_iff.1 hp).2])
 have t1:e.tm=a.sr:=by rw [ea]
 have t2:x.tm=b.sr:=by rw [eb]
 obtain⟨sa,na⟩:=actj_parts ga
 obtain⟨sb,nb⟩:=actj_parts gb
 have ra:=J.tm _ a ha sa
 have rb:=J.tm _ b hb sb
 have hend:b.st=2∨a.sr<b.en:=by
  by_cases h2:b.st=2
  ·exact .inl h2
  ·right
   have hG:(⟨b.en,false,h⟩:Ev)∈C:=hperm.mem_iff.2 ((evA_give rfl).2 ⟨b,hb,⟨gb,h2⟩,rfl⟩)
   obtain⟨k,hk⟩:=List.getElem?_of_mem hG
   have hkp:p<k:=by
    rcases Nat.lt_trichotomy k p with q | q | q
    ·exfalso
     exact hno _ (List.mem_of_getElem? (i:=k) (by rw [List.getElem?_take_of_lt q];exact hk)) rfl rfl
    ·exfalso
     subst q
     rw [hp]at hk
     cases hk
     cases htk
    ·exact q
   have:=hs.get hp hk hkp
   rcases this with q | ⟨q,q2⟩
   ·rw [t1]at q;exact q
   ·have:=q2 htk;cases this
 rw [setN_at ha,setN_at hb]at hm
 refine apart_not ha hb hne ?_
 unfold commonB
 rw [hm,Bool.and_true]
 simp only [overB,Bool.and_eq_true,Bool.or_eq_true,decide_eq_true_eq]
 omega
theorem mem_take_at' {α:Type} {A:List α} {n:Nat} {y:α} (h:y∈A.take n):∃k,k<n∧A[k]?=some y:=by
 obtain⟨k,hk⟩:=List.getElem?_of_mem h
 have h1:=(List.getElem?_eq_some_iff.1 hk).1
 refine⟨k,by simp at h1;omega,?_⟩
 rw [List.getElem?_take_of_lt (by simp at h1;omega)]at hk
 exact hk
theorem sweep_yes {js:List Jv} (J:Jok js) {C:List Ev} (hperm:C.Perm (evA js)) (hs:SrtE C) (hQ:∀(p:Nat) (e:Ev),C[p]?=some e→e.tk=true→∀h,Holds0 (C.take p) h→meetB (setN js e.jx) (setN js h)=false):apartB js js.length=true:=by
 have key:∀(i h:Nat) (a b:Jv),js[i]?=some a→js[h]?=some b→i≠h→commonB a b=true→∀(p q:Nat),C[p]?=some ⟨a.sr,true,i⟩→C[q]?=some ⟨b.sr,true,h⟩→q<p→False:=by
  intro i h a b ha hb hne hc p q hp hq hqp
  unfold commonB at hc
  obtain⟨ho,hm⟩:=Bool.and_eq_true_iff.1 hc
  simp only [overB,Bool.and_eq_true,Bool.or_eq_true,decide_eq_true_eq]at ho
  have h1:=hQ p _ hp rfl h ⟨⟨_,List.mem_of_getElem? (i:=q) (by rw [List.getElem?_take_of_lt hqp];exact hq),rfl,rfl⟩,fun e he ht hj=>?_⟩
  ·rw [setN_at ha,setN_at hb,hm]at h1;cases h1
  ·obtain ⟨b',hb',⟨_,g2⟩,eb⟩:=(evA_give ht).1 (hperm.mem_iff.1 (List.mem_of_mem_take he))
   rw [hj]at hb' eb
   rw [hb]at hb'
   cases hb'
   have hR:=(srt_before hs hp he).le
   rw [eb]at hR
   have hR':b.en≤a.sr:=hR
   omega
 refine apart_iff.2 fun i hi a ha b hb=>?_
 cases hc:commonB a b with
 | false=>rfl
 | true=>
  exfalso
  obtain⟨h,hh,hbh⟩:=mem_take_at' hb
  have hc2:=hc
  unfold commonB at hc2
  obtain⟨ho,hm⟩:=Bool.and_eq_true_iff.1 hc2
  simp only [overB,Bool.and_eq_true,Bool.or_eq_true,decide_eq_true_eq]at ho
  obtain⟨x,hx1,hx2⟩:=meet_iff.1 hm
  have sa:=J.set i a ha (List.ne_nil_of_mem hx1)
  have sb:=J.set h b hbh (List.ne_nil_of_mem hx2)
  have ga:actB a=true:=by
   unfold actB;rw [sa,Bool.true_and]
   have:¬a.sr=a.en:=by
    rcases ho.2.2.1 with q | q
    ·exact J.run i a ha q
    ·omega
   simp [this]
  have gb:actB b=true:=by
   unfold actB;rw [sb,Bool.true_and]
   have:¬b.sr=b.en:=by
    rcases ho.2.2.2 with q | q
    ·exact J.run h b hbh q
    ·omega
   simp [this]
  obtain⟨p,hp⟩:=List.getElem?_of_mem (hperm.mem_iff.2 ((evA_take (e:=⟨a.sr,true,i⟩) rfl).2 ⟨a,ha,ga,rfl⟩))
  obtain⟨q,hq⟩:=List.getElem?_of_mem (hperm.mem_iff.2 ((evA_take (e:=⟨b.sr,true,h⟩) rfl).2 ⟨b,hbh,gb,rfl⟩))
  rcases Nat.lt_trichotomy q p with g | g | g
  ·exact key i h a b ha hbh (by omega) hc p q hp hq g
  ·subst g
   rw [hp]at hq
   have:i=h:=congrArg Ev.jx (Option.some.inj hq)
   omega
  ·exact key h i b a hbh ha (by omega) (by rw [common_comm];exact hc) q p hq hp g
end Go.Proofs.YtceoibfliggalaaGreatDoor
namespace Go.Proofs.YtceoibfliggalaaGreatDoor
open Wd Tr Cg Lg
structure Sw (js:List Jv) (C:List Ev) (n k F:Nat):Prop where
 fr:∀m:Nat,F.testBit m=true↔m<n∧∀h,Holds0 (C.take k) h→(m:Int)∉setN js h
 ap:∀h h',Holds0 (C.take k) h→Holds0 (C.take k) h'→h≠h'→meetB (setN js h) (setN js h')=false
 ok:∀(p:Nat) (e:Ev),p<k→C[p]?=some e→e.tk=true→∀h,Holds0 (C.take p) h→meetB (setN js e.jx) (setN js h)=false
theorem meet_not {a b:List Int} (h:meetB a b=false) {x:Int} (hx:x∈a):x∉b:=fun hb=>by
 rw [meet_iff.2 ⟨x,hx,hb⟩]at h;cases h
theorem not_meet {a b:List Int} (h:∀x∈a,x∉b):meetB a b=false:=by
 cases hm:meetB a b with
 | false=>rfl
 | true=>obtain⟨x,h1,h2⟩:=meet_iff.1 hm;exact absurd h2 (h x h1)
section
variable {js:List Jv} {C:List Ev} {n k F F':Nat} {e:Ev}
theorem Sw.start:Sw js C n 0 (2^n - 1):=by
 refine⟨fun m=>?_,fun h h' hh=>?_,fun p e hp=>by omega⟩
 ·rw [Nd.full_bit,decide_eq_true_eq]
  exact⟨fun h=>⟨h,fun q hq=>by obtain⟨⟨e,he,_⟩,_⟩:=hq;simp at he⟩,fun h=>h.1⟩
 ·obtain ⟨⟨e,he,_⟩,_⟩:=hh;simp at he
theorem take_one (hk:C[k]?=some e):C.take (k+1)=C.take k++ [e]:=by
 obtain⟨h1,h2⟩:=List.getElem?_eq_some_iff.1 hk
 rw [List.take_succ_eq_append_getElem h1,h2]
theorem no_give (J:Jok js) (hperm:C.Perm (evA js)) (hs:SrtE C) (hk:C[k]?=some e) (ht:e.tk=true):∀x∈C.take k,x.tk=false→x.jx≠e.jx:=by
 intro x hx hxt hj
 obtain⟨a,ha,ga,ea⟩:=(evA_take ht).1 (hperm.mem_iff.1 (List.mem_of_getElem? hk))
 obtain⟨b,hb,⟨gb,g2⟩,eb⟩:=(evA_give hxt).1 (hperm.mem_iff.1 (List.mem_of_mem_take hx))
 rw [hj,ha]at hb
 cases hb
 have hR:=(srt_before hs hk hx).le
 rw [ea,eb]at hR
 have hR':a.en≤a.sr:=hR
 obtain⟨sa,na⟩:=actj_parts ga
 have:=J.tm _ a ha sa
 omega
theorem holds_take (J:Jok js) (hperm:C.Perm (evA js)) (hs:SrtE C) (hk:C[k]?=some e) (ht:e.tk=true) (h:Nat):Holds0 (C.take (k+1)) h↔Holds0 (C.take k) h∨h=e.jx:=by
 rw [take_one hk]
 constructor
 ·rintro ⟨⟨x,hx,x1,x2⟩,hno⟩
  rcases List.mem_append.1 hx with hx | hx
  ·exact .inl ⟨⟨x,hx,x1,x2⟩,fun y hy=>hno y (List.mem_append_left _ hy)⟩
  ·simp at hx;subst hx;exact .inr x2.symm
 ·rintro (⟨⟨x,hx,x1,x2⟩,hno⟩ | rfl)
  ·refine ⟨⟨x,List.mem_append_left _ hx,x1,x2⟩,fun y hy yt=>?_⟩
   rcases List.mem_append.1 hy with hy | hy
   ·exact hno y hy yt
   ·simp at hy;subst hy;rw [ht]at yt;cases yt
  ·refine ⟨⟨e,by simp,ht,rfl⟩,fun y hy yt=>?_⟩
   rcases List.mem_append.1 hy with hy | hy
   ·exact no_give J hperm hs hk ht y hy yt
   ·simp at hy;subst hy;rw [ht]at yt;cases yt
theorem Sw.free_all (h:Sw js C n k F) {i:Nat} (hr:riseB n (-1) (setN js i)=true) (hf:∀x∈setN js i,F.testBit x.toNat=true):∀q,Holds0 (C.take k) q→meetB (setN js i) (setN js q)=false:=fun q hq=>not_meet fun x hx hxq=>by
 have h1:=(h.fr x.toNat).1 (hf x hx)
 have h0:=Nd.rise_pos hr x hx
 exact h1.2 q hq (by rw [Int.toNat_of_nonneg h0];exact hxq)
theorem Sw.take (J:Jok js) (hperm:C.Perm (evA js)) (hs:SrtE C) (h:Sw js C n k F) (hk:C[k]?=some e) (ht:e.tk=true) (hr:riseB n (-1) (setN js e.jx)=true) (hf:∀x∈setN js e.jx,F.testBit x.toNat=true) (hF:∀m,F'.testBit m=(F.testBit m&& !decide ((m:Int)∈setN js e.jx))):Sw js C n (k+1) F':=by
 have hall:=h.free_all hr hf
 refine⟨fun m=>?_,fun a b ha hb hne=>?_,fun p x hp hx hxt q hq=>?_⟩
 ·rw [hF,Bool.and_eq_true,h.fr,Bool.not_eq_true',decide_eq_false_iff_not]
  constructor
  ·rintro ⟨⟨h1,h2⟩,h3⟩
   refine⟨h1,fun q hq=>?_⟩
   rcases (holds_take J hperm hs hk ht q).1 hq with hq | rfl
   ·exact h2 q hq
   ·exact h3
  ·rintro ⟨h1,h2⟩
   exact⟨⟨h1,fun q hq=>h2 q ((holds_take J hperm hs hk ht q).2 (.inl hq))⟩,h2 _ ((holds_take J hperm hs hk ht _).2 (.inr rfl))⟩
 ·rcases (holds_take J hperm hs hk ht a).1 ha with ha | rfl<;>rcases (holds_take J hperm hs hk ht b).1 hb with hb | rfl
  ·exact h.ap a b ha hb hne
  ·rw [meet_comm];exact hall a ha
  ·exact hall b hb
  ·exact absurd rfl hne
 ·by_cases e1:p=k
  ·subst e1
   rw [hk]at hx
   cases hx
   exact hall q hq
  ·exact h.ok p x (by omega) hx hxt q hq
theorem Sw.no (J:Jok js) (hperm:C.Perm (evA js)) (hs:SrtE C) (h:Sw js C n k F) (hk:C[k]?=some e) (ht:e.tk=true) (hr:riseB n (-1) (setN js e.jx)=true) {x:Int} (hx:x∈setN js e.jx) (hf:F.testBit x.toNat=false):apartB js js.length=false:=by
 have h0:=rise_mem hr x hx
 have:∃q,Holds0 (C.take k) q∧x∈setN js q:=by
  apply Classical.byContradiction
  intro hno
  have:=(h.fr x.toNat).2 ⟨by omega,fun q hq hm=>hno ⟨q,hq,by rw [Int.toNat_of_nonneg (by omega)]at hm;exact hm⟩⟩
  rw [hf]at this;cases this
 obtain⟨q,hq,hxq⟩:=this
 exact sweep_no J hperm hs hk ht hq (meet_iff.2 ⟨x,hx,hxq⟩)
theorem holds_give (J:Jok js) (hperm:C.Perm (evA js)) (hs:SrtE C) (hk:C[k]?=some e) (ht:e.tk=false):Holds0 (C.take k) e.jx:=by
 obtain⟨a,ha,⟨ga,g2⟩,ea⟩:=(evA_give ht).1 (hperm.mem_iff.1 (List.mem_of_getElem? hk))
 obtain⟨sa,na⟩:=actj_parts ga
 have tm:=J.tm _ a ha sa
 obtain⟨p,hp⟩:=List.getElem?_of_mem (hperm.mem_iff.2 ((evA_take (e:=⟨a.sr,true,e.jx⟩) rfl).2 ⟨a,ha,ga,rfl⟩))
 have hpk:p<k:=by
  rcases Nat.lt_trichotomy p k with q | q | q
  ·exact q
  ·subst q
   rw [hk]at hp
   have:=congrArg Ev.tk (Option.some.inj hp)
   rw [ht]at this;cases this
  ·have hR:=(hs.get hk hp q).le
   rw [ea]at hR
   have hR':a.en≤a.sr:=hR
   omega
 refine⟨⟨(⟨a.sr,true,e.jx⟩:Ev),List.mem_of_getElem? (i:=p) (by rw [List.getElem?_take_of_lt hpk];exact hp),rfl,rfl⟩,fun y hy yt yj=>?_⟩
 obtain⟨b,hb,_,eb⟩:=(evA_give yt).1 (hperm.mem_iff.1 (List.mem_of_mem_take hy))
 rw [yj]at hb eb
 rw [ha]at hb
 cases hb
 have hye:y=e:=by rw [eb,ea]
 obtain⟨q,hq,hqy⟩:=mem_take_at hy
 have hnd:=hperm.nodup_iff.2 (evA_nodup js)
 have h1:=(List.getElem?_eq_some_iff.1 hqy)
 have h2:=(List.getElem?_eq_some_iff.1 hk)
 exact List.pairwise_iff_getElem.1 hnd q k h1.1 h2.1 hq (by rw [h1.2,h2.2,hye])
theorem holds_less (hk:C[k]?=some e) (ht:e.tk=false) (h:Nat):Holds0 (C.take (k+1)) h↔Holds0 (C.take k) h∧h≠e.jx:=by
 rw [take_one hk]
 constructor
 ·rintro ⟨⟨x,hx,x1,x2⟩,hno⟩
  refine⟨⟨⟨x,?_,x1,x2⟩,fun y hy=>hno y (List.mem_append_left _ hy)⟩,fun q=>hno e (by simp) ht q.symm⟩
  rcases List.mem_append.1 hx with hx | hx
  ·exact hx
  ·simp at hx;subst hx;rw [ht]at x1;cases x1
 ·rintro ⟨⟨⟨x,hx,x1,x2⟩,hno⟩,hne⟩
  refine⟨⟨x,List.mem_append_left _ hx,x1,x2⟩,fun y hy yt=>?_⟩
  rcases List.mem_append.1 hy with hy | hy
  ·exact hno y hy yt
  ·simp at hy;subst hy;exact Ne.symm hne
theorem Sw.taken (J:Jok js) (hperm:C.Perm (evA js)) (hs:SrtE C) (h:Sw js C n k F) (hk:C[k]?=some e) (ht:e.tk=false) (hr:riseB n (-1) (setN js e.jx)=true):∀x∈setN js e.jx,F.testBit x.toNat=false:=by
 intro x hx
 cases hb:F.testBit x.toNat with
 | false=>rfl
 | true=>
  have h0:=Nd.rise_pos hr x hx
  exact absurd (by rw [Int.toNat_of_nonneg h0];exact hx) (((h.fr x.toNat).1 hb).2 e.jx (holds_give J hperm hs hk ht))
theorem Sw.give (J:Jok js) (hperm:C.Perm (evA js)) (hs:SrtE C) (h:Sw js C n k F) (hk:C[k]?=some e) (ht:e.tk=false) (hr:riseB n (-1) (setN js e.jx)=true) (hF:∀m,F'.testBit m=(F.testBit m||decide ((m:Int)∈setN js e.jx))):Sw js C n (k+1) F':=by
 have hh:=holds_give J hperm hs hk ht
 refine⟨fun m=>?_,fun a b ha hb hne=>h.ap a b ((holds_less hk ht a).1 ha).1 ((holds_less hk ht b).1 hb).1 hne,fun p x hp hx hxt q hq=>?_⟩
 ·rw [hF,Bool.or_eq_true,h.fr,decide_eq_true_eq]
  constructor
  ·rintro (⟨h1,h2⟩ | hm)
   ·exact ⟨h1,fun q hq=>h2 q ((holds_less hk ht q).1 hq).1⟩
   ·have:=rise_mem hr _ hm
    exact⟨by omega,fun q hq=>meet_not (h.ap e.jx q hh ((holds_less hk ht q).1 hq).1 (Ne.symm ((holds_less hk ht q).1 hq).2)) hm⟩
  ·rintro ⟨h1,h2⟩
   by_cases hm:(m:Int)∈setN js e.jx
   ·exact .inr hm
   ·refine .inl ⟨h1,fun q hq=>?_⟩
    by_cases hq2:q=e.jx
    ·rw [hq2];exact hm
    ·exact h2 q ((holds_less hk ht q).2 ⟨hq,hq2⟩)
 ·by_cases e1:p=k
  ·subst e1
   rw [hk]at hx
   cases hx
   rw [ht]at hxt;cases hxt
  ·exact h.ok p x (by omega) hx hxt q hq
theorem Sw.done (J:Jok js) (hperm:C.Perm (evA js)) (hs:SrtE C) (h:Sw js C n C.length F):apartB js js.length=true:=
 sweep_yes J hperm hs fun p e hp ht q hq=>h.ok p e (List.getElem?_eq_some_iff.1 hp).1 hp ht q hq
end
theorem jok_of {c:Cf} {now:Int} {N:Nat} {js:List Jv} (h:jobsB c now N js js.length=true):Jok js∧∀k,riseB c.nodes (-1) (setN js k)=true:=by
 have hj:∀(i:Nat) (j:Jv),js[i]?=some j→headB c now N (aheadOf js i) j=true∧timesB c now j=true:=fun i j hi=>by
  have:=jobs_iff.1 h i (List.getElem?_eq_some_iff.1 hi).1 j hi
  unfold jobB at this
  exact Bool.and_eq_true_iff.1 this
 have hb:∀(i:Nat) (j:Jv),js[i]?=some j→0≤j.sb:=fun i j hi=>by
  have:=(hj i j hi).1
  simp only [headB,Bool.and_eq_true,decide_eq_true_eq]at this
  exact this.2.1
 have hp:∀(i:Nat) (j:Jv),js[i]?=some j→timB now j=true∧setsB c.nodes j=true:=fun i j hi=>by
  have:=(hj i j hi).2
  rw [times_eq]at this
  exact Bool.and_eq_true_iff.1 this
 have hrun:∀(i:Nat) (j:Jv),js[i]?=some j→startB j.st=true→runB now j=true:=fun i j hi hst=>by
  have:=(hp i j hi).1
  unfold timB at this
  have h1:¬j.st=1:=by intro e;rw [e]at hst;exact absurd hst (by decide)
  have h6:¬j.st=6:=by intro e;rw [e]at hst;exact absurd hst (by decide)
  rw [if_neg h1,if_neg h6]at this
  exact this
 refine⟨⟨fun i j hi hst=>?_,fun i j hi h2=>?_,fun i j hi hne=>?_⟩,fun k=>?_⟩
 ·have hr:=hrun i j hi hst
  unfold runB at hr
  have hr2:=(Bool.and_eq_true_iff.1 hr).2
  have hr1:=(Bool.and_eq_true_iff.1 hr).1
  by_cases s2:j.st=2
  ·exact .inl s2
  ·right
   rw [if_neg s2]at hr2
   by_cases s3:j.st=3∨j.st=5
   ·rw [if_pos s3]at hr2
    simp only [fromB,Bool.and_eq_true,decide_eq_true_eq]at hr2
    exact hr2.1
   ·rw [if_neg s3]at hr2
    by_cases s4:j.st=4
    ·rw [if_pos s4]at hr2
     simp only [Bool.and_eq_true,decide_eq_true_eq]at hr2
     have hl:=(hj i j hi).1
     simp only [headB,Bool.and_eq_true,decide_eq_true_eq]at hl
     omega
    ·rw [if_neg s4]at hr2;cases hr2
 ·have hr:=hrun i j hi (by rw [h2];rfl)
  unfold runB at hr
  have hr2:=(Bool.and_eq_true_iff.1 hr).2
  have hr1:=(Bool.and_eq_true_iff.1 hr).1
  rw [if_pos h2]at hr2
  simp only [fromB,Bool.and_eq_true,decide_eq_true_eq]at hr1 hr2
  have:=hb i j hi
  omega
 ·have:=(hp i j hi).2
  unfold setsB at this
  cases hst:startB j.st with
  | true=>rfl
  | false=>
   rw [hst]at this
   simp at this
   exact absurd this.1 hne
 ·unfold setN
  cases hk:js[k]? with
  | none=>rfl
  | some j=>
   have:=(hp k j hk).2
   unfold setsB at this
   exact(Bool.and_eq_true_iff.1 this).2
end Go.Proofs.YtceoibfliggalaaGreatDoor
