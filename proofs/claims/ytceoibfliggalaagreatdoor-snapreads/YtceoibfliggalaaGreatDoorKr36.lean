/-
  TEXTS: CpF.
-/
import Derived.Test.YtceoibfliggalaaGreatDoorKr25
import Derived.Test.YtceoibfliggalaaGreatDoorKr9
namespace Go.Proofs.YtceoibfliggalaaGreatDoor
open Go.RowKit Wd Cg
theorem pBound_yes {c:Cf} (h:chkZ c=0) (w:World):Calls Tryz.prog 105 #[cfV c] w fun e w'=>e=.returned (.int .i64 (boundZ c))∧Below w.heap.size w w':=by
 have c1:=pcheck_any c
 obtain⟨r,hm,_⟩:=chk_ok h
 rw [h]at c1
 have c2:=pbound_any r
 generalize boundZ c=L0 at *
 unfold cfV at *
 have hS:=St.new w c
 go_enter Tryz.func105,Tryz.ntmps105
 go_wp2_with fail
 refine(c1 _).mono ?_
 rintro e w1 ⟨rfl,b1⟩
 replace hS:=keepW hS b1
 clear b1
 obtain⟨s0,s1,s2,s3,s4,s5,s6,s7,_,_⟩:=id hS
 go_wp2_with fail
 refine(c2 _).mono ?_
 rintro e w2 ⟨rfl,b2⟩
 replace hS:=keepW hS b2
 clear b2 s0 s1 s2 s3 s4 s5 s6 s7
 go_wp2
 go_ret
 exact⟨rfl,hS.bel⟩
end Go.Proofs.YtceoibfliggalaaGreatDoor
