/-
 IDEALPLAYS walked, of a config that is refused.
-/
import Derived.Test.YtdkbmligaodpmaaGreatDoorXplz
import Derived.Test.YtdkbmligaodpmaaGreatDoorXiyz
namespace Go.Proofs.YtdkbmligaodpmaaGreatDoor
open Go.RowKit Wd Tr Cg Ld

set_option maxRecDepth 20000 in
set_option maxHeartbeats 4000000 in
theorem plays_no {w : World} (hT : Tab w) (ao so : Option Addr) (N M ca cs : Nat) (c : Cf) (hck : ¬ chkZ c = 0) :
  Calls Tryz.prog 3 #[cfV c, .slice ao N ca, .slice so M cs] w fun e w' => e = .returned (.bool true) ∧ Below w.heap.size w w' := by
 have hSt := St.new w c
 have c1 := ishown_any (Tab.below hSt.bel hT)
 have cN := inew_no hck
 have cR := rinew_no hck
 generalize chkZ c = z at *
 unfold cfV at *
 clear hck hT
 go_enter Tryz.func3, Tryz.ntmps3
 go_wp2_with fail
 refine c1.mono ?_
 rintro e w1 ⟨rfl, b1⟩
 replace hSt := keepW hSt b1
 clear b1 c1
 obtain ⟨s0, s1, s2, s3, s4, s5, s6, s7, hB, hz⟩ := hSt
 go_wp2_with fail
 refine (cN _).mono ?_
 rintro e w2 ⟨rfl, b2⟩
 have hSt : St w w.heap.size c w2 := keepW ⟨s0, s1, s2, s3, s4, s5, s6, s7, hB, hz⟩ b2
 clear s0 s1 s2 s3 s4 s5 s6 s7 hB hz b2 cN
 obtain ⟨s0, s1, s2, s3, s4, s5, s6, s7, hB, hz⟩ := hSt
 go_wp2_with fail
 refine (cR _).mono ?_
 rintro e w3 ⟨rfl, b3⟩
 have HB3 : Hid (Below w.heap.size w w3) := hB.trans (b3.mono hB.size)
 clear s0 s1 s2 s3 s4 s5 s6 s7 hB hz b3 cR
 go_wp2
 go_ret
 exact ⟨rfl, HB3.out⟩
end Go.Proofs.YtdkbmligaodpmaaGreatDoor
