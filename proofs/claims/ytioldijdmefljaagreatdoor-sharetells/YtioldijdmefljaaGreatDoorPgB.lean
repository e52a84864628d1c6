/-
  Package tree: the calls that only read: Len, has, Find, changeable, refuses, Depth, Get.
-/
import Derived.Test.YtioldijdmefljaaGreatDoorPgT
import Derived.Lib.SliceRun
namespace Go.Proofs.YtioldijdmefljaaGreatDoor
open Go.RowKit Tr

/-- What is wrong with an account that is to come. -/
def refV (l : List Ac) (s : ByteArray) (known : Bool) (sh : Int) : Int :=
  if okName s = false then 60 else if (findV l s).isSome = true then 61 else if known = false then 62 else if okSh sh = false then 63 else 0
set_option maxHeartbeats 1000000 in
set_option maxRecDepth 20000 in
theorem refuses_any {W : World} {t : Nat} {v : Value} {m : Nat} {kv : Value} {ks : List Nat} {l : List Ac} {K : Nat → Nat → Bool} (h : PT W t v m kv ks l K) {s : ByteArray} (hs : s.size ≤ maxLen) (kn : Bool) (sh : Int) :
    Calls Tryz.prog 70 #[.pointer (some ⟨t, 0, none⟩), .string s, .bool kn, .int .i64 sh] W fun e w' => e = .returned (.int .i64 (refV l s kn sh)) ∧ W = w' := by
  obtain ⟨ao, c, rfl, _, c1, _, _⟩ := h.cells
  obtain ⟨D, h1, h2⟩ := h.nms
  have hl := look_names h1 h2 hs
  have hn := pname_any s W
  have hsh := pshares_any sh W
  clear h h1 h2
  unfold refV
  obtain ⟨o1, q1⟩ : ∃ o, okName s = o := ⟨_, rfl⟩
  obtain ⟨o2, q2⟩ : ∃ o, findV l s = o := ⟨_, rfl⟩
  obtain ⟨o3, q3⟩ : ∃ o, okSh sh = o := ⟨_, rfl⟩
  rw [q1] at hn ⊢
  rw [q2] at hl ⊢
  rw [q3] at hsh ⊢
  clear q1 q2 q3
  cases o1 with
  | false =>
    go_enter Tryz.func70, Tryz.ntmps70
    go_wp2_with fail
    refine hn.mono ?_
    rintro e w1 ⟨rfl, rfl⟩
    go_wp2
    go_ret
    exact ⟨rfl, rfl⟩
  | true =>
    cases o2 with
    | some k =>
      simp only [Option.getD_some, Option.isSome_some] at hl
      go_enter Tryz.func70, Tryz.ntmps70
      go_wp2_with fail
      refine hn.mono ?_
      rintro e w1 ⟨rfl, rfl⟩
      go_wp2
      go_ret
      exact ⟨rfl, rfl⟩
    | none =>
      simp only [Option.getD_none, Option.isSome_none] at hl
      cases kn with
      | false =>
        go_enter Tryz.func70, Tryz.ntmps70
        go_wp2_with fail
        refine hn.mono ?_
        rintro e w1 ⟨rfl, rfl⟩
        go_wp2
        go_ret
        exact ⟨rfl, rfl⟩
      | true =>
        go_enter Tryz.func70, Tryz.ntmps70
        go_wp2_with fail
        refine hn.mono ?_
        rintro e w1 ⟨rfl, rfl⟩
        go_wp2_with fail
        refine hsh.mono ?_
        rintro e w1 ⟨rfl, rfl⟩
        cases o3 with
        | false =>
          go_wp2
          go_ret
          exact ⟨rfl, rfl⟩
        | true =>
          go_wp2
          go_ret
          exact ⟨rfl, rfl⟩
set_option maxRecDepth 20000 in
theorem Tr.Wf.paok {l : List Ac} (h : Wf l) : PaOk l := fun k a ha hk => ⟨(h.row k a ha hk).2.1, (h.row k a ha hk).2.2.1⟩
set_option maxRecDepth 20000 in
theorem made0 (w : World) (te sz : Nat) : (w.alloc (.cells #[] te)).ownsRow w.heap.size te sz (.slice (some ⟨w.heap.size, 0, none⟩) 0 0) 0 [] := ⟨by simp, .inr ⟨w.heap.size, 0, #[], rfl, Nat.le_refl _, heap_alloc_new w _, Nat.le_refl _, by decide, by simp, by simp⟩⟩
end Go.Proofs.YtioldijdmefljaaGreatDoor
