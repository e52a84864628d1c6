/-
  THE CONTRACTS OF THE REFERENCE's FUNCTIONS: Div.
  THE CONTRACTS OF THE REFERENCE's CALLS (backfillref04).
-/
import Derived.Test.YtjgllfpnmmopdaaGreatDoorRfW
import Derived.Test.YtjgllfpnmmopdaaGreatDoorMth
import Derived.Test.YtjgllfpnmmopdaaGreatDoorRefA
import Derived.Test.YtjgllfpnmmopdaaGreatDoorXfx
namespace Go.Proofs.YtjgllfpnmmopdaaGreatDoor
open Go.RowKit Wd

/-- What lies in memory at the head of a round of the reference's Div: a's box at n, the result's at n + 1, q's at n + 2. -/
def QMem (w : World) (n : Nat) (a q : Int) : Prop :=
  w.cell? ⟨n, 0, none⟩ = some (.int .u64 (hiW a)) ∧ w.cell? ⟨n, 1, none⟩ = some (.int .u64 (loW a)) ∧
  w.cell? ⟨n + 1, 0, none⟩ = some (.int .u64 0) ∧ w.cell? ⟨n + 1, 1, none⟩ = some (.int .u64 0) ∧
  w.cell? ⟨n + 1 + 1, 0, none⟩ = some (.int .u64 (hiW q)) ∧ w.cell? ⟨n + 1 + 1, 1, none⟩ = some (.int .u64 (loW q)) ∧
  w.frozen? ⟨n, 0, none⟩ = false ∧ w.frozen? ⟨n, 1, none⟩ = false ∧ w.frozen? ⟨n + 1, 0, none⟩ = false ∧ w.frozen? ⟨n + 1, 1, none⟩ = false ∧
  w.frozen? ⟨n + 1 + 1, 0, none⟩ = false ∧ w.frozen? ⟨n + 1 + 1, 1, none⟩ = false
theorem QMem.below {W w : World} {n : Nat} {a q : Int} (h : QMem W n a q) (hb : Below W.heap.size W w) : QMem w n a q := by
  obtain ⟨c0, c1, c2, c3, c4, c5, f0, f1, f2, f3, f4, f5⟩ := h
  exact ⟨keepC hb c0, keepC hb c1, keepC hb c2, keepC hb c3, keepC hb c4, keepC hb c5, keepF hb c0 f0, keepF hb c1 f1, keepF hb c2 f2, keepF hb c3 f3, keepF hb c4 f4, keepF hb c5 f5⟩

theorem QMem.setA {w : World} {n : Nat} {a q : Int} (h : QMem w n a q) (a' : Int) : QMem ((w.setCell ⟨n, 0, none⟩ (.int .u64 (hiW a'))).setCell ⟨n, 1, none⟩ (.int .u64 (loW a'))) n a' q := by
  obtain ⟨c0, c1, c2, c3, c4, c5, f0, f1, f2, f3, f4, f5⟩ := h
  refine ⟨?_, ?_, ?_, ?_, ?_, ?_, ?_, ?_, ?_, ?_, ?_, ?_⟩ <;> simp [go_sem, c0, c1, c2, c3, c4, c5, f0, f1, f2, f3, f4, f5]
theorem QMem.setQ {w : World} {n : Nat} {a q : Int} (h : QMem w n a q) (q' : Int) : QMem ((w.setCell ⟨n + 1 + 1, 0, none⟩ (.int .u64 (hiW q'))).setCell ⟨n + 1 + 1, 1, none⟩ (.int .u64 (loW q'))) n a q' := by
  obtain ⟨c0, c1, c2, c3, c4, c5, f0, f1, f2, f3, f4, f5⟩ := h
  refine ⟨?_, ?_, ?_, ?_, ?_, ?_, ?_, ?_, ?_, ?_, ?_, ?_⟩ <;> simp [go_sem, c0, c1, c2, c3, c4, c5, f0, f1, f2, f3, f4, f5]
theorem QMem.bump {w : World} {n : Nat} {a q : Int} (h : QMem w n a q) (q' : Int) (hq : hiW q = hiW q') : QMem (w.setCell ⟨n + 1 + 1, 1, none⟩ (.int .u64 (loW q'))) n a q' := by
  obtain ⟨c0, c1, c2, c3, c4, c5, f0, f1, f2, f3, f4, f5⟩ := h
  rw [hq] at c4
  refine ⟨?_, ?_, ?_, ?_, ?_, ?_, ?_, ?_, ?_, ?_, ?_, ?_⟩ <;> simp [go_sem, c0, c1, c2, c3, c4, c5, f0, f1, f2, f3, f4, f5]
theorem rshl_num (v n : Int) (h : Num v) (hm : n < 9223372036854775808) (w : World) :
    Calls Tryz.prog 84 #[.agg #[.int .u64 (hiW v), .int .u64 (loW v)], .int .i64 n] w fun e w' =>
      e = .returned (.agg #[.int .u64 (hiW (shlV v n)), .int .u64 (loW (shlV v n))]) ∧ Below w.heap.size w w' := by
  have c := rshl_any (hiW v) (loW v) n (hi_word h) (lo_word v) hm w
  rw [val_words] at c
  exact c

set_option maxHeartbeats 1000000 in
set_option maxRecDepth 20000 in
theorem rdiv_any (ah al b : Int) (h1 : Word ah) (h2 : Word al) (h3 : Word b) (w : World) :
    Calls Tryz.prog 52 #[.agg #[.int .u64 ah, .int .u64 al], .int .u64 b] w fun e w' =>
      e = .returned (.tuple #[.agg #[.int .u64 (hiW (divV (val ah al) b)), .int .u64 (loW (divV (val ah al) b))], .int .u64 (remV (val ah al) b), .bool (divB b)]) ∧ Below w.heap.size w w' := by
  by_cases z : b = 0
  · subst z
    rw [show divV (val ah al) 0 = 0 from rfl, show remV (val ah al) 0 = 0 from rfl, show divB 0 = false from rfl, show hiW 0 = 0 from rfl, show loW 0 = 0 from rfl]
    go_enter Tryz.func52, Tryz.ntmps52
    go_wp2
    exact bodyPost_ret (v := .tuple #[.agg #[.int .u64 0, .int .u64 0], .int .u64 0, .bool false]) (by simp [results, Tryz.results52, go_sem]) rfl ⟨rfl, ((Below.refl _ _).alloc (Nat.le_refl _) _).alloc (by simp) _⟩
  · have hA := val_num h1 h2
    obtain ⟨b0, b1⟩ := h3
    have bp : 0 < b := by omega
    have ed : divB b = true := by simp [divB, z]
    rw [ed]
    have k0 : (b == 0) = false := by simp [z]
    have ea := hi_val (h := ah) h2
    have el := lo_val (h := ah) h2
    have HE : Hid (hiW (val ah al) = ah ∧ loW (val ah al) = al) := ⟨ea, el⟩
    clear ea el ed
    go_enter Tryz.func52, Tryz.ntmps52
    go_wp2
    go_loopw [8, 9] (fun r i wr => ∃ k : Nat, ∃ a q s : Int, k ≤ 128 ∧ i = .int .i64 k ∧ r = .int .u64 s ∧ Part (val ah al) b k a q s ∧ QMem wr w.heap.size a q ∧ w.heap.size + 1 + 1 < wr.heap.size ∧ Below w.heap.size w wr) (fun _ i _ => 128 - (intOf i).toNat)
    case atStart =>
      refine ⟨0, val ah al, 0, 0, by omega, rfl, rfl, part_start hA, ?_, by simp, ?_⟩
      · rw [QMem, HE.out.1, HE.out.2, show hiW 0 = 0 from rfl, show loW 0 = 0 from rfl]
        refine ⟨?_, ?_, ?_, ?_, ?_, ?_, ?_, ?_, ?_, ?_, ?_, ?_⟩ <;> simp [go_sem]
      · exact (((Below.refl _ _).alloc (Nat.le_refl _) _).alloc (by simp) _).alloc (by simp; omega) _
    case round =>
      obtain ⟨k, a, q, s, hk, rfl, rfl, hp, hq, hz, hb⟩ := hrel
      by_cases hlt : k < 128
      · obtain ⟨na, s0, s1, q0, q1⟩ := part_bounds hA bp hlt hp
        have hwa := hi_word na
        obtain ⟨g0, g1⟩ := hwa
        have HN : Hid _ := part_next hA bp hlt hp
        have EQ : Hid _ := shl_one q0 q1
        have HP : Hid (Part (val ah al) b k a q s) := hp
        have QM : Hid (QMem wr w.heap.size a q) := hq
        obtain ⟨c0, c1, c2, c3, c4, c5, f0, f1, f2, f3, f4, f5⟩ := hq
        clear hp
        have nq : Num q := ⟨q0, by omega⟩
        have lq : loW (shlV q 1) + 1 < 18446744073709551616 := by
          have := lo_word (2 * q + 1)
          obtain ⟨_, _⟩ := this
          rw [EQ.out.1, EQ.out.2.2]; omega
        have lq0 : 0 ≤ loW (shlV q 1) := (lo_word _).1
        by_cases ho : 9223372036854775808 ≤ s
        · have ob : (s / 9223372036854775808 == 1) = true := by simp; omega
          go_wp2_with fail
          refine (rshl_num a 1 na (by omega) _).mono ?_
          rintro e w1 ⟨rfl, hb1⟩
          have HQA : Hid (QMem w1 w.heap.size a q) := QM.out.below hb1
          obtain ⟨c0', c1', c2', c3', c4', c5', f0', f1', f2', f3', f4', f5'⟩ := HQA.out
          have z1 := hb1.size
          clear c0 c1 c2 c3 c4 c5 f0 f1 f2 f3 f4 f5
          go_wp2_with fail
          refine (rshl_num q 1 nq (by omega) _).mono ?_
          rintro e w2 ⟨rfl, hb2⟩
          have HQB : Hid (QMem w2 w.heap.size (shlV a 1) q) := (HQA.out.setA (shlV a 1)).below hb2
          obtain ⟨c0, c1, c2, c3, c4, c5, f0, f1, f2, f3, f4, f5⟩ := HQB.out
          have z2 := hb2.size
          simp [World.setCell] at z2
          clear c0' c1' c2' c3' c4' c5' f0' f1' f2' f3' f4' f5'
          go_wp2
          go_roundw
          case rel =>
            refine ⟨k + 1, shlV a 1, 2 * q + 1, 2 * s + hiW a / 9223372036854775808 - b, by omega, by go_num, ?_, HN.out.1 (by omega), ?_, ?_, ?_⟩
            · refine congrArg (Value.int IntKind.u64) ?_; simp only [IntKind.wrap_u64]; omega
            · rw [EQ.out.1, EQ.out.2.2]; exact (HQB.out.setQ (2 * q)).bump (2 * q + 1) EQ.out.2.1
            · simp [World.setCell]; omega
            · exact ((((hb.trans (hb1.mono (by omega))).setCell (by simp) _).setCell (by simp) _).trans (hb2.mono (by simp [World.setCell]; omega))).setCell (by simp; omega) _ |>.setCell (by simp; omega) _ |>.setCell (by simp; omega) _
          case measure => simp [intOf]; omega
        · have ob : (s / 9223372036854775808 == 1) = false := by simp; omega
          by_cases hg : b ≤ s * 2 + hiW a / 9223372036854775808
          · have gb : decide (b ≤ s * 2 + hiW a / 9223372036854775808) = true := by simp [hg]
            go_wp2_with fail
            refine (rshl_num a 1 na (by omega) _).mono ?_
            rintro e w1 ⟨rfl, hb1⟩
            have HQA : Hid (QMem w1 w.heap.size a q) := QM.out.below hb1
            obtain ⟨c0', c1', c2', c3', c4', c5', f0', f1', f2', f3', f4', f5'⟩ := HQA.out
            have z1 := hb1.size
            clear c0 c1 c2 c3 c4 c5 f0 f1 f2 f3 f4 f5
            go_wp2_with fail
            refine (rshl_num q 1 nq (by omega) _).mono ?_
            rintro e w2 ⟨rfl, hb2⟩
            have HQB : Hid (QMem w2 w.heap.size (shlV a 1) q) := (HQA.out.setA (shlV a 1)).below hb2
            obtain ⟨c0, c1, c2, c3, c4, c5, f0, f1, f2, f3, f4, f5⟩ := HQB.out
            have z2 := hb2.size
            simp [World.setCell] at z2
            clear c0' c1' c2' c3' c4' c5' f0' f1' f2' f3' f4' f5'
            go_wp2
            go_roundw
            case rel =>
              refine ⟨k + 1, shlV a 1, 2 * q + 1, 2 * s + hiW a / 9223372036854775808 - b, by omega, by go_num, ?_, HN.out.1 (by omega), ?_, ?_, ?_⟩
              · exact congrArg (Value.int IntKind.u64) (by omega)
              · rw [EQ.out.1, EQ.out.2.2]; exact (HQB.out.setQ (2 * q)).bump (2 * q + 1) EQ.out.2.1
              · simp [World.setCell]; omega
              · exact ((((hb.trans (hb1.mono (by omega))).setCell (by simp) _).setCell (by simp) _).trans (hb2.mono (by simp [World.setCell]; omega))).setCell (by simp; omega) _ |>.setCell (by simp; omega) _ |>.setCell (by simp; omega) _
            case measure => simp [intOf]; omega
          · have gb : decide (b ≤ s * 2 + hiW a / 9223372036854775808) = false := by simp; omega
            go_wp2_with fail
            refine (rshl_num a 1 na (by omega) _).mono ?_
            rintro e w1 ⟨rfl, hb1⟩
            have HQA : Hid (QMem w1 w.heap.size a q) := QM.out.below hb1
            obtain ⟨c0', c1', c2', c3', c4', c5', f0', f1', f2', f3', f4', f5'⟩ := HQA.out
            have z1 := hb1.size
            clear c0 c1 c2 c3 c4 c5 f0 f1 f2 f3 f4 f5
            go_wp2_with fail
            refine (rshl_num q 1 nq (by omega) _).mono ?_
            rintro e w2 ⟨rfl, hb2⟩
            have HQB : Hid (QMem w2 w.heap.size (shlV a 1) q) := (HQA.out.setA (shlV a 1)).below hb2
            obtain ⟨c0, c1, c2, c3, c4, c5, f0, f1, f2, f3, f4, f5⟩ := HQB.out
            have z2 := hb2.size
            simp [World.setCell] at z2
            clear c0' c1' c2' c3' c4' c5' f0' f1' f2' f3' f4' f5'
            go_wp2
            go_roundw
            case rel =>
              refine ⟨k + 1, shlV a 1, 2 * q, 2 * s + hiW a / 9223372036854775808, by omega, by go_num, ?_, HN.out.2 (by omega), ?_, ?_, ?_⟩
              · exact congrArg (Value.int IntKind.u64) (by omega)
              · rw [EQ.out.1]; exact HQB.out.setQ (2 * q)
              · simp [World.setCell]; omega
              · exact ((((hb.trans (hb1.mono (by omega))).setCell (by simp) _).setCell (by simp) _).trans (hb2.mono (by simp [World.setCell]; omega))).setCell (by simp; omega) _ |>.setCell (by simp; omega) _
            case measure => simp [intOf]; omega
      · obtain rfl : k = 128 := by omega
        have HP : Hid (Part (val ah al) b 128 a q s) := hp
        have QM : Hid (QMem wr w.heap.size a q) := hq
        obtain ⟨c0, c1, c2, c3, c4, c5, f0, f1, f2, f3, f4, f5⟩ := hq
        clear hp
        go_wp2
        obtain ⟨u1, u2⟩ := part_end HP.out bp
        rw [← u1, ← u2]
        refine bodyPost_ret (v := .tuple #[.agg #[.int .u64 (hiW q), .int .u64 (loW q)], .int .u64 s, .bool true]) (by simp [results, Tryz.results52, go_sem, c2, c3]) rfl ⟨rfl, ?_⟩
        exact (hb.setCell (by simp) _).setCell (by simp) _
end Go.Proofs.YtjgllfpnmmopdaaGreatDoor
namespace Go.Proofs.YtjgllfpnmmopdaaGreatDoor
open Go.RowKit Wd

theorem radd_num (u v : Int) (hu : Num u) (hv : Num v) (w : World) :
    Calls Tryz.prog 53 #[.agg #[.int .u64 (hiW u), .int .u64 (loW u)], .agg #[.int .u64 (hiW v), .int .u64 (loW v)]] w fun e w' =>
      e = .returned (.tuple #[.agg #[.int .u64 (hiW (addV u v)), .int .u64 (loW (addV u v))], .bool (addB u v)]) ∧ Below w.heap.size w w' := by
  have c := radd_any (hiW u) (loW u) (hiW v) (loW v) (hi_word hu) (lo_word u) (hi_word hv) (lo_word v) w
  rw [val_words, val_words] at c
  exact c
theorem rdiv_yes (u b : Int) (hu : Num u) (hb : Word b) (h : b ≠ 0) (w : World) :
    Calls Tryz.prog 52 #[.agg #[.int .u64 (hiW u), .int .u64 (loW u)], .int .u64 b] w fun e w' =>
      e = .returned (.tuple #[.agg #[.int .u64 (hiW (u / b)), .int .u64 (loW (u / b))], .int .u64 (u % b), .bool true]) ∧ Below w.heap.size w w' := by
  have c := rdiv_any (hiW u) (loW u) b (hi_word hu) (lo_word u) hb w
  obtain ⟨e1, e2, e3, _⟩ := div_facts hu hb h
  rw [val_words, e1, e2, e3] at c
  exact c
theorem rdiv_no (u : Int) (hu : Num u) (w : World) :
    Calls Tryz.prog 52 #[.agg #[.int .u64 (hiW u), .int .u64 (loW u)], .int .u64 0] w fun e w' =>
      e = .returned (.tuple #[.agg #[.int .u64 0, .int .u64 0], .int .u64 0, .bool false]) ∧ Below w.heap.size w w' := by
  have c := rdiv_any (hiW u) (loW u) 0 (hi_word hu) (lo_word u) ⟨by omega, by omega⟩ w
  rw [val_words] at c
  exact c

theorem small_num (u : Int) (hu : Num u) (w : World) :
    Calls Tryz.prog 104 #[.agg #[.int .u64 (hiW u), .int .u64 (loW u)]] w fun e w' => e = .returned (.tuple #[.int .u64 (narV u), .bool (narB u)]) ∧ Below w.heap.size w w' := by
  by_cases h : hiW u = 0
  · obtain ⟨e1, e2⟩ := nar_hi hu h
    rw [e1, e2, h]
    go_enter Tryz.func104, Tryz.ntmps104
    go_wp2
    go_ret2
    exact ⟨rfl, (Below.refl _ _).alloc (Nat.le_refl _) _⟩
  · obtain ⟨e1, e2⟩ := nar_no hu h
    rw [e1, e2]
    have k : 0 < hiW u := by have := (hi_word hu).1; omega
    go_enter Tryz.func104, Tryz.ntmps104
    go_wp2
    go_ret2
    exact ⟨rfl, (Below.refl _ _).alloc (Nat.le_refl _) _⟩

theorem one_num : Num 1 := ⟨by omega, by unfold top; omega⟩
/-- A number of two words that lies in block g. -/
def Twoq (w : World) (g : Nat) (x y : Int) : Prop := w.cell? ⟨g, 0, none⟩ = some (.int .u64 x) ∧ w.cell? ⟨g, 1, none⟩ = some (.int .u64 y)
theorem trans_keepq {P w1 w2 : World} (h1 : ∀ a, (P.cell? a).isSome = true → w1.cell? a = P.cell? a) (h2 : ∀ a, (w1.cell? a).isSome = true → w2.cell? a = w1.cell? a) : ∀ a, (P.cell? a).isSome = true → w2.cell? a = P.cell? a :=
  fun a h => (h2 a (by rw [h1 a h]; exact h)).trans (h1 a h)
theorem trans_keepFq {P w1 w2 : World} (h1 : ∀ a, (P.cell? a).isSome = true → w1.cell? a = P.cell? a) (f1 : ∀ a, (P.cell? a).isSome = true → w1.frozen? a = P.frozen? a) (f2 : ∀ a, (w1.cell? a).isSome = true → w2.frozen? a = w1.frozen? a) : ∀ a, (P.cell? a).isSome = true → w2.frozen? a = P.frozen? a :=
  fun a h => (f2 a (by rw [h1 a h]; exact h)).trans (f1 a h)

theorem rqadd_any (a b : Int) (ha : Word a) (hb : Word b) (w : World) :
    Calls Tryz.prog 81 #[.int .u64 a, .int .u64 b] w fun e w' => e = .returned (.tuple #[.int .u64 (narV (a + b)), .bool (narB (a + b))]) ∧ Below w.heap.size w w' := by
  obtain ⟨ea, na⟩ := add_words ha hb
  go_enter Tryz.func81, Tryz.ntmps81
  go_wp2_with fail
  refine (rof_num a ha _).mono ?_
  rintro e w1 ⟨rfl, hb1⟩
  go_wp2_with fail
  refine (rof_num b hb _).mono ?_
  rintro e w2 ⟨rfl, hb2⟩
  go_wp2_with fail
  refine (radd_num a b (num_small ha) (num_small hb) _).mono ?_
  rw [ea]
  rintro e w3 ⟨rfl, hb3⟩
  go_wp2_with fail
  refine (small_num (a + b) na _).mono ?_
  rintro e w4 ⟨rfl, hb4⟩
  go_wp2
  go_ret2
  have z1 := hb1.size
  have z2 := hb2.size
  have z3 := hb3.size
  exact ⟨rfl, (((hb1.trans (hb2.mono z1)).trans (hb3.mono (by omega))).alloc (by omega) _).trans (hb4.mono (by simp; omega))⟩

end Go.Proofs.YtjgllfpnmmopdaaGreatDoor
