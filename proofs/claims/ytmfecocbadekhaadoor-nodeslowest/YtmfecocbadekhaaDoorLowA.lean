/-
  THE STATEMENT NodesLowest, walked.
-/
import Derived.Test.YtmfecocbadekhaaDoorMathL
import Derived.Test.YtmfecocbadekhaaDoorShown
import Derived.Deep.RegionWith
import Derived.Deep.RegionHeld3
import Derived.Deep.CutBlock
import Derived.Deep.DeepCutAuto
namespace Go.Proofs.YtmfecocbadekhaaDoor
open Go.RowKit Nd

theorem SetIn.of_heap {w w' : World} {b n F : Nat} (h : SetIn w b n F) (e : w'.heap = w.heap) : SetIn w' b n F :=
  ⟨fun j hj => by have := h.tab j hj; unfold World.cell? at this ⊢; rw [e]; exact this, h.nz, by rw [e]; exact h.blk, h.lo, h.hi, h.top⟩
theorem own_heap {w w' : World} {base n : Nat} {v : Value} {xs : List Value} (h : w.ownsRow base 3 1 v n xs) (e : w'.heap = w.heap) : w'.ownsRow base 3 1 v n xs := by
  unfold World.ownsRow at h ⊢
  rw [e]
  exact h

theorem own_cells0 {w : World} {base g n cap : Nat} {l : List Nat} (h : w.ownsRow base 3 1 (.slice (some ⟨g, 0, none⟩) n cap) n (vals l)) (j : Nat) (hj : j < l.length) : w.cell? ⟨g, j, none⟩ = some (.int .i64 (nth l j)) := by
  have := own_cells h j hj
  rwa [Nat.zero_add] at this
theorem free_b (b n F : Nat) (w : World) (h : SetIn w b n F) : Calls Tryd.prog 17 #[.pointer (some ⟨b, 0, none⟩)] w fun e w' => e = .returned (.int .i64 (lst F).length) ∧ Below w.heap.size w w' :=
  (free_any b n F w h).mono fun _ _ ⟨he, hw⟩ => ⟨he, by rw [hw]; exact Below.refl _ _⟩
/-- What NodesLowest's world holds behind Take: the set, the two lists, all that was there. -/
structure Mid (w : World) (bs gw gl n F F' q : Nat) (w' : World) : Prop where
  set : SetIn w' bs n F'
  was : w'.ownsRow gw 3 1 (.slice (some ⟨gw, 0, none⟩) (lst F).length (lst F).length) (lst F).length (vals (lst F))
  got : w'.ownsRow gl 3 1 (.slice (some ⟨gl, 0, none⟩) q q) q (vals ((lst F).take q))
  below : Below w.heap.size w w'
  size : w.heap.size ≤ w'.heap.size
theorem Mid.keep {w w1 w2 : World} {bs gw gl n F F' q : Nat} (hb : Below w1.heap.size w1 w2) (h : Mid w bs gw gl n F F' q w1) : Mid w bs gw gl n F F' q w2 :=
  ⟨h.set.below hb, own_below h.was hb, own_below h.got hb, below_on h.below hb h.size, Nat.le_trans h.size hb.size⟩

theorem Mid.grown {w w1 w2 : World} {bs gw gl n F F' F'' q : Nat} (hg : w1.grownBy w2 (some bs)) (hs : SetIn w2 bs n F'') (h : Mid w bs gw gl n F F' q w1) (h1 : bs < gw) (h2 : bs < gl) (h3 : w.heap.size ≤ bs) : Mid w bs gw gl n F F'' q w2 :=
  ⟨hs, own_gr h.was hg (by omega), own_gr h.got hg (by omega), h.below.grown hg h.size (fun j hj => by simp at hj; omega), Nat.le_trans h.size hg.size⟩
def MidE (w : World) (bs gw gl n F q : Nat) (w' : World) : Prop := ∃ F', Mid w bs gw gl n F F' q w'
theorem MidE.keep {w w1 w2 : World} {bs gw gl n F q : Nat} (hb : Below w1.heap.size w1 w2) (h : MidE w bs gw gl n F q w1) : MidE w bs gw gl n F q w2 := h.elim fun _ m => ⟨_, Mid.keep hb m⟩
theorem MidE.grown {w w1 w2 : World} {bs gw gl n F F'' q : Nat} (hg : w1.grownBy w2 (some bs)) (hs : SetIn w2 bs n F'') (h : MidE w bs gw gl n F q w1) (h1 : bs < gw) (h2 : bs < gl) (h3 : w.heap.size ≤ bs) : MidE w bs gw gl n F q w2 := h.elim fun _ m => ⟨_, Mid.grown hg hs m h1 h2 h3⟩
theorem MidE.was {w w' : World} {bs gw gl n F q : Nat} (h : MidE w bs gw gl n F q w') : w'.ownsRow gw 3 1 (.slice (some ⟨gw, 0, none⟩) (lst F).length (lst F).length) (lst F).length (vals (lst F)) := h.elim fun _ m => m.was
theorem MidE.got {w w' : World} {bs gw gl n F q : Nat} (h : MidE w bs gw gl n F q w') : w'.ownsRow gl 3 1 (.slice (some ⟨gl, 0, none⟩) q q) q (vals ((lst F).take q)) := h.elim fun _ m => m.got
theorem MidE.below {w w' : World} {bs gw gl n F q : Nat} (h : MidE w bs gw gl n F q w') : Below w.heap.size w w' := h.elim fun _ m => m.below
theorem Mid.drew {w w' : World} {bs gw gl n F F' q : Nat} (h : Mid w bs gw gl n F F' q w') : Mid w bs gw gl n F F' q w'.drew := ⟨h.set.of_heap rfl, own_heap h.was rfl, own_heap h.got rfl, h.below.drew, h.size⟩

set_option maxHeartbeats 2000000 in
set_option maxRecDepth 20000 in
/-- A machine that there can't be. -/
theorem lowest_no (n many : Int) (m cap : Nat) (ao : Option Addr) (w : World) (hT : Tab w) (h : n < 1 ∨ 256 < n) :
    Calls Tryd.prog 4 #[.int .i64 n, .slice ao m cap, .int .i64 many] w fun e w' => e = .returned (.bool true) ∧ Below w.heap.size w w' := by
  go_enter Tryd.func4, Tryd.ntmps4
  go_wp2_with (first | (go_at_call 6; refine (shown_any _ hT).mono ?_; rintro e w1 ⟨rfl, hb1⟩) | (go_at_call 7; refine (new_no n _ h).mono ?_; rintro e w2 ⟨rfl, rfl⟩))
  go_ret
  exact ⟨rfl, hb1⟩

set_option maxHeartbeats 20000000 in
set_option maxRecDepth 20000 in
theorem lowest_yes (n : Nat) (many : Int) (g o m cap : Nat) (ao : Option Addr) (f : Nat → Int) (w : World) (hT : Tab w) (h1 : 1 ≤ n) (h2 : n ≤ 256) (hao : 0 < m → ao = some ⟨g, o, none⟩) (hm : m ≤ 140737488355328) (hgw : g < w.heap.size)
    (hc : ∀ j, j < m → w.cell? ⟨g, o + j, none⟩ = some (.int .i64 (f j))) :
    Calls Tryd.prog 4 #[.int .i64 n, .slice ao m cap, .int .i64 many] w fun e w' => e = .returned (.bool true) ∧ Below w.heap.size w w' := by
  go_enter Tryd.func4, Tryd.ntmps4
  go_wp2_with (first | (go_at_call 6; refine (shown_any _ hT).mono ?_; rintro e w1 ⟨rfl, hb1⟩) | (go_at_call 7; refine (new_yes n _ h1 h2 (below_tab hb1 hT)).mono ?_; rintro e w2 ⟨rfl, hs2, hb2⟩))
  have hb12 := below_on hb1 hb2 hb1.size
  have hz1 := hb1.size
  go_loopg [9] (if m < 2000 then m else 2000) (fun gk c wr => ∃ k F : Nat, k + gk = (if m < 2000 then m else 2000) ∧ c = .int .i64 k ∧ SetIn wr w1.heap.size n F ∧ Below w.heap.size w wr)
  case atStart => exact ⟨0, 2 ^ n - 1, by omega, rfl, hs2, hb12⟩
  case round =>
    clear hs2 hb12 hb2
    obtain ⟨k, F, hk, rfl, hs, hb⟩ := hrel
    by_cases hin : k < m ∧ k < 2000
    · obtain ⟨hlt, hlt2⟩ := hin
      have ha := hao (by omega)
      subst ha
      have hck := keepB hb hgw (hc k hlt)
      go_wp2_with fail
      refine (claim_any w1.heap.size n F _ 0 1 _ _ (nthI [f k]) _ (hs.below (Below.alloc1 _ _)) (fun _ => rfl) (by have := hs.lt; omega) (by decide) (fun j hj => lit_cells _ [f k] j hj)).mono ?_
      rintro e w3 ⟨rfl, hs3, hg3⟩
      have hb3 := (hb.alloc hb.size (.cells ([f k].map (Value.int .i64)).toArray 3)).grown hg3 (by have := hb.size; simp; omega) (fun j hj => by simp at hj; omega)
      clear hs hb hck
      go_wp2
      go_roundg ((if m < 2000 then m else 2000) - (k + 1))
      case measure => split at hk <;> split <;> omega
      case rel => exact ⟨k + 1, _, by split at hk <;> split <;> omega, by go_num, hs3, hb3⟩
    · clear hc hm hgw hk
      have hz := hs.lt
      have hzw := hb.size
      by_cases hlt : k < m
      all_goals
        go_wp2_with (go_at_call 12; refine (list_any w1.heap.size n F _ hs).mono ?_; rintro e w3 ⟨rfl, ho3, hb3⟩; have hs3 := hs.below hb3)
        have hb03 := below_on hb hb3 hzw
        have hz3 := hs3.lt
        clear hs hb
        by_cases hm1 : many < 1
        · refine (take_many w1.heap.size n F many _ hs3 hm1).mono ?_
          rintro e w4 ⟨rfl, rfl⟩
          go_wp2_with fail
          refine (list_any w1.heap.size n F _ hs3).mono ?_
          rintro e w5 ⟨rfl, ho5, hb5⟩
          have ho53 := own_below ho3 hb5
          have hb05 := below_on hb03 hb5 (by have := hb3.size; omega)
          go_wp2_with fail
          refine (same_b _ 0 _ _ _ 0 _ _ _ _ (nth (lst F)) (nth (lst F)) _ (fun _ => rfl) (fun _ => rfl) (by have := lst_len F; omega) (by have := lst_len F; omega) (fun j hj => own_cells ho5 j hj) (fun j hj => own_cells ho53 j hj)).mono ?_
          rintro e w6 ⟨rfl, hb6⟩
          rw [same_self _ _ _ (fun _ _ => rfl)]
          have hb06 := below_on hb05 hb6 (by have := hb3.size; have := hb5.size; omega)
          go_wp2_with fail
          go_ret
          exact ⟨rfl, hb06⟩
        · by_cases hm2 : (lst F).length < many
          · refine (take_free w1.heap.size n F many _ hs3 (by omega) hm2).mono ?_
            rintro e w4 ⟨rfl, rfl⟩
            go_wp2_with fail
            refine (list_any w1.heap.size n F _ hs3).mono ?_
            rintro e w5 ⟨rfl, ho5, hb5⟩
            have ho53 := own_below ho3 hb5
            have hb05 := below_on hb03 hb5 (by have := hb3.size; omega)
            go_wp2_with fail
            refine (same_b _ 0 _ _ _ 0 _ _ _ _ (nth (lst F)) (nth (lst F)) _ (fun _ => rfl) (fun _ => rfl) (by have := lst_len F; omega) (by have := lst_len F; omega) (fun j hj => own_cells ho5 j hj) (fun j hj => own_cells ho53 j hj)).mono ?_
            rintro e w6 ⟨rfl, hb6⟩
            rw [same_self _ _ _ (fun _ _ => rfl)]
            have hb06 := below_on hb05 hb6 (by have := hb3.size; have := hb5.size; omega)
            go_wp2_with fail
            go_ret
            exact ⟨rfl, hb06⟩
          · obtain ⟨q, rfl⟩ : ∃ q : Nat, many = q := ⟨many.toNat, by omega⟩
            have hq1 : 1 ≤ q := by omega
            have hq2 : q ≤ (lst F).length := by omega
            rcases Nat.lt_or_ge q (lst F).length with hqe | hqe
            · have hne : ¬ (lst F).length = q := by omega
              have HE : Hid _ := ends n F q hs3.bit hq1 hq2
              have HT : Hid (lst (takeF F q) = (lst F).drop q) := lst_take F q hq2
              refine (take_ok w1.heap.size n F q _ hs3 hq1 hq2).mono ?_
              rintro e w4 ⟨rfl, ho4, hs4, hg4⟩
              have ho43 := own_gr ho3 hg4 (by omega)
              have hb04 : Below w.heap.size w w4 := hb03.grown hg4 (by have := hb3.size; omega) (fun j hj => by simp at hj; omega)
              have hzz := hg4.size
              have hz34 := hb3.size
              clear hg4 ho3 hs3 hb3 hb03
              have hbz : (lst F).length ≤ 140737488355328 := by have := lst_len F; omega
              have hbz' : (lst (takeF F q)).length ≤ 140737488355328 := by have := lst_len (takeF F q); omega
              have hlen' : ((lst F).take q).length = q := by simp <;> omega
              have HL : Hid (((lst F).take q).length = q) := hlen'
              clear hlen'
              have hld : (lst (takeF F q)).length = (lst F).length - q := by rw [HT.out]; simp
              have HS1 : Hid (sameB q q (nth ((lst F).take q)) (nth (lst F)) = true) := same_self _ _ _ (fun j hj => nth_take _ _ _ hj)
              have HS2 : Hid (∀ m', m' = (lst F).length - q → sameB (lst (takeF F q)).length m' (nth (lst (takeF F q))) (fun j => nth (lst F) (q + j)) = true) := by
                intro m' hm'
                rw [hm', ← hld]
                refine same_self _ _ _ (fun j _ => ?_)
                rw [HT.out]
                exact nth_drop _ _ _
              have hwr : IntKind.i64.wrap (((lst F).length : Int) - (q : Int)) = ((lst (takeF F q)).length : Int) := by
                have := lst_len F
                rw [IntKind.wrap_i64]
                omega
              have hS3 : (((lst (takeF F q)).length : Int) != IntKind.i64.wrap (((lst F).length : Int) - (q : Int))) = false := by rw [hwr]; simp
              have hS4 : (((lst (takeF F q)).length : Int) == IntKind.i64.wrap (((lst F).length : Int) - (q : Int))) = true := by rw [hwr]; simp
              clear hwr
              clear hld
              generalize w1.heap.size = bs at *
              generalize wr.heap.size = gw at *
              generalize w3.heap.size = gl at *
              have hd1 : decide ((q : Int) < 1) = false := by simp; omega
              have hd2 : decide ((lst F).length < q) = false := by simp; omega
              have hd3 : ((q : Int) != (q : Int)) = false := by simp
              have HM : Hid (Mid w bs gw gl n F (takeF F q) q w4.drew) := ⟨hs4.of_heap rfl, own_heap ho43 rfl, own_heap ho4 rfl, hb04.drew, hb04.size⟩
              clear hs4 ho43 ho4 hb04
              go_wp2_with fail
              go_region_held3 (fun w' => Mid w bs gw gl n F (takeF F q) q w') (first | exact HM.out | exact Mid.keep (by assumption) (by assumption))
                (first
                | (go_at_call_of 13 (Value.slice (some (Addr.mk gl 0 none)) q q); refine (same_b gl 0 q q gw 0 q _ _ _ (nth ((lst F).take q)) (nth (lst F)) _ (fun _ => rfl) (fun _ => rfl) (by omega) (by omega) ?_ ?_).mono ?_; (intro j hj; exact own_cells (Mid.got (by assumption)) j (by rw [HL.out]; exact hj)); (intro j hj; exact own_cells (Mid.was (by assumption)) j (by omega)); rintro e x ⟨rfl, hx⟩; rw [HS1.out])
                | (go_at_call 12; refine (list_any bs n (takeF F q) _ ?_).mono ?_; (exact Mid.set (by assumption)); rintro e x ⟨rfl, hox, hx⟩)
                | (go_at_call 13; refine (same_b _ 0 _ _ gw q _ _ _ _ (nth (lst (takeF F q))) (fun j => nth (lst F) (q + j)) _ (fun _ => rfl) ?_ (by omega) (by omega) ?_ ?_).mono ?_; (intro hpos; first | rfl | omega); (intro j hj; exact own_cells hox j hj); (intro j hj; exact own_cells0 (Mid.was (by assumption)) (q + j) (by omega)); rintro e x ⟨rfl, hx⟩; rw [HS2.out _ (by omega)])
                | (go_at_call 17; refine (free_b bs n (takeF F q) _ ?_).mono ?_; (exact Mid.set (by assumption)); rintro e x ⟨rfl, hx⟩))
              have M0 : Mid w bs gw gl n F (takeF F q) q x := by assumption
              clear HM
              have HH : Hid (∀ j, j < q → hasB (takeF F q) (nth ((lst F).take q) j) = false) := fun j hj => taken_at F q j hq2 (by rw [HL.out]; exact hj)
              go_wp2
              go_loopg [14] q (fun gk c wr => ∃ k : Nat, k + gk = q ∧ c = .int .i64 k ∧ wr = x)
              case atStart => exact ⟨0, by omega, rfl, rfl⟩
              case round =>
                obtain ⟨i, hi, rfl, rfl⟩ := hrel
                by_cases hiq : i < q
                · have hci := own_cells0 M0.got i (by rw [HL.out]; exact hiq)
                  have hhi := HH.out i hiq
                  go_wp2_with (go_at_call 18; refine (has_any bs n (takeF F q) _ _ M0.set).mono ?_; rintro e y ⟨rfl, rfl⟩; rw [hhi])
                  go_roundg (q - (i + 1))
                  case measure => omega
                  case rel => exact ⟨i + 1, by omega, by go_num, rfl⟩
                · go_wp2_with fail
                  refine (claim_any bs n _ gl 0 q q _ (nth ((lst F).take q)) _ M0.set (fun _ => rfl) (by omega) (by omega) (fun j hj => own_cells M0.got j (by rw [HL.out]; exact hj))).mono ?_
                  rintro e y1 ⟨rfl, s1, g1⟩
                  rw [HE.out.1]
                  rw [HE.out.2.1] at s1
                  have M1 := Mid.grown g1 s1 M0 hz hz3 hz1
                  clear s1 g1
                  go_wp2_with fail
                  refine (give_any bs n _ gl 0 q q _ (nth ((lst F).take q)) _ M1.set (fun _ => rfl) (by omega) (by omega) (fun j hj => own_cells M1.got j (by rw [HL.out]; exact hj))).mono ?_
                  rintro e y2 ⟨rfl, s2, g2⟩
                  rw [HE.out.2.2.1]
                  rw [HE.out.2.2.2.1] at s2
                  have M2 := Mid.grown g2 s2 M1 hz hz3 hz1
                  clear s2 g2 M1
                  go_wp2_with fail
                  refine (list_any bs n F _ M2.set).mono ?_
                  rintro e y3 ⟨rfl, ho3, hb3⟩
                  have M3 := Mid.keep hb3 M2
                  clear hb3
                  go_wp2_with fail
                  refine (same_b _ 0 _ _ _ 0 _ _ _ _ (nth (lst F)) (nth (lst F)) _ (fun _ => rfl) (fun _ => rfl) (by omega) (by omega) (fun j hj => own_cells ho3 j hj) (fun j hj => own_cells M3.was j hj)).mono ?_
                  rintro e y4 ⟨rfl, hb4⟩
                  rw [same_self _ _ _ (fun _ _ => rfl)]
                  have M4 := Mid.keep hb4 M3
                  clear hb4 M3 ho3 M2
                  go_wp2_with fail
                  refine (give_any bs n _ gl 0 q q _ (nth ((lst F).take q)) _ M4.set (fun _ => rfl) (by omega) (by omega) (fun j hj => own_cells M4.got j (by rw [HL.out]; exact hj))).mono ?_
                  rintro e y5 ⟨rfl, s5, g5⟩
                  rw [HE.out.2.2.2.2.1]
                  rw [HE.out.2.2.2.2.2.1] at s5
                  have M5 := Mid.grown g5 s5 M4 hz hz3 hz1
                  clear s5 g5 M4
                  have HM5 : Hid (Mid w bs gw gl n F F q y5.drew) := M5.drew
                  clear M5
                  go_wp2_with fail
                  go_region_held3 (fun w' => MidE w bs gw gl n F q w') (first | exact ⟨_, HM5.out⟩ | exact MidE.keep (by assumption) (by assumption) | exact MidE.grown (by assumption) (by assumption) (by assumption) hz hz3 hz1)
                    (first
                    | (go_at_call 15; refine (claim_any bs n F gl 0 q q _ (nth ((lst F).take q)) _ ?_ (fun _ => rfl) (by omega) (by omega) ?_).mono ?_; (exact HM5.out.set); (intro j hj; exact own_cells (MidE.got (by assumption)) j (by rw [HL.out]; exact hj)); rintro e z ⟨rfl, hsz, hgz⟩; rw [HE.out.2.2.2.2.2.2.1]; rw [HE.out.2.2.2.2.2.2.2] at hsz)
                    | (go_at_call 12; refine (list_any bs n (takeF F q) _ ?_).mono ?_; (exact hsz); rintro e z ⟨rfl, hoz, hz9⟩)
                    | (go_at_call 13; refine (same_b _ 0 _ _ gw q _ _ _ _ (nth (lst (takeF F q))) (fun j => nth (lst F) (q + j)) _ (fun _ => rfl) ?_ (by omega) (by omega) ?_ ?_).mono ?_; (intro hpos; first | rfl | omega); (intro j hj; exact own_cells hoz j hj); (intro j hj; exact own_cells0 (MidE.was (by assumption)) (q + j) (by omega)); rintro e z ⟨rfl, hz9⟩; rw [HS2.out _ (by omega)]))
                  have ME : MidE w bs gw gl n F q z := by assumption
                  have hBz := ME.below
                  clear ME
                  go_wp2
                  go_ret
                  exact ⟨rfl, hBz⟩
            · have hqe' : q = (lst F).length := by omega
              subst hqe'
              have HE : Hid _ := ends n F (lst F).length hs3.bit hq1 hq2
              have HT : Hid (lst (takeF F (lst F).length) = (lst F).drop (lst F).length) := lst_take F (lst F).length hq2
              refine (take_ok w1.heap.size n F (lst F).length _ hs3 hq1 hq2).mono ?_
              rintro e w4 ⟨rfl, ho4, hs4, hg4⟩
              have ho43 := own_gr ho3 hg4 (by omega)
              have hb04 : Below w.heap.size w w4 := hb03.grown hg4 (by have := hb3.size; omega) (fun j hj => by simp at hj; omega)
              have hzz := hg4.size
              have hz34 := hb3.size
              clear hg4 ho3 hs3 hb3 hb03
              have hbz : (lst F).length ≤ 140737488355328 := by have := lst_len F; omega
              have hbz' : (lst (takeF F (lst F).length)).length ≤ 140737488355328 := by have := lst_len (takeF F (lst F).length); omega
              have hlen' : ((lst F).take (lst F).length).length = (lst F).length := by simp
              have HL : Hid (((lst F).take (lst F).length).length = (lst F).length) := hlen'
              clear hlen'
              have hld : (lst (takeF F (lst F).length)).length = (lst F).length - (lst F).length := by rw [HT.out]; simp
              have HS1 : Hid (sameB (lst F).length (lst F).length (nth ((lst F).take (lst F).length)) (nth (lst F)) = true) := same_self _ _ _ (fun j hj => nth_take _ _ _ hj)
              have HS2 : Hid (∀ m', m' = (lst F).length - (lst F).length → sameB (lst (takeF F (lst F).length)).length m' (nth (lst (takeF F (lst F).length))) (fun j => nth (lst F) ((lst F).length + j)) = true) := by
                intro m' hm'
                rw [hm', ← hld]
                refine same_self _ _ _ (fun j _ => ?_)
                rw [HT.out]
                exact nth_drop _ _ _
              have hwr : IntKind.i64.wrap (((lst F).length : Int) - ((lst F).length : Int)) = ((lst (takeF F (lst F).length)).length : Int) := by
                have := lst_len F
                rw [IntKind.wrap_i64]
                omega
              have hS3 : (((lst (takeF F (lst F).length)).length : Int) != IntKind.i64.wrap (((lst F).length : Int) - ((lst F).length : Int))) = false := by rw [hwr]; simp
              have hS4 : (((lst (takeF F (lst F).length)).length : Int) == IntKind.i64.wrap (((lst F).length : Int) - ((lst F).length : Int))) = true := by rw [hwr]; simp
              have hS5 : (((lst (takeF F (lst F).length)).length : Int) != IntKind.i64.wrap 0) = false := by rw [show (lst (takeF F (lst F).length)).length = 0 by omega]; rfl
              have hS6 : (((lst (takeF F (lst F).length)).length : Int) == IntKind.i64.wrap 0) = true := by rw [show (lst (takeF F (lst F).length)).length = 0 by omega]; rfl
              clear hwr
              clear hld
              generalize w1.heap.size = bs at *
              generalize wr.heap.size = gw at *
              generalize w3.heap.size = gl at *
              have hd1 : decide (((lst F).length : Int) < 1) = false := by simp; omega
              have hd2 : decide ((lst F).length < (lst F).length) = false := by simp
              have hd3 : (((lst F).length : Int) != ((lst F).length : Int)) = false := by simp
              have HM : Hid (Mid w bs gw gl n F (takeF F (lst F).length) (lst F).length w4.drew) := ⟨hs4.of_heap rfl, own_heap ho43 rfl, own_heap ho4 rfl, hb04.drew, hb04.size⟩
              clear hs4 ho43 ho4 hb04
              go_wp2_with fail
              go_region_held3 (fun w' => Mid w bs gw gl n F (takeF F (lst F).length) (lst F).length w') (first | exact HM.out | exact Mid.keep (by assumption) (by assumption))
                (first
                | (go_at_call_of 13 (Value.slice (some (Addr.mk gl 0 none)) (lst F).length (lst F).length); refine (same_b gl 0 (lst F).length (lst F).length gw 0 (lst F).length _ _ _ (nth ((lst F).take (lst F).length)) (nth (lst F)) _ (fun _ => rfl) (fun _ => rfl) (by omega) (by omega) ?_ ?_).mono ?_; (intro j hj; exact own_cells (Mid.got (by assumption)) j (by rw [HL.out]; exact hj)); (intro j hj; exact own_cells (Mid.was (by assumption)) j (by omega)); rintro e x ⟨rfl, hx⟩; rw [HS1.out])
                | (go_at_call 12; refine (list_any bs n (takeF F (lst F).length) _ ?_).mono ?_; (exact Mid.set (by assumption)); rintro e x ⟨rfl, hox, hx⟩)
                | (go_at_call 13; refine (same_b _ 0 _ _ gw (lst F).length _ _ _ _ (nth (lst (takeF F (lst F).length))) (fun j => nth (lst F) ((lst F).length + j)) _ (fun _ => rfl) ?_ (by omega) (by omega) ?_ ?_).mono ?_; (intro hpos; first | rfl | omega); (intro j hj; exact own_cells hox j hj); (intro j hj; exact own_cells0 (Mid.was (by assumption)) ((lst F).length + j) (by omega)); rintro e x ⟨rfl, hx⟩; rw [HS2.out _ (by omega)])
                | (go_at_call 17; refine (free_b bs n (takeF F (lst F).length) _ ?_).mono ?_; (exact Mid.set (by assumption)); rintro e x ⟨rfl, hx⟩))
              have M0 : Mid w bs gw gl n F (takeF F (lst F).length) (lst F).length x := by assumption
              clear HM
              have HH : Hid (∀ j, j < (lst F).length → hasB (takeF F (lst F).length) (nth ((lst F).take (lst F).length) j) = false) := fun j hj => taken_at F (lst F).length j hq2 (by rw [HL.out]; exact hj)
              go_wp2
              go_loopg [14] (lst F).length (fun gk c wr => ∃ k : Nat, k + gk = (lst F).length ∧ c = .int .i64 k ∧ wr = x)
              case atStart => exact ⟨0, by omega, rfl, rfl⟩
              case round =>
                obtain ⟨i, hi, rfl, rfl⟩ := hrel
                by_cases hiq : i < (lst F).length
                · have hci := own_cells0 M0.got i (by rw [HL.out]; exact hiq)
                  have hhi := HH.out i hiq
                  rw [List.take_length] at hci hhi
                  go_wp2_with (go_at_call 18; refine (has_any bs n (takeF F (lst F).length) _ _ M0.set).mono ?_; rintro e y ⟨rfl, rfl⟩; rw [hhi])
                  go_roundg ((lst F).length - (i + 1))
                  case measure => omega
                  case rel => exact ⟨i + 1, by omega, by go_num, rfl⟩
                · go_wp2_with fail
                  refine (claim_any bs n _ gl 0 (lst F).length (lst F).length _ (nth ((lst F).take (lst F).length)) _ M0.set (fun _ => rfl) (by omega) (by omega) (fun j hj => own_cells M0.got j (by rw [HL.out]; exact hj))).mono ?_
                  rintro e y1 ⟨rfl, s1, g1⟩
                  rw [HE.out.1]
                  rw [HE.out.2.1] at s1
                  have M1 := Mid.grown g1 s1 M0 hz hz3 hz1
                  clear s1 g1
                  go_wp2_with fail
                  refine (give_any bs n _ gl 0 (lst F).length (lst F).length _ (nth ((lst F).take (lst F).length)) _ M1.set (fun _ => rfl) (by omega) (by omega) (fun j hj => own_cells M1.got j (by rw [HL.out]; exact hj))).mono ?_
                  rintro e y2 ⟨rfl, s2, g2⟩
                  rw [HE.out.2.2.1]
                  rw [HE.out.2.2.2.1] at s2
                  have M2 := Mid.grown g2 s2 M1 hz hz3 hz1
                  clear s2 g2 M1
                  go_wp2_with fail
                  refine (list_any bs n F _ M2.set).mono ?_
                  rintro e y3 ⟨rfl, ho3, hb3⟩
                  have M3 := Mid.keep hb3 M2
                  clear hb3
                  go_wp2_with fail
                  refine (same_b _ 0 _ _ _ 0 _ _ _ _ (nth (lst F)) (nth (lst F)) _ (fun _ => rfl) (fun _ => rfl) (by omega) (by omega) (fun j hj => own_cells ho3 j hj) (fun j hj => own_cells M3.was j hj)).mono ?_
                  rintro e y4 ⟨rfl, hb4⟩
                  rw [same_self _ _ _ (fun _ _ => rfl)]
                  have M4 := Mid.keep hb4 M3
                  clear hb4 M3 ho3 M2
                  go_wp2_with fail
                  refine (give_any bs n _ gl 0 (lst F).length (lst F).length _ (nth ((lst F).take (lst F).length)) _ M4.set (fun _ => rfl) (by omega) (by omega) (fun j hj => own_cells M4.got j (by rw [HL.out]; exact hj))).mono ?_
                  rintro e y5 ⟨rfl, s5, g5⟩
                  rw [HE.out.2.2.2.2.1]
                  rw [HE.out.2.2.2.2.2.1] at s5
                  have M5 := Mid.grown g5 s5 M4 hz hz3 hz1
                  clear s5 g5 M4
                  have HM5 : Hid (Mid w bs gw gl n F F (lst F).length y5.drew) := M5.drew
                  clear M5
                  go_wp2_with fail
                  go_region_held3 (fun w' => MidE w bs gw gl n F (lst F).length w') (first | exact ⟨_, HM5.out⟩ | exact MidE.keep (by assumption) (by assumption) | exact MidE.grown (by assumption) (by assumption) (by assumption) hz hz3 hz1)
                    (first
                    | (go_at_call 15; refine (claim_any bs n F gl 0 (lst F).length (lst F).length _ (nth ((lst F).take (lst F).length)) _ ?_ (fun _ => rfl) (by omega) (by omega) ?_).mono ?_; (exact HM5.out.set); (intro j hj; exact own_cells (MidE.got (by assumption)) j (by rw [HL.out]; exact hj)); rintro e z ⟨rfl, hsz, hgz⟩; rw [HE.out.2.2.2.2.2.2.1]; rw [HE.out.2.2.2.2.2.2.2] at hsz)
                    | (go_at_call 12; refine (list_any bs n (takeF F (lst F).length) _ ?_).mono ?_; (exact hsz); rintro e z ⟨rfl, hoz, hz9⟩)
                    | (go_at_call 13; refine (same_b _ 0 _ _ gw (lst F).length _ _ _ _ (nth (lst (takeF F (lst F).length))) (fun j => nth (lst F) ((lst F).length + j)) _ (fun _ => rfl) ?_ (by omega) (by omega) ?_ ?_).mono ?_; (intro hpos; first | rfl | omega); (intro j hj; exact own_cells hoz j hj); (intro j hj; exact own_cells0 (MidE.was (by assumption)) ((lst F).length + j) (by omega)); rintro e z ⟨rfl, hz9⟩; rw [HS2.out _ (by omega)]))
                  have ME : MidE w bs gw gl n F (lst F).length z := by assumption
                  have hBz := ME.below
                  clear ME
                  go_wp2
                  go_ret
                  exact ⟨rfl, hBz⟩
end Go.Proofs.YtmfecocbadekhaaDoor
