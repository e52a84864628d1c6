/-
  Layer 8's reference: split.
-/
import Derived.Test.YtokpcpmkilikaaaDoorRvD
import Derived.Maps.AppendAt
import Derived.Laws.Rows
namespace Go.Proofs.YtokpcpmkilikaaaDoor
open Go.RowKit Vb

namespace Vb
/-- What stands ahead of the first piece. -/
def glue (c : Bs) : List Bs → List Bs
  | [] => [c]
  | p :: ps => (c ++ p) :: ps
theorem glue_nil (l : List Bs) (h : l ≠ []) : glue [] l = l := by
  cases l with
  | nil => exact absurd rfl h
  | cons p ps => rfl
theorem glue_blank (c r : Bs) : glue c (splitV (32 :: r)) = c :: splitV r := by
  rw [splitV, if_pos rfl]
  show (c ++ []) :: splitV r = _
  rw [List.append_nil]
theorem glue_byte (c r : Bs) {x : UInt8} (h : x ≠ 32) : glue c (splitV (x :: r)) = glue (c ++ [x]) (splitV r) := by
  rw [splitV, if_neg h]
  cases e : splitV r with
  | nil => exact absurd e (split_ne r)
  | cons p ps => show (c ++ x :: p) :: ps = (c ++ [x] ++ p) :: ps; simp
/-- The piece from a to b. -/
def cutV (s : Bs) (a b : Nat) : Bs := (s.drop a).take (b - a)
theorem cut_more {s : Bs} {a b : Nat} {x : UInt8} (hab : a ≤ b) (h : s[b]? = some x) : cutV s a (b + 1) = cutV s a b ++ [x] := by
  unfold cutV
  rw [show b + 1 - a = (b - a) + 1 by omega, List.take_add_one, List.getElem?_drop, show a + (b - a) = b by omega, h]
  rfl
theorem cut_none (s : Bs) (a : Nat) : cutV s a a = [] := by unfold cutV; simp
end Vb
def texts (l : List Bs) : List Value := l.map fun p => .string (str p)

theorem Tryd.inf9 : (Tryd.prog.info? 9).map (fun i => (i.zero, i.size, i.bytes)) = some (some (.string ⟨#[]⟩), 1, 16) := by kernel_rfl
theorem below_gr {w w1 w2 : World} {v : Value} {vs : List Value} {n B e sz : Nat} (h : Below w.heap.size w w1) (hr : w1.ownsRow B e sz v n vs) (hB : w.heap.size ≤ B) (hg : w1.grownBy w2 v.ownBlock) : Below w.heap.size w w2 :=
  h.grown hg h.size (fun k e => by have := (hr.lt k e).1; omega)
theorem extract_cut (s : ByteArray) (a b : Nat) : s.extract a b = str (cutV s.data.toList a b) := Lib.extract_eq s a b
theorem texts_more (P : List Bs) (c : Bs) : texts (P ++ [c]) = texts P ++ [.string (str c)] := by simp [texts]
theorem pieces_len (s : Bs) : (splitV s).length ≤ s.length + 1 := by
  induction s with
  | nil => exact Nat.le_refl _
  | cons c r ih =>
    unfold splitV
    split
    · simp; omega
    · split
      · simp
      · next p ps e => rw [e] at ih; simp at ih ⊢; omega

set_option maxHeartbeats 2000000 in
theorem split_ba (s : ByteArray) (hs : s.size ≤ 256) (w : World) : Calls Tryd.prog 20 #[.string s] w fun e w' => ∃ v, e = .returned v ∧ w'.ownsRow w.heap.size 9 1 v (splitV s.data.toList).length (texts (splitV s.data.toList)) ∧ Below w.heap.size w w' := by
  obtain ⟨i0, hi0, hz0, hz1, hz2⟩ := info_parts Tryd.inf9
  obtain ⟨l, hl⟩ : ∃ l, s.data.toList = l := ⟨_, rfl⟩
  have hsz : s.size = l.length := by rw [← hl]; exact Lib.size_eq s
  have hex : ∀ a b, s.extract a b = str (cutV l a b) := fun a b => by rw [extract_cut, hl]
  have hpl := pieces_len l
  rw [hl]
  obtain ⟨q, hq⟩ : ∃ q, s.size = q := ⟨_, rfl⟩
  have HQ : Hid (l.length = q) := by rw [← hsz]; exact hq
  have hpq : (splitV l).length ≤ q + 1 := by rw [← HQ.out]; exact hpl
  have hat : ∀ j (hj : j < s.size), l[j]? = some s[j] := fun j hj => by
    rw [← hl]
    have hj' : j < s.data.toList.length := by simpa using hj
    rw [List.getElem?_eq_getElem hj']
    rfl
  have HAT : Hid _ := hat
  have HEX : Hid _ := hex
  clear hpl hsz hat hex
  go_enter Tryd.func20, Tryd.ntmps20
  go_wp2
  go_loopg [3, 4, 5] (q + 1) (fun gk pv f p wr => ∃ (j a : Nat) (P : List Bs) (v : Value), j + gk = q + 1 ∧ p = .int .i64 j ∧ f = .int .i64 a ∧ v = pv ∧ wr.ownsRow w.heap.size 9 1 v P.length (texts P) ∧ Below w.heap.size w wr ∧ P.length ≤ j ∧ (j ≤ q → a ≤ j ∧ splitV l = P ++ glue (cutV l a j) (splitV (l.drop j))) ∧ (q < j → splitV l = P))
  case atStart =>
    refine ⟨0, 0, [], _, by omega, rfl, rfl, rfl, World.ownsRow_made w #[] 0 (Nat.le_refl _) (Nat.zero_le _) rfl, (Below.refl _ _).alloc (Nat.le_refl _) _, by simp, fun _ => ⟨by omega, ?_⟩, fun h => by omega⟩
    rw [cut_none, List.drop_zero, glue_nil _ (split_ne l)]; rfl
  case round =>
    obtain ⟨j, a, P, v, hj, rfl, rfl, rfl, hrow, hb, hPl, h1, h2⟩ := hrel
    have hz := hb.size
    by_cases hlt : j ≤ q
    · obtain ⟨haj, hinv⟩ := h1 hlt
      clear h1 h2
      have hlt' : (j : Int) ≤ q := by omega
      have haj' : (a : Int) ≤ j := by omega
      have hnc : ∀ i u, [Value.string (str (cutV l a j))][i]? = some u → (wr.alloc (.cells #[.string (str (cutV l a j))] 9)).cell? ((⟨wr.heap.size, 0, none⟩ : Addr).add i) = some u := cell_one_new wr (.string (str (cutV l a j))) 9
      by_cases he : j = q
      · have HI : Hid (splitV l = P ++ [cutV l a j]) := by
          rw [hinv, he, List.drop_of_length_le (by rw [HQ.out]; exact Nat.le_refl _)]
          show P ++ [cutV l a q ++ []] = _
          rw [List.append_nil]
        have hx := HEX.out a j
        have he' : ((j : Int) == q) = true := by simp; omega
        have hge : q ≤ j := by omega
        clear hinv he
        go_wp2_with (at_builtin; refine wpList_append_own_at _ rfl (.tmp 23) (.tmp 28) 34 rfl w.heap.size 9 i0 _ 1 16 Tryd.underlying34 hi0 hz0 hz1 hz2 rfl (by decide) v P.length (texts P) rfl (hrow.alloc _) ⟨wr.heap.size, 0, none⟩ 1 1 [.string (str (cutV l a j))] rfl rfl hnc (fun u hu => by simp at hu; subst hu; rfl) ?_ ?_ ?_ ?_; exact (Nat.le_trans (m := 35184372088832) (by omega) (by decide)); omega; (simp; omega); intro v' w5 hown hgr _ _)
        go_roundg (q + 1 - (j + 1))
        case measure => omega
        case rel =>
          refine ⟨j + 1, j + 1, P ++ [cutV l a j], v', by omega, by go_num, by go_num, rfl, ?_, ?_, by simp; omega, fun h => by omega, fun _ => HI.out⟩
          · rw [texts_more]; simpa using hown
          · exact below_gr (hb.alloc hz _) (hrow.alloc _) (Nat.le_refl _) hgr
      · have hjs : j < s.size := by omega
        obtain ⟨x, hx⟩ : ∃ x, s[j] = x := ⟨_, rfl⟩
        have hxl : l[j]? = some x := by rw [← hx]; exact HAT.out j hjs
        have hdr : l.drop j = x :: l.drop (j + 1) := by
          obtain ⟨hj', e⟩ := List.getElem?_eq_some_iff.1 hxl
          rw [List.drop_eq_getElem_cons hj', e]
        have he' : ((j : Int) == q) = false := by rw [beq_eq_false_iff_ne]; omega
        have hjq : (j : Int) < q := by omega
        rw [hdr] at hinv
        by_cases h32 : x = 32
        · subst h32
          have hi : splitV l = (P ++ [cutV l a j]) ++ glue (cutV l (j + 1) (j + 1)) (splitV (l.drop (j + 1))) := by
            rw [hinv, glue_blank, cut_none, glue_nil _ (split_ne _), List.append_assoc]
            rfl
          have HI : Hid _ := hi
          have hx32 : ((s[j].toNat : Int) == 32) = true := by rw [hx]; rfl
          have hex := HEX.out a j
          clear hinv hdr hxl he hx hi
          go_wp2_with (at_builtin; refine wpList_append_own_at _ rfl (.tmp 23) (.tmp 28) 34 rfl w.heap.size 9 i0 _ 1 16 Tryd.underlying34 hi0 hz0 hz1 hz2 rfl (by decide) v P.length (texts P) rfl (hrow.alloc _) ⟨wr.heap.size, 0, none⟩ 1 1 [.string (str (cutV l a j))] rfl rfl hnc (fun u hu => by simp at hu; subst hu; rfl) ?_ ?_ ?_ ?_; exact (Nat.le_trans (m := 35184372088832) (by omega) (by decide)); omega; (simp; omega); intro v' w5 hown hgr _ _)
          go_roundg (q + 1 - (j + 1))
          case measure => omega
          case rel =>
            refine ⟨j + 1, j + 1, P ++ [cutV l a j], v', by omega, by go_num, by go_num, rfl, ?_, ?_, by simp; omega, fun _ => ⟨Nat.le_refl _, HI.out⟩, fun h => by omega⟩
            · rw [texts_more]; simpa using hown
            · exact below_gr (hb.alloc hz _) (hrow.alloc _) (Nat.le_refl _) hgr
        · have HI : Hid (splitV l = P ++ glue (cutV l a (j + 1)) (splitV (l.drop (j + 1)))) := by
            rw [hinv, glue_byte _ _ h32, cut_more haj hxl]
            exact rfl
          have hx32 : ((s[j].toNat : Int) == 32) = false := by rw [hx]; exact byte_ne (n := 32) h32
          clear hinv hdr hxl he hx hnc
          go_wp2
          go_roundg (q + 1 - (j + 1))
          case measure => omega
          case rel => exact ⟨j + 1, a, P, v, by omega, by go_num, rfl, rfl, hrow, hb, by omega, fun _ => ⟨by omega, HI.out⟩, fun h => by omega⟩
    · have HP : Hid _ := h2 (by omega)
      have hlt' : ¬ (j : Int) ≤ q := by omega
      clear h1 h2
      go_wp2
      go_ret
      exact ⟨_, rfl, by rw [HP.out]; exact hrow, hb⟩
end Go.Proofs.YtokpcpmkilikaaaDoor
