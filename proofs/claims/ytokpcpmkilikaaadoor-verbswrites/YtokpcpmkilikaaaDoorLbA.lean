/-
  Layer 8: what the program finds laid: its table, the library's; the library's calls by their contracts; numberOf.
-/
import Derived.Test.YtokpcpmkilikaaaDoorRvJ
import Derived.Test.YtokpcpmkilikaaaDoorVbQ
import Derived.Test.YtokpcpmkilikaaaDoorIto
import Derived.Test.YtokpcpmkilikaaaDoorAto
import Derived.Test.YtokpcpmkilikaaaDoorSpl
import Derived.Test.YtokpcpmkilikaaaDoorJoi
import Derived.WalkSmall
import Derived.Lib.LaidTab
namespace Go.Proofs.YtokpcpmkilikaaaDoor
open Go.RowKit Vb

theorem Tryd.gPow : Tryd.prog.globalNamed "internal/strconv.uint64pow10" = some 6 := by kernel_rfl
def Pow (w : World) : Prop := Lib.TabIs Tryd.prog w "internal/strconv.uint64pow10" .u64 Lib.pow10Tab
theorem Pow.below {w w' : World} (hb : Below w.heap.size w w') (h : Pow w) : Pow w' := by
  have hc := Lib.TabIs.cell h Tryd.gPow 0 (by rw [Lib.pow10Tab_length]; decide)
  exact var?_below hb Tryd.gPow (World.block_lt_of_cell? w _ hc) h
/-- The number of a field, as the table has it; 0 behind the last. -/
def fnum (x : UInt8) : Nat := if isNm x = true then offS x else offI x
def fldV (k i : Nat) : Int := match (wordV (k : Int)).2[i]? with
  | none => 0
  | some x => (fnum x : Nat)
/-- What the calls of package verbs find laid. -/
structure Tab (w : World) : Prop where
  word : ∀ k : Nat, k < 14 → w.cell? ⟨0, k * 4, none⟩ = some (.string (str (wordV (k : Int)).1))
  fld : ∀ k i : Nat, k < 14 → i < 3 → w.cell? ⟨0, k * 4 + 1 + i, none⟩ = some (.int .i64 (fldV k i))
  pow : Pow w
  syn : ∃ tp p, w.cell? ⟨4, 0, none⟩ = some (.iface tp p)
  rng : ∃ tp p, w.cell? ⟨5, 0, none⟩ = some (.iface tp p)
  max : ∃ m, w.cell? ⟨1, 0, none⟩ = some (.int .i64 m)
theorem kept {w w' : World} {p : Addr} {v : Value} (b : Below w.heap.size w w') (h : w.cell? p = some v) : w'.cell? p = some v := (b.cell (World.block_lt_of_cell? w _ h)).trans h
theorem Tab.below {w w' : World} (b : Below w.heap.size w w') (h : Tab w) : Tab w' where
  word k hk := kept b (h.word k hk)
  fld k i hk hi := kept b (h.fld k i hk hi)
  pow := h.pow.below b
  syn := let ⟨tp, p, e⟩ := h.syn; ⟨tp, p, kept b e⟩
  rng := let ⟨tp, p, e⟩ := h.rng; ⟨tp, p, kept b e⟩
  max := let ⟨m, e⟩ := h.max; ⟨m, kept b e⟩

theorem below_new (w : World) (k : Nat) (os : Array Obj) : Below w.heap.size w (Go.Sort.grow (w.drewN k) os) :=
  ⟨rfl, rfl, rfl, by show w.heap.size ≤ (w.heap ++ os).size; simp, fun i hi => by show (w.heap ++ os)[i]? = w.heap[i]?; exact Array.getElem?_append_left hi⟩
theorem itoa_any (n : Nat) (h : (n : Int) ≤ 9223372036854775807) (w : World) (hT : Pow w) : Calls Tryd.prog 35 #[.int .i64 n] w fun e w' => e = .returned (.string (str (digV n))) ∧ Below w.heap.size w w' := by
  have h' := Any.strconv_Itoa Ito_lays n (by omega) h w hT
  rw [itoa_dig (by omega), Int.toNat_natCast] at h'
  refine h'.mono ?_
  rintro e w' ⟨rfl, k, os, rfl⟩
  exact ⟨rfl, below_new w k os⟩
theorem atoi_ok (s : Bs) (hl : s.length ≤ 256) (v : Int) (h : Lib.atoiAll s = .ok v) (w : World) : Calls Tryd.prog 40 #[.string (str s)] w fun e w' => e = .returned (.tuple #[.int .i64 v, .nilIface]) ∧ Below w.heap.size w w' := by
  have hs := str_size s
  refine (Any.strconv_Atoi_ok Ato_lays (str s) (by omega) v h w).mono ?_
  rintro e w' ⟨rfl, rfl | ⟨t, rfl⟩⟩
  · exact ⟨rfl, Below.refl _ _⟩
  · exact ⟨rfl, Lib.bytesWorld_below _ _ _⟩
theorem atoi_no (s : Bs) (hl : s.length ≤ 256) (h : ∀ v, Lib.atoiAll s ≠ .ok v) (w : World) (hT : Tab w) : Calls Tryd.prog 40 #[.string (str s)] w fun e w' => (∃ n b, e = .returned (.tuple #[.int .i64 n, .iface 87 (.pointer (some ⟨b, 0, none⟩))])) ∧ Below w.heap.size w w' := by
  have hs := str_size s
  rcases e : Lib.atoiAll s with v | _ | _
  · exact absurd e (h v)
  · obtain ⟨tp, p, hc⟩ := hT.syn
    refine (Any.strconv_Atoi_syntax Ato_lays (str s) (by omega) e (.iface tp p) w hc (.inr ⟨tp, p, rfl⟩)).mono ?_
    rintro e w' ⟨b, rfl, _, _, hb⟩
    exact ⟨⟨_, b, rfl⟩, hb⟩
  · obtain ⟨tp, p, hc⟩ := hT.rng
    refine (Any.strconv_Atoi_range Ato_lays (str s) (by omega) e (.iface tp p) w hc (.inr ⟨tp, p, rfl⟩)).mono ?_
    rintro e w' ⟨b, rfl, _, _, hb⟩
    exact ⟨⟨_, b, rfl⟩, hb⟩
theorem str_data (b : ByteArray) : str b.data.toList = b := by
  unfold str
  simp
theorem split_any (line : Bs) (hl : line.length ≤ 256) (w : World) (hT : Tab w) :
    Calls Tryd.prog 16 #[.string (str line), .string ⟨#[32]⟩] w fun e w' => e = .returned (.slice (some ⟨w.heap.size, 0, none⟩) (splitV line).length (splitV line).length) ∧ w' = w.alloc (.cells (texts (splitV line)).toArray 9) := by
  obtain ⟨m, hm⟩ := hT.max
  have hs := str_size line
  have h := Any.strings_Split Spl_lays Tryd.inf9 (str line) ⟨#[32]⟩ m w (by omega) hm (by decide)
  have h1 := Lib.splitB_all ⟨#[32]⟩ (by decide) 0 _ (str line) rfl
  have h2 := Lib.splitB_data ⟨#[32]⟩ 0 (Lib.countB (str line) ⟨#[32]⟩) (str line)
  have h3 : Lib.splitK (⟨#[32]⟩ : ByteArray).data.toList 0 (Lib.countB (str line) ⟨#[32]⟩) (str line).data.toList = splitV line := split_lib _ line (Nat.le_refl _)
  rw [h3] at h2
  have h4 : (Lib.splitB ⟨#[32]⟩ 0 (Lib.countB (str line) ⟨#[32]⟩) (str line)).map Value.string = texts (splitV line) := by
    rw [← h2]
    unfold texts
    rw [List.map_map]
    refine List.map_congr_left fun b _ => ?_
    simp only [Function.comp]
    rw [str_data]
  have h5 : Lib.countB (str line) ⟨#[32]⟩ + 1 = (splitV line).length := by rw [← h1, ← h2, List.length_map]
  rw [h4, h5] at h
  exact h
theorem join_any (bk o c : Nat) (xs : List Bs) (w : World) (hcells : ∀ (j : Nat) x, xs[j]? = some x → w.cell? ⟨bk, o + j, none⟩ = some (.string (str x))) (hbk : bk < w.heap.size) (hN : xs.length ≤ 4) (hcap : xs.length ≤ c) (hlen : (joinV xs).length ≤ 1000) :
    Calls Tryd.prog 36 #[.slice (some ⟨bk, o, none⟩) xs.length c, .string ⟨#[32]⟩] w fun e w' => e = .returned (.string (str (joinV xs))) ∧ Below w.heap.size w w' := by
  have e1 : (xs.map str).map (fun b : ByteArray => b.data.toList) = xs := by
    rw [List.map_map]
    conv => rhs; rw [← List.map_id xs]
    exact List.map_congr_left fun b _ => rfl
  have e2 : Lib.join ((xs.map str).map (fun b : ByteArray => b.data.toList)) (⟨#[32]⟩ : ByteArray).data.toList = joinV xs := by
    rw [e1]; exact joined_lib xs
  have h := Any.strings_Join Joi_lays Joi_more bk o c (xs.map str) ⟨#[32]⟩ w (fun j x hx => by
    rw [List.getElem?_map] at hx
    cases h0 : xs[j]? with
    | none => rw [h0] at hx; cases hx
    | some p => rw [h0] at hx; cases hx; exact hcells j p h0) hbk (by rw [List.length_map]; omega) (by rw [List.length_map]; omega) (by rw [e2]; omega)
  rw [e2, List.length_map] at h
  exact h
end Go.Proofs.YtokpcpmkilikaaaDoor
