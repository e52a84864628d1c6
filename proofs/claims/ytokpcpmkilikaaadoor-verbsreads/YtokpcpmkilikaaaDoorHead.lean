/-
  WHAT THE ROWS OF THIS SEAT SHARE. The variables that are listed: what they give a walk; a world that has them; the wrap that keeps the world's shape.
-/
import Derived.Test.YtokpcpmkilikaaaDoorRows
import Derived.Test.YtokpcpmkilikaaaDoorCards
import Derived.Test.YtokpcpmkilikaaaDoorTie
import Derived.Test.YtokpcpmkilikaaaDoorLbA
import Derived.ProofKit
import Derived.HandedShaped
import Derived.LaidLaws
import Derived.LaidHandle
import Derived.Lib.LaidTab
import Derived.Lib.SmallJoins
import Derived.SevenTiedAt
import Derived.Stop.LaidErr
import Derived.Shelf.Vars
import Derived.OpenShut
namespace Go.Proofs.YtokpcpmkilikaaaDoor
open Go.ChangeShapes Go.WideShapes Go.ChangeAt Go.RowKit Go.Joins Vb

theorem Tryd.own : ownKnob Tryd.prog.godebug = none := by kernel_rfl
theorem Tryd.gF : Tryd.prog.globalNamed "backfill/verbs.forms" = some 0 := by kernel_rfl
theorem Tryd.gFType : (Tryd.prog.globals[0]?).map (·.type) = some 53 := by kernel_rfl
theorem Tryd.gM : Tryd.prog.globalNamed "internal/bytealg.MaxLen" = some 1 := by kernel_rfl
theorem Tryd.gMType : (Tryd.prog.globals[1]?).map (·.type) = some 3 := by kernel_rfl
theorem Tryd.gS : Tryd.prog.globalNamed "strconv.ErrSyntax" = some 4 := by kernel_rfl
theorem Tryd.gSType : (Tryd.prog.globals[4]?).map (·.type) = some 67 := by kernel_rfl
theorem Tryd.gR : Tryd.prog.globalNamed "strconv.ErrRange" = some 5 := by kernel_rfl
theorem Tryd.gRType : (Tryd.prog.globals[5]?).map (·.type) = some 67 := by kernel_rfl
theorem Tryd.gPType : (Tryd.prog.globals[6]?).map (·.type) = some 113 := by kernel_rfl
theorem Tryd.cells3 : Tryd.prog.cellsOf 3 = 1 := by kernel_rfl
theorem Tryd.cells9 : Tryd.prog.cellsOf 9 = 1 := by kernel_rfl
theorem Tryd.cells50 : Tryd.prog.cellsOf 50 = 3 := by kernel_rfl
theorem Tryd.cells52' : Tryd.prog.cellsOf 52 = 4 := by kernel_rfl
theorem Tryd.cells91 : Tryd.prog.cellsOf 91 = 1 := by kernel_rfl
theorem Tryd.cells113 : Tryd.prog.cellsOf 113 = 20 := by kernel_rfl
theorem Tryd.cells119 : Tryd.prog.cellsOf 119 = 1 := by kernel_rfl
theorem Tryd.star : "*" ++ "errors.errorString" = "*errors.errorString" := by decide
theorem Tryd.row117 (u : TypeId) (h : Tryd.prog.typeName? 3 u = some "*errors.errorString") : u = 117 :=
  typeName_ptr_named (nm := "errors.errorString") (by rw [Tryd.star]; kernel_rfl) (by kernel_rfl) (by decide) u (by rw [Tryd.star]; exact h)

abbrev LaidL : List (String × DataW Unit) := [("math/bits.deBruijn32tab", Rows.laid_math_bits_deBruijn32tab), ("math/bits.deBruijn64tab", Rows.laid_math_bits_deBruijn64tab), ("internal/strconv.uint64pow10", Rows.laid_internal_strconv_uint64pow10), ("unicode/utf8.acceptRanges", Rows.laid_unicode_utf8_acceptRanges), ("strconv.ErrRange", Rows.laid_strconv_ErrRange), ("strconv.ErrSyntax", Rows.laid_strconv_ErrSyntax), ("backfill/verbs.forms", Rows.laid_backfill_verbs_forms), ("unicode/utf8.first", Rows.laid_unicode_utf8_first)]
theorem met_of {w : World} (h : laidMetH Tryd.prog LaidL w) : laidMet Tryd.prog LaidL w := by
  unfold laidMetH at h
  rw [show (LaidL.filter fun x => x.2.handleName?.isSome) = [] by kernel_rfl] at h
  exact h
theorem pow_datum : (Rows.laid_internal_strconv_uint64pow10 : DataW Unit) = Lib.tabData .u64 Lib.pow10Tab := by kernel_rfl
/-- A row of the program's table, as it is listed. -/
def formD (k : Nat) : DataW Unit := .agg [.lit (.string (wordV (k : Int)).1), Lib.tabData .i64 [fldV k 0, fldV k 1, fldV k 2]]
theorem forms_datum : (Rows.laid_backfill_verbs_forms : DataW Unit) = .agg ((List.range 14).map formD) := by kernel_rfl
theorem forms_cells {w : World} {fuel : Nat} {cs : List Value} {p : List MemPlace} (h : DataW.trod (fun _ => ()) Tryd.prog w 0 (fun _ => true) false fuel 53 cs = some (.agg ((List.range 14).map formD), p)) (k : Nat) (hk : k < 14) :
    cs[k * 4]? = some (.string (str (wordV (k : Int)).1)) ∧ ∀ i, i < 3 → cs[k * 4 + 1 + i]? = some (.int .i64 (fldV k i)) := by
  obtain ⟨xs, m, rfl, hx, hl, hn, ha⟩ := DataW.trod_array Tryd.underlying53 h
  have hk1 := ha k hk
  rw [Tryd.cells52'] at hk1
  have e1 : xs.map (·.1) = (List.range 14).map formD := by
    have h : DataW.agg ((List.range 14).map formD) = DataW.agg (xs.map (·.1)) := congrArg Prod.fst hx
    exact (DataW.agg.inj h).symm
  have e2 : (xs.map (·.1))[k]? = some (formD k) := by rw [e1]; simp [hk]
  obtain ⟨⟨d, r⟩, hd, hd'⟩ : ∃ y, xs[k]? = some y ∧ y.1 = formD k := by
    rw [List.getElem?_map] at e2
    cases hy : xs[k]? with
    | none => rw [hy] at e2; cases e2
    | some y => rw [hy] at e2; exact ⟨y, rfl, by simpa using e2⟩
  simp only at hd'
  subst hd'
  rw [hd] at hk1
  obtain ⟨ys, n, rfl, hy, hl2, hn2, hf⟩ := DataW.trod_struct Tryd.underlying52 hk1
  have e3 : ys.map (·.1) = [.lit (.string (wordV (k : Int)).1), Lib.tabData .i64 [fldV k 0, fldV k 1, fldV k 2]] := by
    have h : formD k = DataW.agg (ys.map (·.1)) := congrArg Prod.fst hy
    unfold formD at h
    exact (DataW.agg.inj h).symm
  have h0 : DataW.trod (fun _ => ()) Tryd.prog w 0 (fun _ => true) false n 9 ((((cs.drop (k * 4)).take 4).drop 0).take (Tryd.prog.cellsOf 9)) = ys[0]? := hf 0 _ rfl
  have h1 : DataW.trod (fun _ => ()) Tryd.prog w 0 (fun _ => true) false n 50 ((((cs.drop (k * 4)).take 4).drop 1).take (Tryd.prog.cellsOf 50)) = ys[1]? := hf 1 _ rfl
  rw [Tryd.cells9] at h0
  rw [Tryd.cells50] at h1
  obtain ⟨a, b, rfl⟩ : ∃ a b, ys = [a, b] := by
    match ys, hn2 with
    | [a, b], _ => exact ⟨a, b, rfl⟩
  simp only [List.map_cons, List.map_nil, List.cons.injEq, and_true] at e3
  obtain ⟨ea, eb⟩ := e3
  obtain ⟨a1, a2⟩ := a
  obtain ⟨b1, b2⟩ := b
  simp only at ea eb
  subst ea eb
  simp only [List.getElem?_cons_zero, List.getElem?_cons_succ] at h0 h1
  obtain ⟨s, hs, hs', _⟩ := DataW.trod_string Tryd.underlying9 h0
  have hs2 : (wordV (k : Int)).1 = s.data.toList := Lit.string.inj (DataW.lit.inj (congrArg Prod.fst hs'))
  have hi := Lib.cells_of_tab Tryd.underlying50 Tryd.underlying3 Tryd.cells3 Tryd.cells50 h1
  have hcs : ∀ i, i < 4 → cs[k * 4 + i]? = ((cs.drop (k * 4)).take 4)[i]? := fun i hi => by
    rw [List.getElem?_take, if_pos hi, List.getElem?_drop]
  generalize (cs.drop (k * 4)).take 4 = c4 at *
  constructor
  · have h := congrArg (·[0]?) hs
    rw [hs2, str_data, show k * 4 = k * 4 + 0 from rfl, hcs 0 (by decide)]
    simpa using h
  · intro i hi3
    have h := congrArg (·[i]?) hi
    rw [Nat.add_assoc, hcs (1 + i) (by omega)]
    simp only [List.getElem?_take, List.getElem?_drop] at h
    rw [if_pos hi3] at h
    rw [h]
    obtain rfl | rfl | rfl : i = 0 ∨ i = 1 ∨ i = 2 := by omega
    all_goals rfl
theorem max_of {w : World} (h : w.ShapedOpen Tryd.prog) : ∃ m, w.cell? ⟨1, 0, none⟩ = some (.int .i64 m) :=
  cell_of_shapedOpen_int (zero := #[.int .i64 0]) (t := 3) h (of_decide_eq_true (by kernel_rfl)) (by kernel_rfl) rfl (by kernel_rfl) (by kernel_rfl) Tryd.underlying3
theorem tab_of_laid {w : World} (h0 : laidMetH Tryd.prog LaidL w) (hsh : w.ShapedOpen Tryd.prog) : Tab w := by
  have h := met_of h0
  have h2 := h.tail.tail
  have h2' := h2
  rw [pow_datum] at h2'
  have h4 := h2.tail.tail
  obtain ⟨a1, s1, hv1, -, -, -⟩ := laid_sentinel h4 Tryd.gR Tryd.gRType Tryd.underlying67 Tryd.row117 Tryd.underlying117 Tryd.underlying119 rfl rfl Tryd.underlying9 Tryd.cells119 Tryd.cells9
  obtain ⟨a0, s0, hv0, -, -, -⟩ := laid_sentinel h4.tail Tryd.gS Tryd.gSType Tryd.underlying67 Tryd.row117 Tryd.underlying117 Tryd.underlying119 rfl rfl Tryd.underlying9 Tryd.cells119 Tryd.cells9
  obtain ⟨ps, ⟨g', t', cs, fuel, p, q, hg', ht', hvar, hd, _, _⟩, _⟩ := h4.tail.tail
  obtain rfl := Option.some.inj (Tryd.gF.symm.trans hg')
  obtain rfl := Option.some.inj (Tryd.gFType.symm.trans ht')
  rw [forms_datum] at hd
  have hf := forms_cells hd
  have hc : ∀ i, w.cell? ⟨0, i, none⟩ = cs.toList[i]? := fun i => by
    rw [World.var?_cell Tryd.gF hvar i]
    simp
  refine ⟨fun k hk => by rw [hc]; exact (hf k hk).1, fun k i hk hi => by rw [hc]; exact (hf k hk).2 i hi, ?_, ⟨117, .pointer (some a0), ?_⟩, ⟨117, .pointer (some a1), ?_⟩, max_of hsh⟩
  · exact Lib.tabIs_of_head Tryd.gPow Tryd.gPType Tryd.underlying113 Tryd.underlying91 Tryd.cells91 Tryd.cells113 h2'
  · have := World.var?_cell Tryd.gS hv0 0
    simpa using this
  · have := World.var?_cell Tryd.gR hv1 0
    simpa using this

/-- The cells of a listed datum. -/
def flat : Nat → DataW Unit → List Value
  | 0, _ => []
  | _ + 1, .lit (.int k n) => [.int k n]
  | _ + 1, .lit (.string s) => [.string ⟨s.toArray⟩]
  | n + 1, .agg l => l.flatMap (flat n)
  | _ + 1, _ => []
noncomputable def low : Nat := (World.holding Tryd.prog default ⟨#[], #[], []⟩).heap.size
def laidAt (h : Array Obj) (g : Nat) (l : List Value) : Array Obj := h.modify g fun
  | .cells _ t frozen => .cells l.toArray t frozen
  | o => o
/-- A world that meets the condition: the settled one, the variables' blocks laid, and two blocks for the texts of the two errors. -/
noncomputable def laidWorld (os : Os) : World :=
  let w0 := World.holding Tryd.prog os ⟨#[.cells #[.string ⟨#[105, 110, 118, 97, 108, 105, 100, 32, 115, 121, 110, 116, 97, 120]⟩] 119, .cells #[.string ⟨#[118, 97, 108, 117, 101, 32, 111, 117, 116, 32, 111, 102, 32, 114, 97, 110, 103, 101]⟩] 119], #[], []⟩
  { w0 with heap := laidAt (laidAt (laidAt (laidAt (laidAt (laidAt (laidAt (laidAt w0.heap 0 (flat 4 Rows.laid_backfill_verbs_forms)) 2 (flat 4 Rows.laid_unicode_utf8_first)) 3 (flat 4 Rows.laid_unicode_utf8_acceptRanges)) 4 [.iface 117 (.pointer (some ⟨low, 0, none⟩))]) 5 [.iface 117 (.pointer (some ⟨low + 1, 0, none⟩))]) 6 (flat 4 Rows.laid_internal_strconv_uint64pow10)) 7 (flat 4 Rows.laid_math_bits_deBruijn32tab)) 8 (flat 4 Rows.laid_math_bits_deBruijn64tab) }
theorem laidWorld_met (os : Os) (args : Array Value) : laidMetH Tryd.prog LaidL ((laidWorld os).forCall (fun _ _ => 0) ⟨#[], args, []⟩).memory :=
  laidMetH_of_parts (laidMet_of_run' 8 (by kernel_rfl) (by kernel_rfl)) (by kernel_rfl)
end Go.Proofs.YtokpcpmkilikaaaDoor
