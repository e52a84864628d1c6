/-
  Layer 6's reference: Below.
-/
import Derived.Test.YthkahbjcncbcfaaRfD
namespace Go.Proofs.Ythkahbjcncbcfaa
open Go.RowKit Tr

def belowZ (l : List Ac) (n : Int) : List Nat := if thereB l n then belowV l n.toNat else []
theorem blw_up {l : List Ac} {n k : Nat} (h0 : k ≠ 0) (hn : k ≠ n) : Blw l n k ↔ Blw l n (up l k) := by
  refine ⟨fun ⟨s, h⟩ => ?_, fun h => below_up h0 h⟩
  cases s with
  | zero => exact absurd h hn
  | succ s => exact ⟨s, h.2.2⟩
theorem blw_zero {l : List Ac} {n : Nat} (hn : n ≠ 0) : ¬ Blw l n 0 := by
  rintro ⟨s, h⟩
  cases s with
  | zero => exact hn h.symm
  | succ s => exact h.2.1 rfl
/-- All come to the root. -/
def Deps (l : List Ac) : Prop := ∀ i, i < l.length → ∃ d, Dep l d i
theorem up_lt_of {l : List Ac} (hp : PaOk l) {k : Nat} (hk : k < l.length) (hk0 : k ≠ 0) : up l k < l.length := by
  obtain ⟨a, ha⟩ : ∃ a, l[k]? = some a := ⟨_, List.getElem?_eq_getElem hk⟩
  rw [up_of ha]
  have := hp k a ha (by omega)
  omega
theorem deps_lt {l : List Ac} (hp : PaOk l) {d i : Nat} (hi : i < l.length) (hd : Dep l d i) : d < l.length := by
  have key : ∀ e j, j < l.length → ∀ d, Dep l d j → e ≤ d → itr l e j < l.length := fun e => by
    induction e with
    | zero => exact fun j hj _ _ _ => hj
    | succ e ih =>
      intro j hj d hd he
      cases d with
      | zero => omega
      | succ d => exact ih _ (up_lt_of hp hj hd.1) d hd.2 (by omega)
  exact inj_bound l.length d (fun e => itr l e i) (fun e he => key e i hi d hd he) (fun e e' he he' heq => by
    have h1 := itr_dep hd he
    have h2 := itr_dep hd he'
    rw [heq] at h1
    have := dep_uniq h1 h2
    omega)
theorem bel_iff {l : List Ac} (hp : PaOk l) (hd : Deps l) (n : Nat) {k : Nat} (hk : k < l.length) : belN l n l.length k = true ↔ Blw l n k := by
  obtain ⟨d, h2⟩ := hd k hk
  exact belN_iff h2 (by have := deps_lt hp hk h2; omega)

set_option maxHeartbeats 4000000 in
set_option maxRecDepth 20000 in
theorem rbelow_any {w : World} {d : Nat} {l : List Ac} (hT : RefT w d l) (hn : l.length * 48 ≤ 140737488355328) (hp : PaOk l) (hds : Deps l) (n : Int) :
    Calls Try.prog 46 #[.pointer (some ⟨d, 0, none⟩), .int .i64 n] w fun e w' => ∃ v, e = .returned v ∧ w'.ownsRow w.heap.size 3 1 v (belowZ l n).length (ints (belowZ l n)) ∧ Below w.heap.size w w' := by
  have ht := there_any hT n
  unfold belowZ
  cases hb : thereB l n with
  | false =>
    rw [hb] at ht
    go_enter Try.func46, Try.ntmps46
    go_wp2_with fail
    refine ht.mono ?_
    rintro e w1 ⟨rfl, b1⟩
    go_wp2
    go_ret
    exact ⟨_, rfl, World.ownsRow_nil _ _ _ _, b1⟩
  | true =>
    rw [hb] at ht
    obtain ⟨h0, h1⟩ : 0 ≤ n ∧ n < l.length := by simpa [thereB] using hb
    obtain ⟨m, rfl⟩ : ∃ m : Nat, n = m := ⟨n.toNat, by omega⟩
    simp only [if_true, Int.toNat_natCast]
    obtain ⟨i0, hi0, hz0, hz1, hz2⟩ := info_parts Try.inf3
    obtain ⟨P, hP⟩ : ∃ P : Nat → Bool, P = fun i => belN l m l.length i := ⟨_, rfl⟩
    have hPi : ∀ i, i < l.length → (P i = true ↔ Blw l m i) := fun i hi => by rw [hP]; exact bel_iff hp hds m hi
    obtain ⟨q, hq⟩ : ∃ q, l.length = q := ⟨_, rfl⟩
    have hkv : belowV l m = (List.range q).filter P := by rw [← hq, hP]; rfl
    rw [hkv]
    have HPI : Hid (∀ i, i < l.length → (P i = true ↔ Blw l m i)) := hPi
    rw [hq] at hn h1
    clear hkv hP hPi
    go_enter Try.func46, Try.ntmps46
    go_wp2_with fail
    refine ht.mono ?_
    rintro e w1 ⟨rfl, b1⟩
    obtain ⟨ao, c, g1, g2, _⟩ := hT.below b1
    have y0 : w1.cell? ⟨d, 0, none⟩ = some (.slice ao l.length c) := cells_at g1 rfl
    obtain ⟨g, o, hg, hc⟩ := g2
    rw [hq] at y0 hg
    clear g1
    obtain rfl := hg (by omega)
    have c0 := y0
    go_wp2_with fail
    clear c0
    go_loopg [5, 17] q (fun gk pv p wr => ∃ (j : Nat) (v : Value), j + gk = q ∧ p = .int .i64 j ∧ v = pv ∧ wr.ownsRow w1.heap.size 3 1 v ((List.range j).filter P).length (ints ((List.range j).filter P)) ∧ Below w1.heap.size w1 wr)
    case atStart => exact ⟨0, _, by omega, rfl, rfl, World.ownsRow_nil _ _ _ _, Below.refl _ _⟩
    case round =>
      obtain ⟨j, v, hj, rfl, rfl, hrow, hb1⟩ := hrel
      by_cases hlt : j < q
      · have hlt' : (j : Int) < q := by omega
        have c0 := cellB hb1 y0
        obtain ⟨dj, hdj⟩ := hds j (by omega)
        have hfs := filter_step P j
        have hfl := filter_len P j
        have hz := hb1.size
        have hPj := HPI.out j (by omega)
        obtain ⟨F, hF⟩ : ∃ F, (List.range j).filter P = F := ⟨_, rfl⟩
        rw [hF] at hrow hfs hfl
        have HFS : Hid _ := hfs
        have HB1 : Hid (Below w1.heap.size w1 wr) := hb1
        clear hfs hb1 hF
        go_wp2_with fail
        go_loopg [7] dj (fun gk p wx => ∃ k : Nat, p = .int .i64 k ∧ k < q ∧ Dep l gk k ∧ (P j = true ↔ Blw l m k) ∧ wr = wx)
        case atStart => exact ⟨j, rfl, hlt, hdj, hPj, rfl⟩
        case round =>
          obtain ⟨k, rfl, hk, hdk, hPk, rfl⟩ := hrel
          by_cases e : k = m
          · subst e
            have hPt : P j = true := hPk.2 (below_self l k)
            have HFT : Hid (List.filter P (List.range (j + 1)) = F ++ [j]) := show List.filter P (List.range (j + 1)) = F ++ [j] by have := HFS.out; rwa [if_pos hPt] at this
            clear hPk hPt HFS hPj hdk
            by_cases e0 : k = 0
            · subst e0
              go_upto_region 11 with fail
              go_wp2_with (at_builtin; refine wpList_append_own_at _ rfl (.tmp 39) (.tmp 41) 50 rfl w1.heap.size 3 i0 _ 1 8 Try.underlying50 hi0 hz0 hz1 hz2 rfl (by decide) v F.length (ints F) rfl (hrow.alloc _) ⟨_, 0, none⟩ 1 1 [.int .i64 (j : Int)] rfl rfl (cell_one_new _ _ _) (fun u hu => by simp at hu; subst hu; rfl) ?_ ?_ ?_ ?_; exact (Nat.le_trans (m := 35184372088832) (by omega) (by decide)); omega; (simp; omega); intro v' w5 hown hgr _ _)
              go_roundg (q - (j + 1))
              case measure => omega
              case rel =>
                refine ⟨j + 1, v', by omega, rfl, rfl, ?_, ?_⟩
                · rw [HFT.out]; simpa [ints] using hown
                · exact below_gr (HB1.out.alloc hz _) (hrow.alloc _) (Nat.le_refl _) hgr
            · have e1 : (0 : Int) < k := by omega
              go_upto_region 11 with fail
              go_wp2_with (at_builtin; refine wpList_append_own_at _ rfl (.tmp 39) (.tmp 41) 50 rfl w1.heap.size 3 i0 _ 1 8 Try.underlying50 hi0 hz0 hz1 hz2 rfl (by decide) v F.length (ints F) rfl (hrow.alloc _) ⟨_, 0, none⟩ 1 1 [.int .i64 (j : Int)] rfl rfl (cell_one_new _ _ _) (fun u hu => by simp at hu; subst hu; rfl) ?_ ?_ ?_ ?_; exact (Nat.le_trans (m := 35184372088832) (by omega) (by decide)); omega; (simp; omega); intro v' w5 hown hgr _ _)
              go_roundg (q - (j + 1))
              case measure => omega
              case rel =>
                refine ⟨j + 1, v', by omega, rfl, rfl, ?_, ?_⟩
                · rw [HFT.out]; simpa [ints] using hown
                · exact below_gr (HB1.out.alloc hz _) (hrow.alloc _) (Nat.le_refl _) hgr
          · have en : ¬ (k : Int) = m := by omega
            by_cases e0 : k = 0
            · subst e0
              have hPf : P j = false := by
                cases hh : P j with
                | false => rfl
                | true => exact absurd (hPk.1 hh) (blw_zero (fun x => e x.symm))
              have HFT : Hid (List.filter P (List.range (j + 1)) = F) := show List.filter P (List.range (j + 1)) = F by have := HFS.out; rwa [if_neg (by simp [hPf]), List.append_nil] at this
              clear hPk hPf HFS hPj hdk
              go_wp2
              go_roundg (q - (j + 1))
              case measure => omega
              case rel => exact ⟨j + 1, _, by omega, rfl, rfl, by rw [HFT.out]; exact hrow, HB1.out⟩
            · have e1 : (0 : Int) < k := by omega
              obtain ⟨f, rfl⟩ : ∃ f, gk = f + 1 := by
                cases gk with
                | zero => exact absurd hdk e0
                | succ f => exact ⟨f, rfl⟩
              obtain ⟨a, ha⟩ : ∃ a, l[k]? = some a := ⟨_, List.getElem?_eq_getElem (by omega)⟩
              obtain ⟨p0, p1⟩ := hp k a ha (by omega)
              obtain ⟨pn, hpn⟩ : ∃ pn : Nat, a.pa = pn := ⟨a.pa.toNat, by omega⟩
              have hup : up l k = pn := by rw [up_of ha, hpn]; simp
              have d1 := ((hc k a ha).below HB1.out).pa
              rw [hpn] at d1 p1
              rw [hq] at p1
              have hk' : (k : Int) < q := by omega
              have HD : Hid (Dep l f pn) := by have := hdk.2; rw [hup] at this; exact this
              have HPK : Hid (P j = true ↔ Blw l m pn) := show (P j = true ↔ Blw l m pn) by rw [hPk, blw_up e0 e, hup]
              clear hdk hPk hPj ha hpn hup
              go_wp2
              go_roundg f
              case measure => omega
              case rel => exact ⟨pn, rfl, by omega, HD.out, HPK.out, rfl⟩
      · obtain rfl : j = q := by omega
        go_wp2
        go_ret
        exact ⟨_, rfl, own_base hrow b1.size, b1.trans (hb1.mono b1.size)⟩
end Go.Proofs.Ythkahbjcncbcfaa
