/-
  Layer 6's reference: accounts in memory; find, Name, depth.
  Layer 6's reference: depth, known, there, Name.
  Layer 6's reference: Name, Len, Find, Depth, Get.
  Layer 6's reference: Get, Kids, Below.
  Layer 6's reference: Below.
  Layer 6's reference: a tree that owns its list; New, List, Clone.
  Layer 6's reference: Shares, Close.
  Layer 6's reference: Close, Add.
  Layer 6's reference: Move.
-/
import Derived.Test.YtbcinapnnlfnbaaGreatTrM
import Derived.WalkKit
import Derived.WalkSpells
import Derived.WalkLawsBesides
import Derived.Deep.LoopGhost
import Derived.Deep.RegionHeld3
import Derived.Deep.QuietTactic
import Derived.BigQuiet
import Derived.RowKit3
import Derived.Lib.Strings
import Derived.Deep.CutBlock
import Derived.Deep.DeepCutAuto
import Derived.Maps.AppendAt
import Derived.Laws.Rows
import Derived.Laws.AppendOwnNone
namespace Go.Proofs.YtbcinapnnlfnbaaGreat
open Go.RowKit Tr

theorem ba_eq {a b : ByteArray} (h : a = b) : (a.toList == b.toList) = true := by rw [h]; simp
theorem ba_ne {a b : ByteArray} (h : a ≠ b) : (a.toList == b.toList) = false := by
  rw [Lib.toList_data, Lib.toList_data]
  simp only [beq_eq_false_iff_ne, ne_eq]
  intro e
  cases a with
  | mk x =>
    cases b with
    | mk y =>
      have := Array.toList_inj.1 e
      simp only at this
      exact h (by rw [this])
/-- The cells of an account, at an offset. -/
structure AcAt (W : World) (g o : Nat) (a : Ac) : Prop where
  nm : W.cell? ⟨g, o, none⟩ = some (.string a.nm)
  pa : W.cell? ⟨g, o + 1, none⟩ = some (.int .i64 a.pa)
  sh : W.cell? ⟨g, o + 2, none⟩ = some (.int .i64 a.sh)
  cl : W.cell? ⟨g, o + 3, none⟩ = some (.bool a.cl)
  us : W.cell? ⟨g, o + 4, none⟩ = some (.int .u64 a.us)
theorem cellB {w w' : World} (b : Below w.heap.size w w') {a : Addr} {v : Value} (h : w.cell? a = some v) : w'.cell? a = some v := (b.cell (World.block_lt_of_cell? w _ h)).trans h
theorem AcAt.below {W W' : World} {g o : Nat} {a : Ac} (h : AcAt W g o a) (b : Below W.heap.size W W') : AcAt W' g o a := ⟨cellB b h.nm, cellB b h.pa, cellB b h.sh, cellB b h.cl, cellB b h.us⟩
/-- Accounts that lie in memory. -/
def AcsAt (W : World) (ao : Option Addr) (l : List Ac) : Prop := ∃ g o, (0 < l.length → ao = some ⟨g, o, none⟩) ∧ ∀ k a, l[k]? = some a → AcAt W g (o + k * 5) a
set_option maxRecDepth 20000 in
theorem AcsAt.below {W W' : World} {ao : Option Addr} {l : List Ac} (h : AcsAt W ao l) (b : Below W.heap.size W W') : AcsAt W' ao l := by
  obtain ⟨g, o, h1, h2⟩ := h
  exact ⟨g, o, h1, fun k a ha => (h2 k a ha).below b⟩
def findI : Option Nat → Int
  | none => -1
  | some k => k
set_option maxRecDepth 20000 in
theorem find_drop {l : List Ac} {s : ByteArray} {j : Nat} {a : Ac} (h : l[j]? = some a) : findV (l.drop j) s = if a.nm = s then some 0 else (findV (l.drop (j + 1)) s).map (· + 1) := by
  obtain ⟨hj, rfl⟩ := List.getElem?_eq_some_iff.1 h
  rw [List.drop_eq_getElem_cons hj]
  rfl

set_option maxRecDepth 20000 in
set_option maxHeartbeats 1000000 in
theorem find_any {w : World} {ao : Option Addr} {l : List Ac} {c : Nat} (hA : AcsAt w ao l) (hn : l.length * 48 ≤ 140737488355328) (s : ByteArray) :
    Calls Tryz.prog 82 #[.slice ao l.length c, .string s] w fun e w' => e = .returned (.int .i64 (findI (findV l s))) ∧ Below w.heap.size w w' := by
  obtain ⟨q, hq⟩ : ∃ q, l.length = q := ⟨_, rfl⟩
  obtain ⟨g, o, hg, hc⟩ := hA
  rw [hq] at hg hn ⊢
  go_enter Tryz.func82, Tryz.ntmps82
  go_wp2
  go_loopg [9] q (fun gk p wr => ∃ j : Nat, j + gk = q ∧ p = .int .i64 j ∧ Below w.heap.size w wr ∧ findV l s = (findV (l.drop j) s).map (· + j))
  case atStart => exact ⟨0, by omega, rfl, Below.refl _ _, by simp⟩
  case round =>
    obtain ⟨j, hj, rfl, hb, hinv⟩ := hrel
    by_cases hlt : j < q
    · obtain ⟨a, ha⟩ : ∃ a, l[j]? = some a := ⟨_, List.getElem?_eq_getElem (by omega)⟩
      obtain rfl := hg (by omega)
      obtain ⟨d0, d1, d2, d3, d4⟩ := (hc j a ha).below hb
      rw [find_drop ha] at hinv
      clear hc hg ha
      have hz := hb.size
      by_cases e : a.nm = s
      · rw [if_pos e] at hinv
        have HE : Hid (findV l s = some j) := show findV l s = some j by simpa using hinv
        have HB : Hid _ := hb
        have eb := ba_eq e
        clear hinv hb e
        go_wp2
        go_ret
        exact ⟨by rw [HE.out]; rfl, HB.out.alloc hz _⟩
      · rw [if_neg e] at hinv
        have HE : Hid (findV l s = (findV (l.drop (j + 1)) s).map (· + (j + 1))) := show findV l s = (findV (l.drop (j + 1)) s).map (· + (j + 1)) by
          rw [hinv]
          cases findV (l.drop (j + 1)) s with
          | none => rfl
          | some k => simp; omega
        have HB : Hid _ := hb
        have eb := ba_ne e
        clear hinv hb e
        go_wp2
        go_roundg (q - (j + 1))
        case measure => omega
        case rel => exact ⟨j + 1, by omega, rfl, HB.out.alloc hz _, HE.out⟩
    · obtain rfl : j = q := by omega
      have e : Hid (findV l s = none) := show findV l s = none by rw [hinv, List.drop_of_length_le (by omega)]; rfl
      clear hinv
      go_wp2
      go_ret
      exact ⟨by rw [e.out]; rfl, hb⟩
end Go.Proofs.YtbcinapnnlfnbaaGreat
namespace Go.Proofs.YtbcinapnnlfnbaaGreat
open Go.RowKit Tr

/-- Parents that are numbers of accounts. -/
def PaOk (l : List Ac) : Prop := ∀ (k : Nat) (a : Ac), l[k]? = some a → 0 < k → 0 ≤ a.pa ∧ a.pa < (l.length : Int)

set_option maxRecDepth 20000 in
set_option maxHeartbeats 1000000 in
theorem depth_any {w : World} {ao : Option Addr} {l : List Ac} {c : Nat} (hA : AcsAt w ao l) (hn : l.length * 48 ≤ 140737488355328) (hp : PaOk l) {n : Nat} (hnl : n < l.length) :
    Calls Tryz.prog 47 #[.slice ao l.length c, .int .i64 n] w fun e w' => e = .returned (.int .i64 (findI (depthV l n))) ∧ Below w.heap.size w w' := by
  obtain ⟨q, hq⟩ : ∃ q, l.length = q := ⟨_, rfl⟩
  obtain ⟨g, o, hg, hc⟩ := hA
  unfold depthV
  rw [hq] at hg hn hnl ⊢
  obtain rfl := hg (by omega)
  go_enter Tryz.func47, Tryz.ntmps47
  go_wp2
  go_loopg [1, 5] (q + 1) (fun gk pn p wr => ∃ (j m : Nat), j + gk = q + 1 ∧ p = .int .i64 j ∧ pn = .int .i64 m ∧ m < q ∧ w = wr ∧ depN l (q + 1) n = (depN l gk m).map (· + j))
  case atStart => exact ⟨0, n, by omega, rfl, rfl, hnl, rfl, by simp⟩
  case round =>
    obtain ⟨j, m, hj, rfl, rfl, hm, rfl, hinv⟩ := hrel
    by_cases hlt : j ≤ q
    · have hlt' : (j : Int) ≤ q := by omega
      obtain ⟨f, rfl⟩ : ∃ f, gk = f + 1 := ⟨gk - 1, by omega⟩
      rw [show depN l (f + 1) m = if m = 0 then some 0 else (depN l f (up l m)).map (· + 1) from rfl] at hinv
      by_cases e0 : m = 0
      · subst e0
        simp at hinv
        have HE : Hid _ := hinv
        clear hinv hc
        go_wp2
        go_ret
        exact ⟨by rw [HE.out]; rfl, Below.refl _ _⟩
      · rw [if_neg e0] at hinv
        obtain ⟨a, ha⟩ : ∃ a, l[m]? = some a := ⟨_, List.getElem?_eq_getElem (by omega)⟩
        obtain ⟨p0, p1⟩ := hp m a ha (by omega)
        obtain ⟨pn, hpn⟩ : ∃ pn : Nat, a.pa = pn := ⟨a.pa.toNat, by omega⟩
        have hup : up l m = pn := by rw [up_of ha, hpn]; simp
        rw [hup] at hinv
        have d1 := (hc m a ha).pa
        rw [hpn] at d1 p1
        rw [hq] at p1
        have HE : Hid (depN l (q + 1) n = (depN l f pn).map (· + (j + 1))) := show depN l (q + 1) n = (depN l f pn).map (· + (j + 1)) by
          rw [hinv]
          cases depN l f pn with
          | none => rfl
          | some k => simp; omega
        have e0' : ¬ (m : Int) = 0 := by omega
        have hm' : (m : Int) < q := by omega
        clear hinv hc ha hpn hup
        go_wp2
        go_roundg f
        case measure => omega
        case rel => exact ⟨j + 1, pn, by omega, rfl, rfl, by omega, rfl, HE.out⟩
    · have hlt' : ¬ (j : Int) ≤ q := by omega
      obtain rfl : gk = 0 := by omega
      have HE : Hid (depN l (q + 1) n = none) := show depN l (q + 1) n = none by rw [hinv]; rfl
      clear hinv hc
      go_wp2
      go_ret
      exact ⟨by rw [HE.out]; rfl, Below.refl _ _⟩

/-- The reference's tree at d. -/
def RefT (W : World) (d : Nat) (l : List Ac) : Prop := ∃ ao c, W.heap[d]? = some (.cells #[.slice ao l.length c] 79 (0, 0)) ∧ AcsAt W ao l ∧ (ao = none → l = [] ∧ c = 0)
set_option maxRecDepth 20000 in
theorem cells_at {w : World} {b k : Nat} {cs : Array Value} {e : TypeId} {f : Nat × Nat} {v : Value} (h : w.heap[b]? = some (.cells cs e f)) (hv : cs[k]? = some v) : w.cell? ⟨b, k, none⟩ = some v := by
  unfold World.cell?
  rw [h]
  simpa using hv
set_option maxRecDepth 20000 in
theorem RefT.below {W W' : World} {d : Nat} {l : List Ac} (h : RefT W d l) (b : Below W.heap.size W W') : RefT W' d l := by
  obtain ⟨ao, c, h1, h2, h3⟩ := h
  exact ⟨ao, c, (b.block d (Array.getElem?_eq_some_iff.1 h1).1).trans h1, h2.below b, h3⟩

def thereB (l : List Ac) (n : Int) : Bool := decide (0 ≤ n) && decide (n < l.length)
end Go.Proofs.YtbcinapnnlfnbaaGreat
namespace Go.Proofs.YtbcinapnnlfnbaaGreat
open Go.RowKit Tr

def findA (o : Option Nat) : Value := .tuple #[.int .i64 (o.getD 0), .bool o.isSome]
def depZ (l : List Ac) (n : Int) : Int := if thereB l n then findI (depthV l n.toNat) else -1
set_option maxRecDepth 20000 in
theorem drop_all {s : ByteArray} {j : Nat} (h : j < s.size) : (s.data.toList.drop j).all okByte = (okByte s[j] && (s.data.toList.drop (j + 1)).all okByte) := by
  have hj : j < s.data.toList.length := by simpa using h
  rw [List.drop_eq_getElem_cons hj, List.all_cons]
  rfl
set_option maxRecDepth 20000 in
set_option maxHeartbeats 2000000 in
theorem name_any (s : ByteArray) (w : World) : Calls Tryz.prog 81 #[.string s] w fun e w' => e = .returned (.bool (okName s)) ∧ Below w.heap.size w w' := by
  unfold okName
  by_cases h1 : s.size < 1
  · have e : decide (1 ≤ s.size) = false := decide_eq_false (by omega)
    rw [e]
    go_enter Tryz.func81, Tryz.ntmps81
    go_wp2
    go_ret
    exact ⟨rfl, Below.refl _ _⟩
  by_cases h2 : 32 < s.size
  · have e : decide (s.size ≤ 32) = false := decide_eq_false (by omega)
    rw [e]
    have h1' : ¬ (s.size : Int) < 1 := by omega
    go_enter Tryz.func81, Tryz.ntmps81
    go_wp2
    go_ret
    exact ⟨by simp, Below.refl _ _⟩
  have e1 : decide (1 ≤ s.size) = true := decide_eq_true (by omega)
  have e2 : decide (s.size ≤ 32) = true := decide_eq_true (by omega)
  rw [e1, e2, Bool.true_and, Bool.true_and]
  obtain ⟨q, hq⟩ : ∃ q, s.size = q := ⟨_, rfl⟩
  have h1' : ¬ (s.size : Int) < 1 := by omega
  have h2' : ¬ (32 : Int) < s.size := by omega
  go_enter Tryz.func81, Tryz.ntmps81
  go_wp2
  go_loopg [15] q (fun gk p wr => ∃ j : Nat, j + gk = q ∧ p = .int .i64 j ∧ w = wr ∧ s.data.toList.all okByte = (s.data.toList.drop j).all okByte)
  case atStart => exact ⟨0, by omega, rfl, rfl, by simp⟩
  case round =>
    obtain ⟨j, hj, rfl, rfl, hinv⟩ := hrel
    by_cases hlt : j < q
    · have hlt' : (j : Int) < q := by omega
      have hjs : j < s.size := by omega
      rw [drop_all hjs] at hinv
      have HI : Hid _ := hinv
      clear hinv
      go_upto_region 7 with fail
      obtain ⟨b, hb⟩ : ∃ b, s[j].toNat = b := ⟨_, rfl⟩
      obtain ⟨ob, hob⟩ : ∃ ob, okByte s[j] = ob := ⟨_, rfl⟩
      have hbo : ob = ((decide (97 ≤ b) && decide (b ≤ 122)) || (decide (65 ≤ b) && decide (b ≤ 90)) || (decide (48 ≤ b) && decide (b ≤ 57)) || b == 45 || b == 95) := by rw [← hob, ← hb]; rfl
      rw [hb]
      rw [hob] at HI
      clear hb hob
      go_cut [51] (fun t wc => t = .bool (!ob) ∧ w = wc)
      case first =>
        have hc : (97 ≤ b ∧ b ≤ 122) ∨ (122 < b) ∨ (b = 95) ∨ (91 ≤ b ∧ b ≤ 96 ∧ b ≠ 95) ∨ (65 ≤ b ∧ b ≤ 90) ∨ (58 ≤ b ∧ b ≤ 64) ∨ (48 ≤ b ∧ b ≤ 57) ∨ (b = 45) ∨ (b < 48 ∧ b ≠ 45) := by omega
        rcases hc with h | h | h | h | h | h | h | h | h
        · have ok : ob = true := by rw [hbo]; simp; omega
          clear hbo
          subst ok
          have f0 : (97 : Int) ≤ b := by omega
          have f1 : (b : Int) ≤ 122 := by omega
          clear h
          go_wp2
          go_meet
          first | exact ⟨rfl, rfl⟩ | exact ⟨by simp; omega, rfl⟩
        · have ok : ob = false := by rw [hbo]; simp; omega
          clear hbo
          subst ok
          have f0 : (97 : Int) ≤ b := by omega
          have f1 : ¬ (b : Int) ≤ 122 := by omega
          have f2 : (65 : Int) ≤ b := by omega
          have f3 : ¬ (b : Int) ≤ 90 := by omega
          have f4 : (48 : Int) ≤ b := by omega
          have f5 : ¬ (b : Int) ≤ 57 := by omega
          have f6 : ¬ (b : Int) = 45 := by omega
          have f7 : ¬ (b : Int) = 95 := by omega
          clear h
          go_wp2
          go_meet
          first | exact ⟨rfl, rfl⟩ | exact ⟨by simp; omega, rfl⟩
        · have ok : ob = true := by rw [hbo, h]; rfl
          clear hbo
          subst ok
          subst h
          go_wp2
          go_meet
          first | exact ⟨rfl, rfl⟩ | exact ⟨by simp; omega, rfl⟩
        · have ok : ob = false := by rw [hbo]; simp; omega
          clear hbo
          subst ok
          have f0 : ¬ (97 : Int) ≤ b := by omega
          have f1 : (65 : Int) ≤ b := by omega
          have f2 : ¬ (b : Int) ≤ 90 := by omega
          have f3 : (48 : Int) ≤ b := by omega
          have f4 : ¬ (b : Int) ≤ 57 := by omega
          have f5 : ¬ (b : Int) = 45 := by omega
          have f6 : ¬ (b : Int) = 95 := by omega
          clear h
          go_wp2
          go_meet
          first | exact ⟨rfl, rfl⟩ | exact ⟨by simp; omega, rfl⟩
        · have ok : ob = true := by rw [hbo]; simp; omega
          clear hbo
          subst ok
          have f0 : ¬ (97 : Int) ≤ b := by omega
          have f1 : (65 : Int) ≤ b := by omega
          have f2 : (b : Int) ≤ 90 := by omega
          clear h
          go_wp2
          go_meet
          first | exact ⟨rfl, rfl⟩ | exact ⟨by simp; omega, rfl⟩
        · have ok : ob = false := by rw [hbo]; simp; omega
          clear hbo
          subst ok
          have f0 : ¬ (97 : Int) ≤ b := by omega
          have f1 : ¬ (65 : Int) ≤ b := by omega
          have f2 : (48 : Int) ≤ b := by omega
          have f3 : ¬ (b : Int) ≤ 57 := by omega
          have f4 : ¬ (b : Int) = 45 := by omega
          have f5 : ¬ (b : Int) = 95 := by omega
          clear h
          go_wp2
          go_meet
          first | exact ⟨rfl, rfl⟩ | exact ⟨by simp; omega, rfl⟩
        · have ok : ob = true := by rw [hbo]; simp; omega
          clear hbo
          subst ok
          have f0 : ¬ (97 : Int) ≤ b := by omega
          have f1 : ¬ (65 : Int) ≤ b := by omega
          have f2 : (48 : Int) ≤ b := by omega
          have f3 : (b : Int) ≤ 57 := by omega
          clear h
          go_wp2
          go_meet
          first | exact ⟨rfl, rfl⟩ | exact ⟨by simp; omega, rfl⟩
        · have ok : ob = true := by rw [hbo, h]; rfl
          clear hbo
          subst ok
          subst h
          go_wp2
          go_meet
          first | exact ⟨rfl, rfl⟩ | exact ⟨by simp; omega, rfl⟩
        · have ok : ob = false := by rw [hbo]; simp; omega
          clear hbo
          subst ok
          have f0 : ¬ (97 : Int) ≤ b := by omega
          have f1 : ¬ (65 : Int) ≤ b := by omega
          have f2 : ¬ (48 : Int) ≤ b := by omega
          have f3 : ¬ (b : Int) = 45 := by omega
          have f4 : ¬ (b : Int) = 95 := by omega
          clear h
          go_wp2
          go_meet
          first | exact ⟨rfl, rfl⟩ | exact ⟨by simp; omega, rfl⟩
      case rest =>
        obtain ⟨rfl, rfl⟩ := hcut
        clear hbo
        cases ob with
        | true =>
          have HJ : Hid (s.data.toList.all okByte = (s.data.toList.drop (j + 1)).all okByte) := show s.data.toList.all okByte = (s.data.toList.drop (j + 1)).all okByte by rw [HI.out, Bool.true_and]
          clear HI
          go_wp2
          go_roundg (q - (j + 1))
          case measure => omega
          case rel => exact ⟨j + 1, by omega, rfl, rfl, HJ.out⟩
        | false =>
          have HJ : Hid (s.data.toList.all okByte = false) := show s.data.toList.all okByte = false by rw [HI.out, Bool.false_and]
          clear HI
          go_wp2
          go_ret
          exact ⟨by rw [HJ.out]; rfl, Below.refl _ _⟩
    · obtain rfl : j = q := by omega
      have HI : Hid (s.data.toList.all okByte = true) := show s.data.toList.all okByte = true by
        rw [hinv, List.drop_of_length_le (by simp; exact Nat.le_of_eq hq)]
        rfl
      clear hinv
      go_wp2
      go_ret
      exact ⟨by rw [HI.out]; rfl, Below.refl _ _⟩
end Go.Proofs.YtbcinapnnlfnbaaGreat
namespace Go.Proofs.YtbcinapnnlfnbaaGreat
open Go.RowKit Tr

theorem frozen_at {w : World} {b k : Nat} {cs : Array Value} {e : TypeId} (h : w.heap[b]? = some (.cells cs e (0, 0))) : w.frozen? ⟨b, k, none⟩ = false := by
  unfold World.frozen?
  rw [h]
  simp
theorem cells5 {w : World} {b : Nat} {v0 v1 v2 v3 v4 : Value} {e : TypeId} (h : w.heap[b]? = some (.cells #[v0, v1, v2, v3, v4] e (0, 0))) :
    (w.cell? ⟨b, 0, none⟩ = some v0 ∧ w.cell? ⟨b, 1, none⟩ = some v1 ∧ w.cell? ⟨b, 2, none⟩ = some v2 ∧ w.cell? ⟨b, 3, none⟩ = some v3 ∧ w.cell? ⟨b, 4, none⟩ = some v4) ∧ ∀ k, w.frozen? ⟨b, k, none⟩ = false :=
  ⟨⟨cells_at h rfl, cells_at h rfl, cells_at h rfl, cells_at h rfl, cells_at h rfl⟩, fun _ => frozen_at h⟩
theorem set5 {w : World} {b : Nat} {u0 u1 u2 u3 u4 : Value} {e : TypeId} (h : w.heap[b]? = some (.cells #[u0, u1, u2, u3, u4] e (0, 0))) (v0 v1 v2 v3 v4 : Value) :
    (((((w.setCell ⟨b, 0, none⟩ v0).setCell ⟨b, 1, none⟩ v1).setCell ⟨b, 2, none⟩ v2).setCell ⟨b, 3, none⟩ v3).setCell ⟨b, 4, none⟩ v4).heap[b]? = some (.cells #[v0, v1, v2, v3, v4] e (0, 0)) :=
  heap_setCell_same _ b 4 _ e v4 (heap_setCell_same _ b 3 _ e v3 (heap_setCell_same _ b 2 _ e v2 (heap_setCell_same _ b 1 _ e v1 (heap_setCell_same _ b 0 _ e v0 h))))
theorem _root_.Go.RowKit.Below.set5 {B b : Nat} {w w1 : World} (h : Below B w w1) (hb : B ≤ b) (v0 v1 v2 v3 v4 : Value) : Below B w (((((w1.setCell ⟨b, 0, none⟩ v0).setCell ⟨b, 1, none⟩ v1).setCell ⟨b, 2, none⟩ v2).setCell ⟨b, 3, none⟩ v3).setCell ⟨b, 4, none⟩ v4) :=
  ((((h.setCell (p := ⟨b, 0, none⟩) hb v0).setCell (p := ⟨b, 1, none⟩) hb v1).setCell (p := ⟨b, 2, none⟩) hb v2).setCell (p := ⟨b, 3, none⟩) hb v3).setCell (p := ⟨b, 4, none⟩) hb v4
/-- An account as a value. -/
def acV (a : Ac) : Value := .agg #[.string a.nm, .int .i64 a.pa, .int .i64 a.sh, .bool a.cl, .int .u64 a.us]
def noAc : Ac := ⟨⟨#[]⟩, 0, 0, false, 0⟩
def getA (l : List Ac) (n : Int) : Value := if thereB l n then .tuple #[acV ((l[n.toNat]?).getD noAc), .bool true] else .tuple #[acV noAc, .bool false]
def ints (xs : List Nat) : List Value := xs.map fun (k : Nat) => .int .i64 (k : Int)
theorem Tryz.inf3 : (Tryz.prog.info? 3).map (fun i => (i.zero, i.size, i.bytes)) = some (some (.int .i64 0), 1, 8) := by kernel_rfl
theorem row_kept {w w1 : World} {B e sz n : Nat} {v : Value} {vs : List Value} (h : w.ownsRow B e sz v n vs) (b : Below w.heap.size w w1) : w1.ownsRow B e sz v n vs := by
  refine ⟨h.1, ?_⟩
  rcases h.2 with h0 | ⟨g, cap, cur, rfl, hb, hg, r⟩
  · exact .inl h0
  · exact .inr ⟨g, cap, cur, rfl, hb, (b.block g (Array.getElem?_eq_some_iff.1 hg).1).trans hg, r⟩
theorem below_gr {w w1 w2 : World} {v : Value} {vs : List Value} {n B e sz : Nat} (h : Below w.heap.size w w1) (hr : w1.ownsRow B e sz v n vs) (hB : w.heap.size ≤ B) (hg : w1.grownBy w2 v.ownBlock) : Below w.heap.size w w2 :=
  h.grown hg h.size (fun k e => by have := (hr.lt k e).1; omega)
theorem own_base {w : World} {B B' e sz n : Nat} {v : Value} {vs : List Value} (h : w.ownsRow B e sz v n vs) (hb : B' ≤ B) : w.ownsRow B' e sz v n vs := by
  refine ⟨h.1, ?_⟩
  rcases h.2 with h0 | ⟨g, cap, cur, rfl, hg, r⟩
  · exact .inl h0
  · exact .inr ⟨g, cap, cur, rfl, Nat.le_trans hb hg, r⟩
set_option maxRecDepth 20000 in
theorem filter_step (p : Nat → Bool) (j : Nat) : (List.range (j + 1)).filter p = (List.range j).filter p ++ (if p j then [j] else []) := by
  rw [List.range_succ, List.filter_append]
  congr 1
  by_cases h : p j = true
  · simp [h]
  · simp [h]
set_option maxRecDepth 20000 in
theorem filter_len (p : Nat → Bool) (j : Nat) : ((List.range j).filter p).length ≤ j := by
  have := List.length_filter_le p (List.range j)
  simpa using this
def kidsZ (l : List Ac) (n : Int) : List Nat := if thereB l n then kidsV l n.toNat else []

end Go.Proofs.YtbcinapnnlfnbaaGreat
namespace Go.Proofs.YtbcinapnnlfnbaaGreat
open Go.RowKit Tr

def belowZ (l : List Ac) (n : Int) : List Nat := if thereB l n then belowV l n.toNat else []
theorem blw_up {l : List Ac} {n k : Nat} (h0 : k ≠ 0) (hn : k ≠ n) : Blw l n k ↔ Blw l n (up l k) := by
  refine ⟨fun ⟨s, h⟩ => ?_, fun h => below_up h0 h⟩
  cases s with
  | zero => exact absurd h hn
  | succ s => exact ⟨s, h.2.2⟩
theorem blw_zero {l : List Ac} {n : Nat} (hn : n ≠ 0) : ¬ Blw l n 0 := by
  rintro ⟨s, h⟩
  cases s with
  | zero => exact hn h.symm
  | succ s => exact h.2.1 rfl
/-- All come to the root. -/
def Deps (l : List Ac) : Prop := ∀ i, i < l.length → ∃ d, Dep l d i
theorem up_lt_of {l : List Ac} (hp : PaOk l) {k : Nat} (hk : k < l.length) (hk0 : k ≠ 0) : up l k < l.length := by
  obtain ⟨a, ha⟩ : ∃ a, l[k]? = some a := ⟨_, List.getElem?_eq_getElem hk⟩
  rw [up_of ha]
  have := hp k a ha (by omega)
  omega
theorem deps_lt {l : List Ac} (hp : PaOk l) {d i : Nat} (hi : i < l.length) (hd : Dep l d i) : d < l.length := by
  have key : ∀ e j, j < l.length → ∀ d, Dep l d j → e ≤ d → itr l e j < l.length := fun e => by
    induction e with
    | zero => exact fun j hj _ _ _ => hj
    | succ e ih =>
      intro j hj d hd he
      cases d with
      | zero => omega
      | succ d => exact ih _ (up_lt_of hp hj hd.1) d hd.2 (by omega)
  exact inj_bound l.length d (fun e => itr l e i) (fun e he => key e i hi d hd he) (fun e e' he he' heq => by
    have h1 := itr_dep hd he
    have h2 := itr_dep hd he'
    rw [heq] at h1
    have := dep_uniq h1 h2
    omega)
set_option maxRecDepth 20000 in
theorem bel_iff {l : List Ac} (hp : PaOk l) (hd : Deps l) (n : Nat) {k : Nat} (hk : k < l.length) : belN l n l.length k = true ↔ Blw l n k := by
  obtain ⟨d, h2⟩ := hd k hk
  exact belN_iff h2 (by have := deps_lt hp hk h2; omega)

end Go.Proofs.YtbcinapnnlfnbaaGreat
namespace Go.Proofs.YtbcinapnnlfnbaaGreat
open Go.RowKit Tr

/-- The cells of accounts. -/
def flatA : List Ac → List Value
  | [] => []
  | a :: l => .string a.nm :: .int .i64 a.pa :: .int .i64 a.sh :: .bool a.cl :: .int .u64 a.us :: flatA l
theorem flatA_len (l : List Ac) : (flatA l).length = l.length * 5 := by
  induction l with
  | nil => rfl
  | cons s l ih => simp [flatA, ih]; omega
theorem flatA_app (a b : List Ac) : flatA (a ++ b) = flatA a ++ flatA b := by
  induction a with
  | nil => rfl
  | cons s l ih => simp [flatA, ih]
theorem flatA_one (l : List Ac) : ∀ u ∈ flatA l, u.oneCell' = true := by
  induction l with
  | nil => intro u h; cases h
  | cons r l ih =>
    intro u h
    simp only [flatA, List.mem_cons] at h
    rcases h with rfl | rfl | rfl | rfl | rfl | h
    · rfl
    · rfl
    · rfl
    · rfl
    · rfl
    · exact ih u h
theorem flatA_at (l : List Ac) : ∀ j a, l[j]? = some a → (flatA l)[j * 5]? = some (.string a.nm) ∧ (flatA l)[j * 5 + 1]? = some (.int .i64 a.pa) ∧ (flatA l)[j * 5 + 2]? = some (.int .i64 a.sh) ∧ (flatA l)[j * 5 + 3]? = some (.bool a.cl) ∧ (flatA l)[j * 5 + 4]? = some (.int .u64 a.us) := by
  induction l with
  | nil => intro j s h; simp at h
  | cons x l ih =>
    intro j a h
    cases j with
    | zero => simp at h; subst h; simp [flatA]
    | succ j =>
      have := ih j a (by simpa using h)
      simp only [flatA]
      rw [show (j + 1) * 5 = j * 5 + 1 + 1 + 1 + 1 + 1 by omega]
      simpa using this
theorem flatA_cell {W : World} {g o : Nat} {l : List Ac} (h : ∀ k a, l[k]? = some a → AcAt W g (o + k * 5) a) : ∀ j u, (flatA l)[j]? = some u → W.cell? ((⟨g, o, none⟩ : Addr).add j) = some u := by
  intro j u hu
  have ha : (⟨g, o, none⟩ : Addr).add j = ⟨g, o + j, none⟩ := by unfold Addr.add; split <;> simp_all
  rw [ha]
  have hj : j < l.length * 5 := by rw [← flatA_len]; exact (List.getElem?_eq_some_iff.1 hu).1
  obtain ⟨a, hr⟩ : ∃ a, l[j / 5]? = some a := ⟨_, List.getElem?_eq_getElem (by omega)⟩
  obtain ⟨e0, e1, e2, e3, e4⟩ := flatA_at l _ a hr
  have c := h _ a hr
  have hm : j % 5 = 0 ∨ j % 5 = 1 ∨ j % 5 = 2 ∨ j % 5 = 3 ∨ j % 5 = 4 := by omega
  rcases hm with hm | hm | hm | hm | hm
  · rw [show j / 5 * 5 = j by omega] at e0
    rw [e0] at hu
    cases hu
    have := c.nm
    rwa [show o + j / 5 * 5 = o + j by omega] at this
  · rw [show j / 5 * 5 + 1 = j by omega] at e1
    rw [e1] at hu
    cases hu
    have := c.pa
    rwa [show o + j / 5 * 5 + 1 = o + j by omega] at this
  · rw [show j / 5 * 5 + 2 = j by omega] at e2
    rw [e2] at hu
    cases hu
    have := c.sh
    rwa [show o + j / 5 * 5 + 2 = o + j by omega] at this
  · rw [show j / 5 * 5 + 3 = j by omega] at e3
    rw [e3] at hu
    cases hu
    have := c.cl
    rwa [show o + j / 5 * 5 + 3 = o + j by omega] at this
  · rw [show j / 5 * 5 + 4 = j by omega] at e4
    rw [e4] at hu
    cases hu
    have := c.us
    rwa [show o + j / 5 * 5 + 4 = o + j by omega] at this
theorem acs_row {w : World} {B : Nat} {v : Value} {l : List Ac} (h : w.ownsRow B 47 5 v l.length (flatA l)) : ∃ ao c, v = .slice ao l.length c ∧ AcsAt w ao l ∧ (ao = none → l = [] ∧ c = 0) := by
  rcases h.2 with ⟨rfl, h0⟩ | ⟨g, cap, cur, rfl, hb, hg, h1, h2, h3, h4⟩
  · have e := List.length_eq_zero_iff.1 h0
    subst e
    exact ⟨none, 0, rfl, ⟨0, 0, fun h => by simp at h, fun k a ha => by simp at ha⟩, fun _ => ⟨rfl, rfl⟩⟩
  · refine ⟨_, _, rfl, ⟨g, 0, fun _ => rfl, fun k a ha => ?_⟩, fun h => by cases h⟩
    have hk := (List.getElem?_eq_some_iff.1 ha).1
    obtain ⟨e0, e1, e2, e3, e4⟩ := flatA_at l k a ha
    rw [← h4, List.getElem?_take_of_lt (by omega), Array.getElem?_toList] at e0 e1 e2 e3 e4
    rw [Nat.zero_add]
    exact ⟨cells_at hg e0, cells_at hg e1, cells_at hg e2, cells_at hg e3, cells_at hg e4⟩
/-- The reference's tree at d, with a list of its own. -/
structure RefO (B : Nat) (W : World) (d : Nat) (v : Value) (l : List Ac) : Prop where
  blk : W.heap[d]? = some (.cells #[v] 79 (0, 0))
  row : W.ownsRow B 47 5 v l.length (flatA l)
  lo : B ≤ d
set_option maxRecDepth 20000 in
theorem RefO.ref {B : Nat} {W : World} {d : Nat} {v : Value} {l : List Ac} (h : RefO B W d v l) : RefT W d l := by
  obtain ⟨ao, c, rfl, h1, h2⟩ := acs_row h.row
  exact ⟨ao, c, h.blk, h1, h2⟩
set_option maxRecDepth 20000 in
theorem RefO.below {B : Nat} {W W' : World} {d : Nat} {v : Value} {l : List Ac} (h : RefO B W d v l) (b : Below W.heap.size W W') : RefO B W' d v l :=
  ⟨(b.block d (Array.getElem?_eq_some_iff.1 h.blk).1).trans h.blk, row_kept h.row b, h.lo⟩

theorem Tryz.inf47 : (Tryz.prog.info? 47).map (fun i => (i.zero, i.size, i.bytes)) = some (some (.agg #[.string ⟨#[]⟩, .int .i64 0, .int .i64 0, .bool false, .int .u64 0]), 5, 48) := by kernel_rfl
/-- append of any slice. -/
theorem wpList_append_any {P : Program} {w : World} {ops : Array Oper} {rest : List Oper} {o : Oper} {a : Act} {Q : Exit → Act → World → Prop} (hgd : o.guard = none) (s x : Operand) (t : TypeId)
    (ho : o.op = .call { callee := .builtin .append, args := #[s, x], argTypes := #[t, t] })
    (base : Nat) (e : TypeId) (i : TypeInfo) (z : Value) (size bytes : Nat) (ht : P.underlying t = some (.slice e)) (hi : P.info? e = some i) (hz : i.zero = some z)
    (hsize : i.size = size) (hby : i.bytes = bytes) (hzs : z.cells.size = size) (hsz : 0 < size)
    (v : Value) (n : Nat) (xs : List Value) (hs : a.eval s = v) (hown : w.ownsRow base e size v n xs)
    (ao : Option Addr) (m c : Nat) (news : List Value) (hx : a.eval x = .slice ao m c) (hnil : ao = none → m = 0 ∧ c = 0) (hl : news.length = m * size) (hnews : ∀ ad, ao = some ad → ∀ j u, news[j]? = some u → w.cell? (ad.add j) = some u) (h1 : ∀ u ∈ news, u.oneCell' = true)
    (h63 : n + m ≤ maxLen) (hbytes : (n + m) * bytes ≤ 140737488355328) (hbase : base ≤ w.heap.size)
    (h : ∀ v' w', w'.ownsRow base e size v' (n + m) (xs ++ news) → w.grownBy w' v.ownBlock → wpList P ops Q rest (a.put o.dst v') w') :
    wpList P ops Q (o :: rest) a w := by
  cases ao with
  | none =>
    obtain ⟨rfl, rfl⟩ := hnil rfl
    have hn0 : news = [] := List.length_eq_zero_iff.1 (by rw [hl]; omega)
    subst hn0
    exact wpList_append_own_none hgd s x t ho base e i size ht hi v n xs hs hown hx (h v w (by simpa using hown) ⟨rfl, rfl, rfl, Nat.le_refl _, fun _ _ _ => rfl⟩)
  | some ad => exact wpList_append_own_at _ hgd s x t ho base e i z size bytes ht hi hz hsize hby hzs hsz v n xs hs hown ad m c news hx hl (hnews ad rfl) h1 h63 hbytes hbase (fun v' w' g1 g2 _ _ => h v' w' g1 g2)
set_option maxRecDepth 20000 in
theorem acs_flat {W : World} {ao : Option Addr} {l : List Ac} (h : AcsAt W ao l) : ∀ ad, ao = some ad → ∀ j u, (flatA l)[j]? = some u → W.cell? (ad.add j) = some u := by
  intro ad had j u hu
  obtain ⟨g, o, h1, h2⟩ := h
  have hj : 0 < l.length := by
    have := (List.getElem?_eq_some_iff.1 hu).1
    rw [flatA_len] at this
    omega
  rw [h1 hj] at had
  injection had with had
  subst had
  exact flatA_cell h2 j u hu
end Go.Proofs.YtbcinapnnlfnbaaGreat
namespace Go.Proofs.YtbcinapnnlfnbaaGreat
open Go.RowKit Tr

/-- Of the blocks that were there only those of K may have turned. -/
structure Chg (K : Nat → Prop) (w w' : World) : Prop where
  os : w'.os = w.os
  tape : w'.tape = w.tape
  output : w'.output = w.output
  size : w.heap.size ≤ w'.heap.size
  block : ∀ k, k < w.heap.size → ¬ K k → w'.heap[k]? = w.heap[k]?
theorem Chg.refl (K : Nat → Prop) (w : World) : Chg K w w := ⟨rfl, rfl, rfl, Nat.le_refl _, fun _ _ _ => rfl⟩
theorem Chg.of_gr {w w' : World} {r : Option Nat} (h : w.grownBy w' r) {K : Nat → Prop} (hK : ∀ k, r = some k → K k ∨ w.heap.size ≤ k) : Chg K w w' :=
  ⟨h.os, h.tape, h.output, h.size, fun k hk hn => h.block k hk (fun e => by rcases hK k e.symm with h | h; exact hn h; omega)⟩
theorem Chg.of_below {w w' : World} (h : Below w.heap.size w w') (K : Nat → Prop) : Chg K w w' := ⟨h.os, h.tape, h.output, h.size, fun k hk _ => h.block k hk⟩
theorem Chg.trans {K K' : Nat → Prop} {w w1 w2 : World} (h : Chg K w w1) (k : Chg K' w1 w2) (hK : ∀ i, i < w.heap.size → K' i → K i) : Chg K w w2 :=
  ⟨k.os.trans h.os, k.tape.trans h.tape, k.output.trans h.output, Nat.le_trans h.size k.size, fun i hi hn => (k.block i (Nat.lt_of_lt_of_le hi h.size) (fun e => hn (hK i hi e))).trans (h.block i hi hn)⟩
theorem Chg.mono {K K' : Nat → Prop} {w w1 : World} (h : Chg K w w1) (hK : ∀ i, i < w.heap.size → K i → K' i) : Chg K' w w1 := ⟨h.os, h.tape, h.output, h.size, fun i hi hn => h.block i hi (fun e => hn (hK i hi e))⟩
theorem Chg.cell {K : Nat → Prop} {w w1 : World} (h : Chg K w w1) {a : Addr} {v : Value} (hc : w.cell? a = some v) (hK : ¬ K a.block) : w1.cell? a = some v :=
  (World.cell?_of_block (h.block a.block (World.block_lt_of_cell? w a hc) hK)).trans hc
theorem Chg.setCell {K : Nat → Prop} {w w1 : World} (h : Chg K w w1) (p : Addr) (v : Value) (hK : K p.block ∨ w.heap.size ≤ p.block) : Chg K w (w1.setCell p v) :=
  ⟨h.os, h.tape, h.output, by rw [World.size_setCell]; exact h.size, fun i hi hn => by
    rw [Below.heap_setCell _ _ _ _ (fun e => by subst e; rcases hK with k | k; exact hn k; omega)]
    exact h.block i hi hn⟩
theorem Chg.alloc {K : Nat → Prop} {w w1 : World} (h : Chg K w w1) (o : Obj) : Chg K w (w1.alloc o) :=
  ⟨h.os, h.tape, h.output, by rw [World.size_alloc]; have := h.size; omega, fun i hi hn => (Below.heap_alloc _ _ _ (Nat.lt_of_lt_of_le hi h.size)).trans (h.block i hi hn)⟩
theorem Chg.drew {K : Nat → Prop} {w w1 : World} (h : Chg K w w1) : Chg K w w1.drew := ⟨h.os, h.tape, h.output, h.size, h.block⟩
theorem Chg.below {K : Nat → Prop} {w0 w w1 : World} {B : Nat} (h : Chg K w w1) (hb : Below B w0 w) (hB : B ≤ w.heap.size) (hK : ∀ i, K i → B ≤ i) : Below B w0 w1 :=
  hb.trans ⟨h.os, h.tape, h.output, h.size, fun k hk => h.block k (by omega) (fun e => by have := hK k e; omega)⟩

/-- The blocks of a tree. -/
def RefK (d : Nat) (v : Value) (j : Nat) : Prop := j = d ∨ v.ownBlock = some j
theorem flatA_pa : ∀ (l : List Ac) (n : Nat) (a : Ac) (x : Int), l[n]? = some a → (flatA l).set (n * 5 + 1) (.int .i64 x) = flatA (l.set n { a with pa := x })
  | [], n, a, x, h => by simp at h
  | b :: l, 0, a, x, h => by simp at h; subst h; rfl
  | b :: l, n + 1, a, x, h => by
    have := flatA_pa l n a x (by simpa using h)
    rw [show (n + 1) * 5 + 1 = n * 5 + 1 + 1 + 1 + 1 + 1 + 1 by omega]
    simp only [flatA, List.set_cons_succ, this]
theorem flatA_sh : ∀ (l : List Ac) (n : Nat) (a : Ac) (x : Int), l[n]? = some a → (flatA l).set (n * 5 + 2) (.int .i64 x) = flatA (l.set n { a with sh := x })
  | [], n, a, x, h => by simp at h
  | b :: l, 0, a, x, h => by simp at h; subst h; rfl
  | b :: l, n + 1, a, x, h => by
    have := flatA_sh l n a x (by simpa using h)
    rw [show (n + 1) * 5 + 2 = n * 5 + 2 + 1 + 1 + 1 + 1 + 1 by omega]
    simp only [flatA, List.set_cons_succ, this]
theorem flatA_cl : ∀ (l : List Ac) (n : Nat) (a : Ac) (x : Bool), l[n]? = some a → (flatA l).set (n * 5 + 3) (.bool x) = flatA (l.set n { a with cl := x })
  | [], n, a, x, h => by simp at h
  | b :: l, 0, a, x, h => by simp at h; subst h; rfl
  | b :: l, n + 1, a, x, h => by
    have := flatA_cl l n a x (by simpa using h)
    rw [show (n + 1) * 5 + 3 = n * 5 + 3 + 1 + 1 + 1 + 1 + 1 by omega]
    simp only [flatA, List.set_cons_succ, this]
/-- One cell of the list is written. -/
theorem RefO.set {B : Nat} {W : World} {d : Nat} {v : Value} {l l' : List Ac} {g k : Nat} {x : Value} (h : RefO B W d v l) (hg : v.ownBlock = some g) (hf : (flatA l).set k x = flatA l') (hl : l'.length = l.length) :
    RefO B (W.setCell ⟨g, k, none⟩ x) d v l' ∧ Chg (RefK d v) W (W.setCell ⟨g, k, none⟩ x) := by
  have hr := h.row
  rcases hr.2 with ⟨rfl, _⟩ | ⟨g', cap, cur, rfl, hb, hgg, h1, h2, h3, h4⟩
  · simp [Value.ownBlock] at hg
  · simp [Value.ownBlock] at hg
    subst hg
    have hne : d ≠ g' := fun e => by subst e; have := h.blk; rw [hgg] at this; cases this
    have e1 := heap_setCell_same W g' k cur 47 x hgg
    refine ⟨⟨?_, ⟨?_, .inr ⟨g', cap, _, by rw [hl], hb, e1, by rw [hl]; exact h1, h2, by simpa using h3, ?_⟩⟩, h.lo⟩, (Chg.refl _ W).setCell _ _ (.inl (.inr rfl))⟩
    · rw [Below.heap_setCell _ _ _ _ (by simpa using hne)]; exact h.blk
    · rw [← hf, List.length_set, hl]; exact hr.1
    · rw [Array.toList_setIfInBounds, hl, List.take_set, h4, hf]
theorem RefO.cells {B : Nat} {W : World} {d : Nat} {v : Value} {l : List Ac} {n : Nat} {a : Ac} (h : RefO B W d v l) (ha : l[n]? = some a) : ∃ g c, v = .slice (some ⟨g, 0, none⟩) l.length c ∧ AcAt W g (n * 5) a ∧ ∀ k, W.frozen? ⟨g, k, none⟩ = false := by
  have hk := (List.getElem?_eq_some_iff.1 ha).1
  rcases h.row.2 with ⟨_, h0⟩ | ⟨g, cap, cur, rfl, hb, hg, h1, h2, h3, h4⟩
  · omega
  · refine ⟨g, cap, rfl, ?_, fun k => frozen_at hg⟩
    obtain ⟨e0, e1, e2, e3, e4⟩ := flatA_at l n a ha
    rw [← h4, List.getElem?_take_of_lt (by omega), Array.getElem?_toList] at e0 e1 e2 e3 e4
    exact ⟨cells_at hg e0, cells_at hg e1, cells_at hg e2, cells_at hg e3, cells_at hg e4⟩
set_option maxRecDepth 20000 in
theorem RefO.cell {B : Nat} {W : World} {d : Nat} {v : Value} {l : List Ac} (h : RefO B W d v l) : W.cell? ⟨d, 0, none⟩ = some v := cells_at h.blk rfl

end Go.Proofs.YtbcinapnnlfnbaaGreat
namespace Go.Proofs.YtbcinapnnlfnbaaGreat
open Go.RowKit Tr

theorem findI_some (k : Nat) : findI (some k) = (k : Int) := rfl
theorem new_cells (w : World) (l : List Value) (t : TypeId) : ∀ j u, l[j]? = some u → (w.alloc (.cells l.toArray t)).cell? ((⟨w.heap.size, 0, none⟩ : Addr).add j) = some u := by
  intro j u hu
  have ha : (⟨w.heap.size, 0, none⟩ : Addr).add j = ⟨w.heap.size, j, none⟩ := by unfold Addr.add; split <;> simp_all
  rw [ha]
  unfold World.cell?
  rw [heap_alloc_new]
  simpa using hu
theorem row_block {W : World} {B e sz n : Nat} {v : Value} {us : List Value} (h : W.ownsRow B e sz v n us) {k : Nat} (hk : v.ownBlock = some k) : B ≤ k ∧ ∃ cs, W.heap[k]? = some (.cells cs e (0, 0)) := by
  rcases h.2 with ⟨rfl, _⟩ | ⟨g, cap, cur, rfl, hb, hg, _⟩
  · simp [Value.ownBlock] at hk
  · simp [Value.ownBlock] at hk
    subst hk
    exact ⟨hb, cur, hg⟩
theorem row_succ {W : World} {B e sz n : Nat} {v : Value} {us : List Value} (h : W.ownsRow B e sz v (n + 1) us) : ∃ g cap, v = .slice (some ⟨g, 0, none⟩) (n + 1) cap := by
  rcases h.2 with ⟨_, h0⟩ | ⟨g, cap, cur, rfl, _⟩
  · omega
  · exact ⟨g, cap, rfl⟩
theorem row_same {W W' : World} {B e sz n : Nat} {v : Value} {us : List Value} (h : W.ownsRow B e sz v n us) (hg : ∀ k, v.ownBlock = some k → W'.heap[k]? = W.heap[k]?) : W'.ownsRow B e sz v n us := by
  refine ⟨h.1, ?_⟩
  rcases h.2 with h0 | ⟨g, cap, cur, rfl, hb, hgg, r⟩
  · exact .inl h0
  · exact .inr ⟨g, cap, cur, rfl, hb, (hg g rfl).trans hgg, r⟩
/-- One more is appended. -/
theorem RefO.app {B : Nat} {W W' : World} {d : Nat} {v v' : Value} {l : List Ac} {a : Ac} {o : Obj} (h : RefO B W d v l) (hrow : W'.ownsRow B 47 5 v' (l.length + 1) (flatA l ++ flatA [a])) (hg : (W.alloc o).grownBy W' v.ownBlock) :
    RefO B (W'.setCell ⟨d, 0, none⟩ v') d v' (l ++ [a]) ∧ Chg (RefK d v) W (W'.setCell ⟨d, 0, none⟩ v') ∧ W'.cell? ⟨d, 0, none⟩ = some v ∧ W'.frozen? ⟨d, 0, none⟩ = false := by
  have hd := (Array.getElem?_eq_some_iff.1 h.blk).1
  have keep : ∀ k, k < W.heap.size → v.ownBlock ≠ some k → W'.heap[k]? = W.heap[k]? := fun k hk hne => (hg.block k (by rw [World.size_alloc]; omega) (fun e => hne e.symm)).trans (Below.heap_alloc _ _ _ hk)
  have g1 : W'.heap[d]? = some (.cells #[v] 79 (0, 0)) := (keep d hd (fun e => by
    obtain ⟨_, cs, hcs⟩ := row_block h.row e
    have := h.blk
    rw [hcs] at this; cases this)).trans h.blk
  have g2 := heap_setCell_same W' d 0 _ 79 v' g1
  refine ⟨⟨g2, ?_, h.lo⟩, ?_, cells_at g1 rfl, frozen_at g1⟩
  · rw [List.length_append, flatA_app]
    refine row_same hrow (fun k hk => Below.heap_setCell _ _ _ _ (fun e => ?_))
    obtain ⟨_, cs, hcs⟩ := row_block hrow hk
    simp at e
    subst e
    rw [hcs] at g1; cases g1
  · have hz := hg.size
    rw [World.size_alloc] at hz
    have c1 : Chg (RefK d v) W W' := ⟨hg.os, hg.tape, hg.output, by omega, fun k hk hK => keep k hk (fun e => hK (.inr e))⟩
    exact c1.setCell _ _ (.inl (.inl rfl))

end Go.Proofs.YtbcinapnnlfnbaaGreat
namespace Go.Proofs.YtbcinapnnlfnbaaGreat
open Go.RowKit Tr

/-- Numbers that lie in memory. -/
theorem ints_row {w : World} {B : Nat} {v : Value} {xs : List Nat} (h : w.ownsRow B 3 1 v xs.length (ints xs)) : ∃ ao c g, v = .slice ao xs.length c ∧ (0 < xs.length → ao = some ⟨g, 0, none⟩) ∧ ∀ (k x : Nat), xs[k]? = some x → w.cell? ⟨g, k, none⟩ = some (.int .i64 (x : Int)) := by
  rcases h.2 with ⟨rfl, h0⟩ | ⟨g, cap, cur, rfl, hb, hg, h1, h2, h3, h4⟩
  · exact ⟨none, 0, 0, by rw [h0], fun h => by omega, fun k x hx => by have := (List.getElem?_eq_some_iff.1 hx).1; omega⟩
  · refine ⟨_, _, g, rfl, fun _ => rfl, fun k x hx => cells_at hg ?_⟩
    have hk := (List.getElem?_eq_some_iff.1 hx).1
    have e : (ints xs)[k]? = some (.int .i64 (x : Int)) := by simp [ints, hx]
    rw [← h4, List.getElem?_take_of_lt (by omega), Array.getElem?_toList] at e
    exact e
theorem mv_set {l : List Ac} {n : Nat} {a : Ac} (ha : l[n]? = some a) (p : Int) : mvV l n p = l.set n { a with pa := p } := by unfold mvV; rw [ha]
set_option maxRecDepth 20000 in
theorem mv_pa {l : List Ac} (hp : PaOk l) {n p : Nat} {a : Ac} (ha : l[n]? = some a) (hpl : p < l.length) : PaOk (mvV l n p) := fun k b hb hk => by
  rw [mv_len]
  by_cases e : k = n
  · subst e
    rw [mv_at ha] at hb
    cases hb
    simp only
    omega
  · rw [mv_other _ e] at hb
    exact hp k b hb hk
def deepAt (l : List Ac) (i : Nat) : Bool := decide (4 < (depthV l i).getD 0)
set_option maxRecDepth 20000 in
theorem deep_some {l : List Ac} {i : Nat} : (4 : Int) < findI (depthV l i) ↔ deepAt l i = true := by
  unfold deepAt
  cases depthV l i with
  | none => simp [findI]
  | some d => simp [findI]; omega

end Go.Proofs.YtbcinapnnlfnbaaGreat
