/-
  What is due, as lists; where leaving's function stands.
-/
import Derived.Test.YtjmiifgofedcnaaList
namespace Go.Proofs.Ytjmiifgofedcnaa
open Go.RowKit Ag
namespace Ag
def dueL (now : Int) (L : List En) : List En := L.takeWhile (fun e => decide (e.tm ≤ now))
def restL (now : Int) (L : List En) : List En := L.dropWhile (fun e => decide (e.tm ≤ now))
theorem due_split {now : Int} {L pre rest : List En} (hL : L = pre ++ rest) (hp : ∀ e ∈ pre, e.tm ≤ now) (hr : ∀ f l, rest = f :: l → now < f.tm) : dueL now L = pre ∧ restL now L = rest := by
  subst hL
  induction pre with
  | nil =>
    cases rest with
    | nil => exact ⟨rfl, rfl⟩
    | cons f l =>
      have := hr f l rfl
      have h : decide (f.tm ≤ now) = false := by simp; omega
      simp [dueL, restL, h]
  | cons e pre ih =>
    have h : decide (e.tm ≤ now) = true := by simp [hp e (by simp)]
    have := ih (fun x hx => hp x (by simp [hx]))
    simp only [dueL, restL] at this
    simp [dueL, restL, h, this]
theorem delL_head {f : En} {L : List En} (hi : ∀ e ∈ L, e.id ≠ f.id) : delL f.id (f :: L) = L := by
  unfold delL
  simp only [List.filter, decide_true, Bool.not_true]
  exact List.filter_eq_self.2 (fun e he => by simp [hi e he])
end Ag
def ints (xs : List Int) : List Value := xs.map (Value.int .i64)
theorem ints_len (xs : List Int) : (ints xs).length = xs.length := by simp [ints]
/-- How many an agenda has, read off its struct. -/
def lenAt (w : World) (a : Nat) : Nat := match w.cell? ⟨a, 0, none⟩ with
  | some (.slice _ n _) => n
  | _ => 0
theorem lenAt_of {ts te : Nat} {w : World} {a m : Nat} {ao : Option Addr} {L : List En} (r : Agn ts te w a m ao L) : lenAt w a = L.length := by
  obtain ⟨cap, n, h, r⟩ := r
  unfold lenAt
  rw [r.raw.c0, r.len]
/-- Between two rounds of leaving's function. -/
structure LeavAt (ts te a m : Nat) (ao : Option Addr) (b1 b2 : Nat) (now : Int) (N : Nat → Prop) (T : List Int → World → Prop) (W : World) (pre rest : List En) (wr : World) : Prop where
  c1 : wr.cell? ⟨b1, 0, none⟩ = some (.pointer (some ⟨a, 0, none⟩))
  c2 : wr.cell? ⟨b2, 0, none⟩ = some (.int .i64 now)
  agn : Agn ts te wr a m ao rest
  t : T (pre.map En.id) wr
  chg : Chg (fun k => Kag a m ao k ∨ N k) W wr
section
variable {ts te a m : Nat} {ao : Option Addr} {b1 b2 : Nat} {now : Int} {N : Nat → Prop} {T : List Int → World → Prop} {W wr w1 w2 : World} {pre rest : List En} {f : En}
theorem LeavAt.grew (h : LeavAt ts te a m ao b1 b2 now N T W pre rest wr) (hT : ∀ pre A B, T pre A → Chg (Kag a m ao) A B → T pre B) (g : Grew wr w1) : LeavAt ts te a m ao b1 b2 now N T W pre rest w1 :=
  ⟨g.cell h.c1, g.cell h.c2, h.agn.below g.below, hT _ _ _ h.t (Chg.of_below g.below _), h.chg.trans (K' := fun _ => False) (Chg.of_below g.below _) (fun _ _ h => h.elim)⟩
end
theorem Agn.ids {ts te : Nat} {w : World} {a m : Nat} {ao : Option Addr} {L : List En} (r : Agn ts te w a m ao L) : ∀ e ∈ L, ∀ f ∈ L, e.id = f.id → e = f := by
  obtain ⟨cap, n, h, r⟩ := r
  intro e he f hf hef
  obtain ⟨k, hk, rfl⟩ := (r.isL.mem e).1 he
  obtain ⟨k', hk', rfl⟩ := (r.isL.mem f).1 hf
  rw [r.raw.inj k k' hk hk' hef]

section
variable {ts te a m : Nat} {ao : Option Addr} {b1 b2 : Nat} {now : Int} {N : Nat → Prop} {T : List Int → World → Prop} {W wr w1 w2 : World} {pre rest : List En} {f : En}
/-- The first one is taken out. -/
theorem LeavAt.drop (h : LeavAt ts te a m ao b1 b2 now N T W pre (f :: rest) wr) (hT : ∀ pre A B, T pre A → Chg (Kag a m ao) A B → T pre B) (hk1 : ¬ Kag a m ao b1) (hk2 : ¬ Kag a m ao b2)
    (r : Agn ts te w1 a m ao (delL f.id (f :: rest))) (c : Chg (Kag a m ao) wr w1) : LeavAt ts te a m ao b1 b2 now N T W pre rest w1 := by
  have hids := h.agn.ids
  have hsrt : Srt (f :: rest) := by obtain ⟨_, _, _, q⟩ := h.agn; exact q.isL.srt
  have hd : delL f.id (f :: rest) = rest := delL_head (fun e he hid => by
    have hef := hids e (by simp [he]) f (by simp) hid
    subst hef
    exact bef_irrefl _ ((List.pairwise_cons.1 hsrt).1 e he))
  rw [hd] at r
  exact ⟨c.cell h.c1 hk1, c.cell h.c2 hk2, r, hT _ _ _ h.t c, h.chg.trans c (fun _ _ h => .inl h)⟩
/-- A round. -/
theorem LeavAt.round (h : LeavAt ts te a m ao b1 b2 now N T W pre rest w1) (hN : ∀ k, N k → ¬ Kag a m ao k ∧ k ≠ b1 ∧ k ≠ b2) (ht : T (pre.map En.id ++ [f.id]) w2) (c : Chg N w1 w2) : LeavAt ts te a m ao b1 b2 now N T W (pre ++ [f]) rest w2 :=
  ⟨c.cell h.c1 (fun hk => (hN _ hk).2.1 rfl), c.cell h.c2 (fun hk => (hN _ hk).2.2 rfl), h.agn.kept c (fun k hk hn => (hN k hn).1 hk), by simpa using ht, h.chg.trans c (fun _ _ h => .inr h)⟩
end
end Go.Proofs.Ytjmiifgofedcnaa
