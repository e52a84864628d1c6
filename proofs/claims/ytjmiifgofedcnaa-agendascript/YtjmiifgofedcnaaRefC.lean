/-
  The reference's Due, All, Clone.
-/
import Derived.Test.YtjmiifgofedcnaaRefB
import Derived.Deep.RegionLaw
namespace Go.Proofs.Ytjmiifgofedcnaa
open Go.RowKit Ag

theorem RefAt.tail {w : World} {g o cap : Nat} {f : En} {L : List En} {cur : Array Value} (r : RefAt w g o cap (f :: L) cur) : RefAt w g (o + 3) (cap - 1) L cur :=
  ⟨r.blk, by have := r.le; simp at this; omega, fun k e hk d hd => by
    have := r.at_ (k + 1) e (by simpa using hk) d hd
    rwa [show o + (k + 1) * 3 + d = o + 3 + k * 3 + d by omega] at this⟩
theorem RefAt.none {w : World} {g o cap cap' : Nat} {L : List En} {cur : Array Value} (r : RefAt w g o cap L cur) : RefAt w g o cap' [] cur :=
  ⟨r.blk, Nat.zero_le _, fun k e hk => by simp at hk⟩
/-- What an append to a list of numbers leaves. -/
theorem rdue_grown {w wr w2 : World} {d n : Nat} {R : List En} {ao : Option Addr} {cap : Nat} {p : Value} {xs : List Value} {ob : Obj} (r : Ref wr d R ao cap) (hrow : wr.ownsRow w.heap.size 3 1 p n xs) (hg : (wr.alloc ob).grownBy w2 p.ownBlock) (hd : d < w.heap.size) :
    w2.heap[d]? = some (.cells #[.slice ao R.length cap] 71 (0, 0)) ∧ Chg (fun k => p.ownBlock = some k) wr w2 := by
  have c2 : Chg (fun k => p.ownBlock = some k) wr w2 := ((Chg.refl _ wr).alloc ob).trans (K' := fun k => p.ownBlock = some k) (Chg.of_gr hg (fun k e => .inl e)) (fun _ _ h => h)
  exact ⟨(c2.block d r.lt (fun h => by have := (hrow.lt d h).1; omega)).trans r.blk, c2⟩
theorem rdue_step {w wr w2 : World} {d n n' : Nat} {R L : List En} {ao ao2 : Option Addr} {cap cap2 m : Nat} {p v' : Value} {xs xs' : List Value} {ob : Obj} (r : Ref wr d R ao cap) (hrow : wr.ownsRow w.heap.size 3 1 p n xs) (hr2 : w2.ownsRow w.heap.size 3 1 v' n' xs') (hg : (wr.alloc ob).grownBy w2 p.ownBlock) (hd : d < w.heap.size) (hc : Chg (fun j => j = d) w wr) (hl : RefRow wr ao2 cap2 L) (hm : L.length = m) :
    Rf (w2.setCell ⟨d, 0, none⟩ (.slice ao2 m cap2)) d L ∧ (w2.setCell ⟨d, 0, none⟩ (.slice ao2 m cap2)).ownsRow w.heap.size 3 1 v' n' xs' ∧ Chg (fun j => j = d) w (w2.setCell ⟨d, 0, none⟩ (.slice ao2 m cap2)) := by
  obtain ⟨hd2, c2⟩ := rdue_grown r hrow hg hd
  have row2 : RefRow w2 ao2 cap2 L := hl.kept c2 (fun k _ h => by
    obtain ⟨cs, hcs⟩ := row_block hrow h
    rw [tg_cells hcs]; decide)
  have c3 : Chg (fun j => j = d) w2 (w2.setCell ⟨d, 0, none⟩ (.slice ao2 m cap2)) := (Chg.refl _ w2).setCell _ _ (.inl rfl)
  refine ⟨⟨ao2, cap2, by rw [hm]; exact heap_setCell_same w2 d 0 _ 71 _ hd2, row2.kept c3 (fun k _ h => by subst h; rw [tg_cells hd2]; decide)⟩, row_kept hr2 (fun k hk => Below.heap_setCell _ _ _ _ ?_), (hc.trans c2 (fun i hi h => by have := (hrow.lt i h).1; omega)).trans c3 (fun _ _ h => h)⟩
  have := (hr2.lt k hk).1
  exact fun e => by simp at e; omega

set_option maxHeartbeats 2000000 in
theorem rdue_any {w : World} {d : Nat} {L : List En} (r : Rf w d L) (now : Int) (hlen : L.length * 40 ≤ 140737488355328) :
    Calls Try.prog 45 #[.pointer (some ⟨d, 0, none⟩), .int .i64 now] w fun e w' => ∃ v, e = .returned v ∧ w'.ownsRow w.heap.size 3 1 v (dueL now L).length (ints ((dueL now L).map En.id)) ∧ Rf w' d (restL now L) ∧ Chg (fun j => j = d) w w' := by
  have hd : d < w.heap.size := by obtain ⟨_, _, r⟩ := r; exact r.lt
  obtain ⟨i0, hi0, hz0, hz1, hz2⟩ := info_parts Try.inf3I
  have R0 : Hid _ := r
  clear r
  go_enter Try.func45, Try.ntmps45
  go_wp2
  go_loopg [5] L.length (fun gk p wr => ∃ pre rest, L = pre ++ rest ∧ pre.length + gk = L.length ∧ (∀ e ∈ pre, e.tm ≤ now) ∧ Rf wr d rest ∧ wr.ownsRow w.heap.size 3 1 p pre.length (ints (pre.map En.id)) ∧ Chg (fun j => j = d) w wr)
  case atStart => exact ⟨[], L, rfl, by simp, by simp, R0.out, World.ownsRow_nil _ _ _ _, Chg.refl _ _⟩
  case round =>
    obtain ⟨pre, rest, hL, hgk, hpre, ⟨ao, cap, r⟩, hown, hc⟩ := hrel
    have hcs := hc.size
    have c0 := r.c0
    cases rest with
    | nil =>
      rw [List.length_nil] at c0
      have R : Hid _ := r
      clear r
      go_wp2
      go_ret
      obtain ⟨e1, e2⟩ := due_split hL hpre (fun g l h => by cases h)
      rw [e1, e2]
      exact ⟨_, rfl, hown, ⟨_, _, R.out⟩, hc⟩
    | cons f l =>
      obtain ⟨n, hn⟩ : ∃ n, l.length = n := ⟨_, rfl⟩
      have hLn : L.length = pre.length + (n + 1) := by rw [hL, List.length_append, List.length_cons, hn]
      rw [List.length_cons, hn] at c0
      rcases r.row with ⟨_, h0, _⟩ | ⟨g, o, cur, rfl, hr⟩
      · cases h0
      obtain ⟨x0, x1, _⟩ := hr.cell (k := 0) (e := f) rfl
      rw [Nat.zero_mul, Nat.add_zero] at x0 x1
      have hle := hr.le
      rw [List.length_cons, hn] at hle
      have R : Hid _ := r
      have HR : Hid _ := hr
      clear r hr
      by_cases hnow : f.tm ≤ now
      · by_cases hcap : cap = 1
        · subst hcap
          have hn0 : n = 0 := by omega
          subst hn0
          go_wp2_with (first
            | (at_builtin; refine wpList_append_own _ rfl (.tmp 23) (.tmp 31) 38 rfl w.heap.size 3 i0 (.int .i64 0) 1 8 Try.underlying38 hi0 hz0 hz1 hz2 rfl (by decide) _ _ _ rfl (hown.alloc _) ⟨wr.heap.size, 0, none⟩ 1 1 [.int .i64 f.id] rfl rfl (cell_one_new _ _ _) (by intro u hu; simp at hu; subst hu; rfl) (Nat.le_trans (m := 35184372088832) (by omega) (by decide)) (by omega) (by simp; omega) ?_; intro v2 w2 hown2 hg2 hnil2; obtain ⟨hd2, _⟩ := rdue_grown R.out hown hg2 hd; have d0 : w2.cell? ⟨d, 0, none⟩ = some (.slice (some ⟨g, o, none⟩) (0 + 1) 1) := cells_at hd2 (by rw [List.length_cons, hn]; rfl); have d1 : w2.frozen? ⟨d, 0, none⟩ = false := frozen_at hd2))
          go_roundg (L.length - (pre.length + 1))
          case measure => omega
          case rel =>
            obtain ⟨q1, q2, q3⟩ := rdue_step (m := 0) R.out hown hown2 hg2 hd hc (L := l) (.inr ⟨g, o, cur, rfl, by rw [List.length_eq_zero_iff.1 hn]; exact HR.out.none (cap' := 0)⟩) hn
            exact ⟨pre ++ [f], l, by simp [hL], by simp; omega, fun e he => (by
              simp at he
              rcases he with he | rfl
              · exact hpre e he
              · exact hnow), q1, by simpa [ints] using q2, q3⟩
        · have hcap' : 1 < cap := by omega
          go_wp2_with (first
            | (at_builtin; refine wpList_append_own _ rfl (.tmp 23) (.tmp 31) 38 rfl w.heap.size 3 i0 (.int .i64 0) 1 8 Try.underlying38 hi0 hz0 hz1 hz2 rfl (by decide) _ _ _ rfl (hown.alloc _) ⟨wr.heap.size, 0, none⟩ 1 1 [.int .i64 f.id] rfl rfl (cell_one_new _ _ _) (by intro u hu; simp at hu; subst hu; rfl) (Nat.le_trans (m := 35184372088832) (by omega) (by decide)) (by omega) (by simp; omega) ?_; intro v2 w2 hown2 hg2 hnil2; obtain ⟨hd2, _⟩ := rdue_grown R.out hown hg2 hd; have d0 : w2.cell? ⟨d, 0, none⟩ = some (.slice (some ⟨g, o, none⟩) (n + 1) cap) := cells_at hd2 (by rw [List.length_cons, hn]; rfl); have d1 : w2.frozen? ⟨d, 0, none⟩ = false := frozen_at hd2))
          go_roundg (L.length - (pre.length + 1))
          case measure => omega
          case rel =>
            obtain ⟨q1, q2, q3⟩ := rdue_step (m := n) R.out hown hown2 hg2 hd hc (L := l) (.inr ⟨g, o + 3, cur, rfl, HR.out.tail⟩) hn
            exact ⟨pre ++ [f], l, by simp [hL], by simp; omega, fun e he => (by
              simp at he
              rcases he with he | rfl
              · exact hpre e he
              · exact hnow), q1, by simpa [ints] using q2, q3⟩
      · go_wp2
        go_ret
        obtain ⟨e1, e2⟩ := due_split hL hpre (fun g l h => by cases h; omega)
        rw [← hL, e1, e2]
        exact ⟨_, rfl, hown, ⟨_, _, R.out⟩, hc⟩

theorem pair_step {wn w2 : World} {B n2 : Nat} {p q p' : Value} {ys : List Value} {ob : Obj} (h2 : wn.ownsRow B 3 1 q n2 ys) (hap : ∀ j, p.ownBlock = some j → q.ownBlock ≠ some j) (hg : (wn.alloc ob).grownBy w2 p.ownBlock) (hat : p'.ownBlock = p.ownBlock ∨ p'.ownBlock = some (wn.alloc ob).heap.size) :
    w2.ownsRow B 3 1 q n2 ys ∧ (∀ j, p'.ownBlock = some j → q.ownBlock ≠ some j) := by
  refine ⟨row_kept h2 (fun k hk => ?_), fun j hj hq => ?_⟩
  · have hlt := (h2.lt k hk).2
    exact (hg.block k (by simp; omega) (fun e => hap k e.symm hk)).trans (Below.heap_alloc _ _ _ hlt)
  · have hlt := (h2.lt j hq).2
    rcases hat with h | h
    · exact hap j (h ▸ hj) hq
    · rw [h] at hj
      simp at hj
      omega
theorem ids_step {L : List En} {k : Nat} {e : En} (he : L[k]? = some e) : ints (ids (L.take k)) ++ [.int .i64 e.id] = ints (ids (L.take (k + 1))) ∧ ints (tms (L.take k)) ++ [.int .i64 e.tm] = ints (tms (L.take (k + 1))) := by
  have : L.take (k + 1) = L.take k ++ [e] := by rw [List.take_add_one, he]; rfl
  rw [this]
  simp [ints, ids, tms]

set_option maxHeartbeats 2000000 in
set_option maxRecDepth 20000 in
theorem rall_any {w : World} {d : Nat} {L : List En} (r : Rf w d L) (hone : ∀ e ∈ L, e.x.oneCell' = true) (hlen : L.length * 40 ≤ 140737488355328) :
    Calls Try.prog 46 #[.pointer (some ⟨d, 0, none⟩)] w fun e w' => ∃ v1 v2, e = .returned (.tuple #[v1, v2]) ∧ w'.ownsRow w.heap.size 3 1 v1 L.length (ints (ids L)) ∧ w'.ownsRow w.heap.size 3 1 v2 L.length (ints (tms L)) ∧ Below w.heap.size w w' := by
  obtain ⟨ao, cap, r⟩ := r
  have c0 := r.c0
  obtain ⟨i0, hi0, hz0, hz1, hz2⟩ := info_parts Try.inf3I
  obtain ⟨n, hn⟩ : ∃ n, L.length = n := ⟨_, rfl⟩
  have hrow := r.row
  rw [hn] at c0 hlen ⊢
  clear r
  go_enter Try.func46, Try.ntmps46
  go_wp2
  go_loopg [2, 3, 11] n (fun gk p q c wr => ∃ k : Nat, k + gk = n ∧ c = .int .i64 k ∧ wr.ownsRow w.heap.size 3 1 p k (ints (ids (L.take k))) ∧ wr.ownsRow w.heap.size 3 1 q k (ints (tms (L.take k))) ∧ (∀ j, p.ownBlock = some j → q.ownBlock ≠ some j) ∧ Below w.heap.size w wr)
  case atStart => exact ⟨0, by omega, rfl, World.ownsRow_nil _ _ _ _, World.ownsRow_nil _ _ _ _, fun j hj => by simp [Value.ownBlock] at hj, Below.refl _ _⟩
  case round =>
    obtain ⟨k, hk, rfl, ho1, ho2, hap, hb⟩ := hrel
    by_cases hlt : k < n
    · obtain ⟨e, he⟩ : ∃ e, L[k]? = some e := ⟨_, List.getElem?_eq_getElem (by omega)⟩
      rcases hrow.kept (Chg.of_below hb (fun _ => False)) (fun _ _ h => h.elim) with ⟨_, h0, _⟩ | ⟨g, o, cur, rfl, hr⟩
      · subst h0; simp at hn; omega
      obtain ⟨x0, x1, x2⟩ := hr.cell he
      have sx := fun (p : Addr) (W : World) => run_store Try.prog W p _ .plain (hone e (List.mem_of_getElem? he))
      obtain ⟨wn, hwn⟩ : ∃ wn, wr.alloc (.cells #[.int .i64 e.id, .int .i64 e.tm, e.x] 102) = wn := ⟨_, rfl⟩
      have y0 : wn.cell? ⟨wr.heap.size, 0, none⟩ = some (.int .i64 e.id) := by rw [← hwn]; exact cell_nw wr rfl
      have y1 : wn.cell? ⟨wr.heap.size, 1, none⟩ = some (.int .i64 e.tm) := by rw [← hwn]; exact cell_nw wr rfl
      have bn : Below w.heap.size w wn := by rw [← hwn]; exact hb.alloc hb.size _
      have n1 : wn.ownsRow w.heap.size 3 1 u2 k (ints (ids (L.take k))) := by rw [← hwn]; exact ho1.alloc _
      have n2 : wn.ownsRow w.heap.size 3 1 u3 k (ints (tms (L.take k))) := by rw [← hwn]; exact ho2.alloc _
      have hsn : Hid (wn.heap.size = wr.heap.size + 1) := (by show wn.heap.size = _; rw [← hwn]; simp)
      have hbs := hb.size
      have hp0 : ∀ j, u2.ownBlock = some j → j < wr.heap.size := fun j hj => (ho1.lt j hj).2
      have BN : Hid _ := bn
      clear hr bn ho1 ho2
      go_wp2_with (first
        | (at_builtin; refine wpList_append_own_at _ rfl (.tmp 15) (.tmp 18) 38 rfl w.heap.size 3 i0 (.int .i64 0) 1 8 Try.underlying38 hi0 hz0 hz1 hz2 rfl (by decide) _ _ _ rfl (n1.alloc _) ⟨wn.heap.size, 0, none⟩ 1 1 [.int .i64 e.id] rfl rfl (cell_one_new _ _ _) (by intro u hu; simp at hu; subst hu; rfl) (Nat.le_trans (m := 35184372088832) (by omega) (by decide)) (by omega) (by have := hsn.out; simp; omega) ?_; intro v1 w2 m1 hg1 _ hat1; obtain ⟨m2, hap1⟩ := pair_step n2 hap hg1 hat1; have z1 : w2.cell? ⟨wr.heap.size, 1, none⟩ = some (.int .i64 e.tm) := (Chg.of_gr (K := fun j => u2.ownBlock = some j) hg1 (fun j e => .inl e)).cell (cell_al y1 _) (fun h => absurd (hp0 _ h) (by simp)); have b2 : Below w.heap.size w w2 := (BN.out.alloc BN.out.size _).grown hg1 (by have := hsn.out; simp; omega) (fun j e => (n1.lt j e).1))
        | (at_builtin; refine wpList_append_own_at _ rfl (.tmp 20) (.tmp 23) 38 rfl w.heap.size 3 i0 (.int .i64 0) 1 8 Try.underlying38 hi0 hz0 hz1 hz2 rfl (by decide) _ _ _ rfl (m2.alloc _) ⟨w2.heap.size, 0, none⟩ 1 1 [.int .i64 e.tm] rfl rfl (cell_one_new _ _ _) (by intro u hu; simp at hu; subst hu; rfl) (Nat.le_trans (m := 35184372088832) (by omega) (by decide)) (by omega) (by have := b2.size; simp; omega) ?_; intro v2 w3 l2 hg2 _ hat2; obtain ⟨l1, hap2⟩ := pair_step m1 (fun j h h' => hap1 j h' h) hg2 hat2; have b3 : Below w.heap.size w w3 := (b2.alloc b2.size _).grown hg2 (by have := b2.size; simp; omega) (fun j e => (m2.lt j e).1)))
      go_roundg (n - (k + 1))
      case measure => omega
      case rel => exact ⟨k + 1, by omega, rfl, (ids_step he).1 ▸ l1, (ids_step he).2 ▸ l2, fun j h h' => hap2 j h' h, b3⟩
    · have hkn : k = n := by omega
      subst hkn
      rw [List.take_of_length_le (by omega)] at ho1 ho2
      go_wp2
      refine bodyPost_ret (v := .tuple #[u2, u3]) (by simp [results, Try.results46, go_sem]) rfl ?_
      exact ⟨_, _, rfl, ho1, ho2, hb⟩

/-- 'append(nil, src...)' of things, at a step of a region that draws. -/
theorem step_appT {P : Program} {ops : Array Oper} {o : Oper} {a : Act} {w : World} {K : Act → World → Prop} {Q : Exit → Act → World → Prop} {E : Prop}
    (hgd : o.guard = none) (s x : Operand) (t : TypeId) (ho : o.op = .call { callee := .builtin .append, args := #[s, x], argTypes := #[t, t] })
    (e : TypeId) (i : TypeInfo) (z : Value) (bytes : Nat) (h1 : P.underlying t = some (.slice e)) (h2 : P.info? e = some i) (h3 : i.zero = some z) (h4 : i.size = 3) (h5 : i.bytes = bytes) (h6 : z.cells.size = 3)
    (hs : a.eval s = .slice none 0 0)
    (sa : Option Addr) (m c : Nat) (news : List Value) (hx : a.eval x = .slice sa m c) (hl : news.length = m * 3) (hsa : sa = none → m = 0 ∧ c = 0) (hnews : ∀ ad, sa = some ad → ∀ j u, news[j]? = some u → w.cell? (ad.add j) = some u) (hone : ∀ u ∈ news, u.oneCell' = true)
    (b1 : 0 + m ≤ maxLen) (b2 : (0 + m) * bytes ≤ 140737488355328)
    (hK : ∀ ao' cap' w', w'.ownsRow w.heap.size e 3 (.slice ao' m cap') m news → w.grownBy w' none → K (a.put o.dst (.slice ao' m cap')) w') :
    if Region.wanted o (yielded ops a.tmps) = true then Oper.wp P o a w K Q else E := by
  have hw : Region.wanted o (yielded ops a.tmps) = true := by simp [Region.wanted, hgd]
  rw [if_pos hw]
  cases sa with
  | none =>
    obtain ⟨rfl, rfl⟩ := hsa rfl
    have hn : news = [] := List.eq_nil_of_length_eq_zero hl
    subst hn
    have hrun := run_append_owned_none (P := P) (w := w) w.heap.size t o.type e i 3 h1 h2 (.slice none 0 0) 0 [] (World.ownsRow_nil _ _ _ _)
    unfold Oper.wp
    simp [execOp, ho, resolve, invoke, builtin, hs, hx, hrun, Result.andThen]
    exact hK none 0 w (World.ownsRow_nil _ _ _ _) ⟨rfl, rfl, rfl, Nat.le_refl _, fun _ _ _ => rfl⟩
  | some ad =>
    obtain ⟨v', w', hrun, r1, r2, _⟩ := run_append_own (P := P) w w.heap.size t o.type e i z 3 bytes h1 h2 h3 h4 h5 h6 (by decide) (.slice none 0 0) 0 [] (World.ownsRow_nil w _ e 3) ad m c news hl (hnews ad rfl) hone b1 b2 (Nat.le_refl _)
    rw [Nat.zero_add, List.nil_append] at r1
    unfold Oper.wp
    simp [execOp, ho, resolve, invoke, builtin, hs, hx, hrun, Result.andThen]
    rcases owns_shape r1 with ⟨rfl, rfl⟩ | ⟨g, cap, rfl, _⟩
    · exact hK none 0 w' r1 r2
    · exact hK _ cap w' r1 r2

set_option maxHeartbeats 1000000 in
theorem rclone_any {w : World} {d : Nat} {L : List En} (r : Rf w d L) (hone : ∀ e ∈ L, e.x.oneCell' = true) (hlen : L.length * 40 ≤ 140737488355328) :
    Calls Try.prog 13 #[.pointer (some ⟨d, 0, none⟩)] w fun e w' => ∃ c, e = .returned (.pointer (some ⟨c, 0, none⟩)) ∧ w.heap.size ≤ c ∧ Rf w' c L ∧ Below w.heap.size w w' := by
  obtain ⟨ao, cap, r⟩ := r
  obtain ⟨i0, hi0, hz0, hz1, hz2⟩ := info_parts Try.inf102
  obtain ⟨n, hn⟩ : ∃ n, L.length = n := ⟨_, rfl⟩
  have c0 := r.c0
  rw [hn] at c0 hlen
  have hd := r.lt
  have hl : (flatL L).length = n * 3 := by rw [flatL_len, hn]
  have ho : ∀ u ∈ flatL L, u.oneCell' = true := flatL_one hone
  have hsa : ao = none → n = 0 ∧ cap = 0 := by
    rcases r.row with ⟨_, h0, h1⟩ | ⟨g, o, cur, rfl, hr⟩
    · exact fun _ => ⟨by rw [← hn, h0]; rfl, h1⟩
    · intro h; cases h
  have hsrc : ∀ ad, ao = some ad → ∀ j u, (flatL L)[j]? = some u → w.cell? (ad.add j) = some u := by
    intro ad had
    rcases r.row with ⟨rfl, _⟩ | ⟨g, o, cur, rfl, hr⟩
    · cases had
    · cases had
      have := hr.src 0 n (by omega)
      rwa [Nat.zero_mul, Nat.add_zero, List.drop_zero, List.take_of_length_le (by omega)] at this
  clear r
  go_enter Try.func13, Try.ntmps13
  go_wp2_with fail
  obtain ⟨wn, hwn⟩ : ∃ wn, w.alloc (.cells #[.slice none 0 0] 71) = wn := ⟨_, rfl⟩
  have hb0 : wn.heap[w.heap.size]? = some (.cells #[.slice none 0 0] 71 (0, 0)) := by rw [← hwn]; exact heap_alloc_new _ _
  have bn : Below w.heap.size w wn := by rw [← hwn]; exact (Below.refl _ w).alloc (Nat.le_refl _) _
  have y0 : wn.cell? ⟨w.heap.size, 0, none⟩ = some (.slice none 0 0) := cells_at hb0 rfl
  have y1 : wn.cell? ⟨d, 0, none⟩ = some (.slice ao n cap) := by rw [← hwn]; exact cell_al c0 _
  have hsn : ∀ ad, ao = some ad → ∀ j u, (flatL L)[j]? = some u → wn.cell? (ad.add j) = some u := fun ad had j u hu => by rw [← hwn]; exact cell_al (hsrc ad had j u hu) _
  have HB : Hid _ := hb0
  have BN : Hid _ := bn
  rw [hwn]
  clear hb0 bn hwn
  go_region_law (refine step_appT rfl (.tmp 10) (.tmp 14) 69 rfl 102 i0 _ 24 Try.underlying69 hi0 hz0 hz1 hz2 rfl (by simp [Act.eval]) ao n cap (flatL L) (by simp [Act.eval]) hl hsa hsn ho (Nat.le_trans (m := 35184372088832) (by omega) (by decide)) (by omega) ?_; intro ao2 cap2 w2 hr2 hg2; have z0 : w2.heap[w.heap.size]? = some (.cells #[.slice none 0 0] 71 (0, 0)) := (hg2.block _ (Array.getElem?_eq_some_iff.1 HB.out).1 (by simp)).trans HB.out; have z1 : w2.cell? ⟨w.heap.size, 0, none⟩ = some (.slice none 0 0) := cells_at z0 rfl; have z2 : w2.frozen? ⟨w.heap.size, 0, none⟩ = false := frozen_at z0)
  all_goals
    go_wp2
    go_ret
    obtain ⟨q1, q2⟩ := ref_set (w := wn) (m := n) z0 (RefRow.of_owns (owns_low hr2) hn) hn (Chg.of_below (((Below.refl _ wn).drew).grown hg2 (Nat.le_refl _) (fun k e => by cases e)) _)
    exact ⟨_, rfl, Nat.le_refl _, q1, q2.below BN.out BN.out.size (fun i h => Nat.le_of_eq h.symm)⟩
end Go.Proofs.Ytjmiifgofedcnaa
