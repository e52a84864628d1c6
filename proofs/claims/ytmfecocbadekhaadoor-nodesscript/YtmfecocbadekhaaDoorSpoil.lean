/-
  spoil, walked.
-/
import Derived.Test.YtmfecocbadekhaaDoorMark
namespace Go.Proofs.YtmfecocbadekhaaDoor
open Go.RowKit Nd

/-- While marks are made: the same blocks, the same lengths. -/
structure MarkRel (w : World) (H : Nat) (ao aw : Option Addr) (co cw n : Nat) (fs : List Nat) (es : List Ent) (wr : World) : Prop where
  nums : Nums wr H ao aw co cw es
  len : es.length = n
  foot : foot ao aw es = fs
  full : Full es
  chg : Chg (fun j => j ∈ fs) w wr

theorem full_mark {es : List Ent} {i k : Nat} {y : Int} (h : Full es) (hi : i < es.length) : Full (es.set i (es[i].mark k y)) := by
  intro e he
  obtain ⟨j, hj, rfl⟩ := List.getElem_of_mem he
  simp only [List.getElem_set]
  split
  · simpa [Ent.mark] using h es[i] (List.getElem_mem hi)
  · exact h _ (List.getElem_mem (by simpa using hj))
theorem MarkRel.step {w wr : World} {H : Nat} {ao aw : Option Addr} {co cw n : Nat} {fs : List Nat} {es : List Ent} (h : MarkRel w H ao aw co cw n fs es wr) (i k : Nat) (y : Int) (hi : i < es.length) (ga : Nat) (hm : Marked wr H ao aw co cw es i k y ga hi) :
    MarkRel w H ao aw co cw n fs (es.set i (es[i].mark k y)) ((wr.setCell ⟨ga, k, none⟩ (.int .i64 y)).setCell ⟨es[i].gw, k, none⟩ (.int .i64 y)) :=
  ⟨hm.nums, by simpa using h.len, hm.same.trans h.foot, full_mark h.full hi, h.chg.trans hm.chg (fun j _ hj => by rw [h.foot] at hj; exact hj)⟩

/-- While the lists grow: the first n entries as they were, as many more as there were rounds. -/
structure GrowRel (w : World) (H n : Nat) (fs : List Nat) (es : List Ent) (ao aw : Option Addr) (co cw i : Nat) (news : List Ent) (wr : World) : Prop where
  nums : Nums wr H ao aw co cw (es ++ news)
  many : news.length = i
  feet : ∀ b ∈ foot ao aw (es ++ news), b ∈ fs ∨ w.heap.size ≤ b
  chg : Chg (fun j => j = H ∨ j ∈ fs) w wr
  len : es.length = n
  full : Full es

/-- While one list and what it must read as grow, by k numbers so far. -/
structure InnerRel (ws : World) (ea : Option Addr) (m : Nat) (xs : List Int) (y : Int) (k : Nat) (la : Option Addr) (lc gm mc : Nat) (wi : World) : Prop where
  below : Below ws.heap.size ws wi
  hgm : ws.heap.size ≤ gm
  mrow : wi.ownsRow 0 3 1 (.slice (some ⟨gm, 0, none⟩) (m + k) mc) (m + k) (ints (xs ++ List.replicate k y))
  lrow : wi.ownsRow 0 3 1 (.slice la (m + k) lc) (m + k) (ints (xs ++ List.replicate k y))
  lat : (k = 0 ∧ la = ea ∧ lc = m) ∨ (k ≠ 0 ∧ ∃ gl, la = some ⟨gl, 0, none⟩ ∧ ws.heap.size ≤ gl ∧ gl ≠ gm)
/-- The list has its number more, what it must read as has not. -/
structure HalfRel (ws : World) (m : Nat) (xs : List Int) (y : Int) (k : Nat) (gl lc gm mc : Nat) (wi : World) : Prop where
  below : Below ws.heap.size ws wi
  hgm : ws.heap.size ≤ gm
  hgl : ws.heap.size ≤ gl
  ne : gl ≠ gm
  mrow : wi.ownsRow 0 3 1 (.slice (some ⟨gm, 0, none⟩) (m + k) mc) (m + k) (ints (xs ++ List.replicate k y))
  lrow : wi.ownsRow 0 3 1 (.slice (some ⟨gl, 0, none⟩) (m + k + 1) lc) (m + k + 1) (ints (xs ++ List.replicate (k + 1) y))
theorem ints_more (xs : List Int) (k : Nat) (y : Int) : ints (xs ++ List.replicate k y) ++ [.int .i64 y] = ints (xs ++ List.replicate (k + 1) y) := by
  rw [List.replicate_succ']
  simp [ints]
theorem grown_shape {w : World} {base e n : Nat} {v : Value} {xs : List Value} (h : w.ownsRow base e 1 v n xs) (hn : 0 < n) : ∃ g cap, v = .slice (some ⟨g, 0, none⟩) n cap ∧ base ≤ g := by
  rcases owns_shape h with ⟨_, h0⟩ | ⟨g, cap, rfl, hg, _⟩
  · omega
  · exact ⟨g, cap, rfl, hg⟩
section
variable {ws wi w4 : World} {ea la la' : Option Addr} {m k lc lc' gm mc gl : Nat} {xs : List Int} {y : Int}
theorem InnerRel.half0 (h : InnerRel ws ea m xs y k la lc gm mc wi) (ho : w4.ownsRow (wi.alloc (.cells #[.int .i64 y] 3)).heap.size 3 1 (.slice (some ⟨gl, 0, none⟩) (m + k + 1) lc') (m + k + 1) (ints (xs ++ List.replicate k y) ++ [.int .i64 y])) (hg : (wi.alloc (.cells #[.int .i64 y] 3)).grownBy w4 none) (hgl : (wi.alloc (.cells #[.int .i64 y] 3)).heap.size ≤ gl) :
    HalfRel ws m xs y k gl lc' gm mc w4 := by
  rw [ints_more] at ho
  have hz := h.below.size
  have hgm := own_lt h.mrow
  simp at hgl
  exact ⟨(h.below.alloc hz _).grown hg (by simp; omega) (fun j hj => by cases hj), h.hgm, by omega, by omega, (h.mrow.alloc _).kept hg (by simp [Value.ownBlock]), owns_low ho⟩
theorem InnerRel.half (h : InnerRel ws ea m xs y k la lc gm mc wi) (hk : k ≠ 0) (ho : w4.ownsRow 0 3 1 (.slice la' (m + k + 1) lc') (m + k + 1) (ints (xs ++ List.replicate k y) ++ [.int .i64 y])) (hg : (wi.alloc (.cells #[.int .i64 y] 3)).grownBy w4 (la.map (·.block))) (hmv : Moved (wi.alloc (.cells #[.int .i64 y] 3)) la la') :
    ∃ gl, la' = some ⟨gl, 0, none⟩ ∧ HalfRel ws m xs y k gl lc' gm mc w4 := by
  rw [ints_more] at ho
  have hz := h.below.size
  have hgm := own_lt h.mrow
  rcases h.lat with ⟨h0, _⟩ | ⟨_, g0, rfl, hg0, hne⟩
  · exact absurd h0 hk
  · have hb4 : Below ws.heap.size ws w4 := (h.below.alloc hz _).grown hg (by simp; omega) (fun j hj => by simp at hj; omega)
    have hm4 : w4.ownsRow 0 3 1 (.slice (some ⟨gm, 0, none⟩) (m + k) mc) (m + k) (ints (xs ++ List.replicate k y)) := (h.mrow.alloc _).kept hg (by simp [Value.ownBlock]; omega)
    rcases hmv with rfl | ⟨g, hgg, rfl⟩
    · exact ⟨g0, rfl, hb4, h.hgm, hg0, hne, hm4, ho⟩
    · simp at hgg
      exact ⟨g, rfl, hb4, h.hgm, by omega, by omega, hm4, ho⟩
theorem HalfRel.next {ma' : Option Addr} {mc' : Nat} {w5 : World} (h : HalfRel ws m xs y k gl lc gm mc w4) (ho : w5.ownsRow 0 3 1 (.slice ma' (m + k + 1) mc') (m + k + 1) (ints (xs ++ List.replicate k y) ++ [.int .i64 y])) (hg : (w4.alloc (.cells #[.int .i64 y] 3)).grownBy w5 (some gm)) (hmv : Moved (w4.alloc (.cells #[.int .i64 y] 3)) (some ⟨gm, 0, none⟩) ma') :
    ∃ gm', ma' = some ⟨gm', 0, none⟩ ∧ InnerRel ws ea m xs y (k + 1) (some ⟨gl, 0, none⟩) lc gm' mc' w5 := by
  rw [ints_more] at ho
  have hz := h.below.size
  have hgl := own_lt h.lrow
  have hgm := h.hgm
  have hb5 : Below ws.heap.size ws w5 := (h.below.alloc hz _).grown hg (by simp; omega) (fun j hj => by simp at hj; omega)
  have hl5 : w5.ownsRow 0 3 1 (.slice (some ⟨gl, 0, none⟩) (m + k + 1) lc) (m + k + 1) (ints (xs ++ List.replicate (k + 1) y)) := (h.lrow.alloc _).kept hg (by simp [Value.ownBlock]; exact h.ne)
  rcases hmv with rfl | ⟨g, hgg, rfl⟩
  · exact ⟨gm, rfl, hb5, h.hgm, ho, hl5, .inr ⟨by omega, gl, rfl, h.hgl, h.ne⟩⟩
  · simp at hgg
    exact ⟨g, rfl, hb5, by omega, ho, hl5, .inr ⟨by omega, gl, rfl, h.hgl, by omega⟩⟩
end

theorem GrowRel.next {w ws wi w5 : World} {H n j : Nat} {fs : List Nat} {es news : List Ent} {ao aw ao1 aw1 ea : Option Addr} {co cw co1 cw1 m lc gm mc gl : Nat} {xs : List Int} {y : Int}
    (hG : GrowRel w H n fs es ao aw co cw j news ws) (hI : InnerRel ws ea m xs y 12 (some ⟨gl, 0, none⟩) lc gm mc wi) (hgl : ws.heap.size ≤ gl) (hne : gl ≠ gm) (hxm : xs.length = m) (hm : m ≤ 900) (hnj : n + j < 1000)
    (hX : NumsX w5 H ao1 aw1 co1 cw1 ((es ++ news).map Ent.o ++ [.slice (some ⟨gl, 0, none⟩) (m + 12) lc]) ((es ++ news).map Ent.w ++ [.slice (some ⟨gm, 0, none⟩) (m + 12) mc]))
    (hC : Chg (fun i => i = H ∨ i ∈ ablk ao ∨ i ∈ ablk aw) wi w5) (hO : ∀ i ∈ ablk ao1, i ∈ ablk ao ∨ wi.heap.size ≤ i) (hW : ∀ i ∈ ablk aw1, i ∈ ablk aw ∨ wi.heap.size ≤ i) :
    ∃ e, GrowRel w H n fs es ao1 aw1 co1 cw1 (j + 1) (news ++ [e]) w5 := by
  have hN := hG.nums
  have hfl := hN.foot_lt
  have hHl := hN.lt
  have hz := hI.below.size
  have hgll := own_lt hI.lrow
  have hgml := own_lt hI.mrow
  have hlx : (xs ++ List.replicate 12 y).length = m + 12 := by simp [hxm]
  have inO : ∀ i, i ∈ ablk ao → i ∈ foot ao aw (es ++ news) := fun i hi => List.mem_append.2 (.inl hi)
  have inW : ∀ i, i ∈ ablk aw → i ∈ foot ao aw (es ++ news) := fun i hi => List.mem_append.2 (.inr (List.mem_append.2 (.inl hi)))
  have c : Chg (fun i => i = H ∨ i ∈ ablk ao ∨ i ∈ ablk aw) ws w5 := (Chg.of_below hI.below _).trans hC (fun _ _ h => h)
  have he : EntIn w5 ⟨some ⟨gl, 0, none⟩, lc, gm, mc, xs ++ List.replicate 12 y⟩ := by
    refine ⟨?_, ?_, by simp only [hlx]; omega⟩
    · simp only [hlx]
      refine hC.own hI.lrow (fun i hi hK => ?_)
      simp [ablk] at hi
      subst hi
      rcases hK with h1 | h1 | h1
      · omega
      · have := hfl _ (inO _ h1); omega
      · have := hfl _ (inW _ h1); omega
    · simp only [hlx]
      refine hC.own hI.mrow (fun i hi hK => ?_)
      simp [ablk] at hi
      subst hi
      have := hI.hgm
      rcases hK with h1 | h1 | h1
      · omega
      · have := hfl _ (inO _ h1); omega
      · have := hfl _ (inW _ h1); omega
  have hfewN : (es ++ news).length = n + j := by rw [List.length_append, hG.len, hG.many]
  obtain ⟨hNums, hfoot⟩ := Nums.more hN (e := ⟨some ⟨gl, 0, none⟩, lc, gm, mc, xs ++ List.replicate 12 y⟩) (by simpa only [Ent.o, Ent.w, hlx] using hX) (by omega) (m := wi.heap.size) c he hO hW hz
    (fun i hi => by
      simp [ablk] at hi
      subst hi
      exact ⟨⟨by omega, fun hh => by have := hfl _ hh; omega⟩, hgll⟩) (fun hi => by simp [ablk] at hi; exact hne hi.symm) hI.hgm hgml
  refine ⟨⟨some ⟨gl, 0, none⟩, lc, gm, mc, xs ++ List.replicate 12 y⟩, by rw [← List.append_assoc]; exact hNums, by simp [hG.many], ?_, ?_, hG.len, hG.full⟩
  · intro b hb
    rw [← List.append_assoc] at hb
    have hwz := hG.chg.size
    rcases hfoot b hb with h1 | h1 | h1
    · exact hG.feet b h1
    · simp [ablk] at h1
      exact .inr (by omega)
    · exact .inr (by omega)
  · refine hG.chg.trans c (fun i hi h => ?_)
    rcases h with h1 | h1 | h1
    · exact .inl h1
    · rcases hG.feet i (inO i h1) with h2 | h2
      · exact .inr h2
      · omega
    · rcases hG.feet i (inW i h1) with h2 | h2
      · exact .inr h2
      · omega

set_option maxHeartbeats 8000000 in
set_option maxRecDepth 20000 in
theorem spoil_any (H : Nat) (ao aw : Option Addr) (co cw : Nat) (es : List Ent) (w : World) (h : Nums w H ao aw co cw es) (hfew : es.length ≤ 400) (hfull : Full es) :
    Calls Tryd.prog 11 #[.pointer (some ⟨H, 0, none⟩)] w fun e w' => e = .returned (.bool true) ∧ Chg (fun i => i = H ∨ i ∈ foot ao aw es) w w' ∧ ∃ v0 v1, w'.heap[H]? = some (.cells #[v0, v1] 34 (0, 0)) := by
  obtain ⟨i3, hi3, hz30, hz31, hz32⟩ := info_parts Tryd.info3
  obtain ⟨i7, hi7, hz70, hz71, hz72⟩ := info_parts Tryd.info37
  obtain ⟨n, hn⟩ : ∃ n, es.length = n := ⟨_, rfl⟩
  obtain ⟨fs, hfs⟩ : ∃ fs, foot ao aw es = fs := ⟨_, rfl⟩
  have c0 := h.c0
  rw [hn] at c0 hfew
  have M0 : Hid (∀ q, MarkRel w H ao aw co cw n fs es (w.drewN q)) := fun q => ⟨h.chg (Chg.of_below (drew_below w q) (fun _ => False)) (fun h => h) (fun _ _ h => h), hn, hfs, hfull, Chg.of_below (drew_below w q) _⟩
  rw [hfs]
  clear hn hfs hfull
  go_enter Tryd.func11, Tryd.ntmps11
  go_wp2_with (go_at_call 10; refine (holds_any H ao aw co cw es _ h).mono ?_; rintro e w1 ⟨rfl, q, rfl⟩)
  have hM := M0.out q
  generalize w.drewN q = w1 at *
  go_loopg [4] n (fun gk c wr => ∃ i es', i + gk = n ∧ c = .int .i64 (i : Nat) ∧ MarkRel w H ao aw co cw n fs es' wr)
  case atStart => exact ⟨0, es, by omega, rfl, hM⟩
  case round =>
    clear hM c0 M0 h
    obtain ⟨i, es', hi, rfl, hM⟩ := hrel
    have c0 := hM.nums.c0
    have hlen := hM.len
    rw [hlen] at c0
    have HL : Hid (es'.length = n) := hlen
    clear hlen
    by_cases hin : i < n
    · have hd : decide ((i : Int) < (n : Int)) = true := by simp; omega
      have hie : i < es'.length := by rw [HL.out]; exact hin
      obtain ⟨m, hm⟩ : ∃ m, es'[i].xs.length = m := ⟨_, rfl⟩
      have hsm := (hM.nums.ent es'[i] (List.getElem_mem hie)).small
      rw [hm] at hsm
      have R0 : Hid (∃ e2 : List Ent, MarkRel w H ao aw co cw n fs e2 wr ∧ ∃ h2 : i < e2.length, e2[i].xs.length = m) := ⟨es', hM, hie, hm⟩
      clear hm
      go_wp2
      go_loopg [5] m (fun gj c wi => ∃ k : Nat, k + gj = m ∧ c = .int .i64 k ∧ ∃ e2 : List Ent, MarkRel w H ao aw co cw n fs e2 wi ∧ ∃ h2 : i < e2.length, e2[i].xs.length = m)
      case atStart => exact ⟨0, by omega, rfl, R0.out⟩
      case round =>
        clear hM c0 R0
        obtain ⟨k, hk, rfl, e2, hM2, h2, hm2⟩ := hrel
        have c0 := hM2.nums.c0
        rw [hM2.len] at c0
        obtain ⟨go, hgo, hco'⟩ := row_at hM2.nums.out i h2
        have hco := hco' e2[i].o (by simp [h2])
        clear hco'
        subst hgo
        by_cases hkm : k < m
        · obtain ⟨ga, hga, hMk⟩ := hM2.nums.mark i k (-1000 - (i : Int)) h2 (by omega)
          have hstep := hM2.step i k _ h2 ga hMk
          have hca := hMk.ca
          have hfa := hMk.fa
          have hk1 := hMk.k1
          obtain ⟨gw, hgw, _⟩ := row_at hM2.nums.want i h2
          have hkw := hMk.kw gw hgw
          have hcb := hMk.cb
          have hfb := hMk.fb
          rw [hM2.len, hgw] at hk1
          rw [hm2] at hkw
          unfold Ent.o at hco
          rw [hga, hm2] at hco
          have R1 : Hid (∃ e3 : List Ent, MarkRel w (H) (some ⟨go, 0, none⟩) aw co cw n fs e3 ((wr.setCell ⟨ga, k, none⟩ (.int .i64 (-1000 - (i : Int)))).setCell ⟨e2[i].gw, k, none⟩ (.int .i64 (-1000 - (i : Int)))) ∧ ∃ h3 : i < e3.length, e3[i].xs.length = m) :=
            ⟨_, hstep, by simpa using h2, by simp [Ent.mark, hm2]⟩
          clear hstep hMk hM2 hga hm2
          generalize hgg : e2[i].gw = gg at *
          go_wp2
          go_roundg (m - (k + 1))
          case measure => omega
          case rel => exact ⟨k + 1, by omega, by go_num, R1.out⟩
        · have e : k = m := by omega
          subst e
          unfold Ent.o at hco
          rw [hm2] at hco
          have R1 : Hid (MarkRel w H (some ⟨go, 0, none⟩) aw co cw n fs e2 wr) := hM2
          clear hM2 hm2
          go_wp2
          go_roundg (n - (i + 1))
          case measure => omega
          case rel => exact ⟨i + 1, e2, by omega, by go_num, R1.out⟩
    · have e : i = n := by omega
      subst e
      have hNs := hM.nums
      have G0 : Hid (∀ q, GrowRel w H i fs es' ao aw co cw 0 [] (wr.drewN q)) := fun q => by
        refine ⟨?_, rfl, fun b hb => .inl ?_, ?_, hM.len, hM.full⟩
        · rw [List.append_nil]
          exact hNs.chg (Chg.of_below (drew_below wr q) (fun _ => False)) (fun h => h) (fun _ _ h => h)
        · rw [List.append_nil, hM.foot] at hb; exact hb
        · exact (hM.chg.mono (fun j _ hj => .inr hj)).trans (Chg.of_below (drew_below wr q) (fun _ => False)) (fun _ _ h => h.elim)
      clear hM
      go_wp2_with (go_at_call 10; refine (holds_any H ao aw co cw es' _ hNs).mono ?_; rintro e w2 ⟨rfl, q2, rfl⟩)
      have hG := G0.out q2
      clear G0 hNs c0
      generalize wr.drewN q2 = w2 at *
      go_loopg [6] i (fun gk c wr => ∃ j ao' aw' co' cw' news, j + gk = i ∧ c = .int .i64 (j : Nat) ∧ GrowRel w H i fs es' ao' aw' co' cw' j news wr)
      case atStart => exact ⟨0, ao, aw, co, cw, [], by omega, rfl, hG⟩
      case round =>
        clear hG
        obtain ⟨j, ao1, aw1, co1, cw1, news, hj, rfl, hG⟩ := hrel
        have hN := hG.nums
        have hlen : (es' ++ news).length = i + j := by rw [List.length_append, hG.len, hG.many]
        by_cases hji : j < i
        · have hje : j < es'.length := by rw [hG.len]; exact hji
          have hjn : j < (es' ++ news).length := by omega
          have hget : (es' ++ news)[j] = es'[j] := List.getElem_append_left hje
          have hE := hN.ent (es' ++ news)[j] (List.getElem_mem hjn)
          obtain ⟨go, hgo, hco'⟩ := row_at hN.out j hjn
          obtain ⟨gw, hgw, hcw'⟩ := row_at hN.want j hjn
          have hco := hco' (es' ++ news)[j].o (by rw [List.getElem?_map, List.getElem?_eq_getElem hjn]; rfl)
          have hcw := hcw' (es' ++ news)[j].w (by rw [List.getElem?_map, List.getElem?_eq_getElem hjn]; rfl)
          have hfe : (es' ++ news)[j].co = (es' ++ news)[j].xs.length := by rw [hget]; exact (hG.full _ (List.getElem_mem hje)).1
          have hsm : (es' ++ news)[j].xs.length ≤ 900 := by rw [hget]; exact (hG.full _ (List.getElem_mem hje)).2
          have hblk : ∀ b ∈ (es' ++ news)[j].blk, b < wr.heap.size := hE.lt
          clear hco' hcw' hget
          generalize hent : (es' ++ news)[j] = e at *
          clear hent
          subst hgo
          subst hgw
          have c0 := hN.c0
          have c1 := hN.c1
          rw [hlen] at c0 c1
          unfold Ent.o at hco
          unfold Ent.w at hcw
          rw [hfe] at hco
          have hout := hE.out
          rw [hfe] at hout
          obtain ⟨m, hm⟩ : ∃ m, e.xs.length = m := ⟨_, rfl⟩
          have HM : Hid (e.xs.length = m) := hm
          have hwant := hE.want
          rw [hm] at hco hcw hout hsm hwant
          have hil : (ints e.xs).length = m := by rw [ints_len, hm]
          clear hm hfe
          have hr0 := empty_row wr 0 (Nat.zero_le _)
          have hwa := hwant.alloc (.cells #[] 3)
          have b1 := Below.alloc1 wr (.cells #[] 3)
          have c1a := keepB b1 hN.lt c1
          have hcwa := keepB b1 (own_lt hN.want) hcw
          go_upto_region 20 with (first | (at_builtin; refine wpList_app _ rfl (.tmp 73) (.tmp 80) 37 rfl 3 i3 (.int .i64 0) 8 Tryd.underlying37 hi3 hz30 hz31 hz32 rfl (some ⟨wr.heap.size, 0, none⟩) 0 0 [] rfl hr0 ⟨e.gw, 0, none⟩ m e.cw (ints e.xs) rfl hil (own_src hwa _ rfl) (ints_one _) (by unfold maxLen; omega) (by omega) ?_; intro ma mc w3 hm3 hg3 hmv3))
          rw [Nat.zero_add, List.nil_append] at hm3
          have hb3 : Below wr.heap.size wr w3 := ((Below.refl _ _).alloc (Nat.le_refl _) _).grown hg3 (by simp) (fun k hk => by simp at hk; omega)
          obtain ⟨gm, hgm, hgm1⟩ : ∃ gm, ma = some ⟨gm, 0, none⟩ ∧ wr.heap.size ≤ gm := by
            rcases hmv3 with e | ⟨g, hg, e⟩
            · exact ⟨_, e, Nat.le_refl _⟩
            · simp at hg
              exact ⟨g, e, by omega⟩
          subst hgm
          have I0 : Hid (InnerRel wr e.ao m e.xs (-9000000 - (j : Int)) 0 e.ao m gm mc w3) := ⟨hb3, hgm1, by simpa using hm3, by simpa using own_below hout hb3, .inl ⟨rfl, rfl, rfl⟩⟩
          clear hm3 hg3 hmv3 hr0 hwa b1 c1a hcwa hcw hco
          go_wp2
          go_loopg [7, 8, 9] 12 (fun gj l mm c wi => ∃ k la lc gm mc, k + gj = 12 ∧ c = .int .i64 (k : Nat) ∧ l = .slice la (m + k) lc ∧ mm = .slice (some ⟨gm, 0, none⟩) (m + k) mc ∧ InnerRel wr e.ao m e.xs (-9000000 - (j : Int)) k la lc gm mc wi)
          case atStart => exact ⟨0, e.ao, m, gm, mc, by omega, rfl, rfl, rfl, I0.out⟩
          case round =>
            clear I0 hb3
            obtain ⟨k, la, lc, gm, mc, hk, rfl, rfl, rfl, hI⟩ := hrel
            by_cases hk12 : k < 12
            · have hlr := hI.lrow
              have hmr := hI.mrow
              by_cases hk0 : k = 0
              · rcases hI.lat with ⟨_, _, hlc⟩ | ⟨hx, _⟩
                · subst hk0
                  subst hlc
                  have hla := hlr.alloc (.cells #[.int .i64 (-9000000 - (j : Int))] 3)
                  go_upto_region 24 with (first | (at_builtin; refine wpList_append_grows _ rfl (.tmp 86) (.tmp 89) 37 rfl 3 i3 (.int .i64 0) 1 8 Tryd.underlying37 hi3 hz30 hz31 hz32 rfl (by decide) la (lc + 0) lc (ints (e.xs ++ List.replicate 0 (-9000000 - (j : Int)))) rfl (own_none hla) hla.1 (own_src hla) ⟨_, 0, none⟩ 1 1 [.int .i64 (-9000000 - (j : Int))] rfl rfl (cell_one_new _ _ _) (by intro u hu; simp at hu; subst hu; rfl) (by omega) (by unfold maxLen; omega) (by omega) ?_; intro v4 w4 ho4 hg4; obtain ⟨gl, lc1, rfl, hgl⟩ := grown_shape ho4 (by omega)))
                  have hH := hI.half0 ho4 hg4 hgl
                  clear hI hlr hmr hla ho4 hg4 hgl
                  have hmr := hH.mrow
                  go_wp2_with (first | (at_builtin; refine wpList_app _ rfl (.tmp 91) (.tmp 94) 37 rfl 3 i3 (.int .i64 0) 8 Tryd.underlying37 hi3 hz30 hz31 hz32 rfl (some ⟨gm, 0, none⟩) (lc + 0) mc _ rfl (hmr.alloc _) ⟨_, 0, none⟩ 1 1 [.int .i64 (-9000000 - (j : Int))] rfl rfl (cell_one_new _ _ _) (by intro u hu; simp at hu; subst hu; rfl) (by unfold maxLen; omega) (by omega) ?_; intro ma5 mc5 w5 ho5 hg5 hmv5; obtain ⟨gm5, rfl, hI5⟩ := hH.next (ea := e.ao) ho5 hg5 hmv5))
                  go_roundg 11
                  case measure => omega
                  case rel => exact ⟨1, some ⟨gl, 0, none⟩, lc1, gm5, mc5, by omega, rfl, rfl, rfl, hI5⟩
                · exact absurd hk0 hx
              · go_upto_region 24 with (first | (at_builtin; refine wpList_app _ rfl (.tmp 86) (.tmp 89) 37 rfl 3 i3 (.int .i64 0) 8 Tryd.underlying37 hi3 hz30 hz31 hz32 rfl la (m + k) lc _ rfl (hlr.alloc _) ⟨_, 0, none⟩ 1 1 [.int .i64 (-9000000 - (j : Int))] rfl rfl (cell_one_new _ _ _) (by intro u hu; simp at hu; subst hu; rfl) (by unfold maxLen; omega) (by omega) ?_; intro la4 lc4 w4 ho4 hg4 hmv4; obtain ⟨gl, rfl, hH⟩ := hI.half hk0 ho4 hg4 hmv4))
                clear hI hlr hmr ho4 hg4 hmv4
                have hmr := hH.mrow
                go_wp2_with (first | (at_builtin; refine wpList_app _ rfl (.tmp 91) (.tmp 94) 37 rfl 3 i3 (.int .i64 0) 8 Tryd.underlying37 hi3 hz30 hz31 hz32 rfl (some ⟨gm, 0, none⟩) (m + k) mc _ rfl (hmr.alloc _) ⟨_, 0, none⟩ 1 1 [.int .i64 (-9000000 - (j : Int))] rfl rfl (cell_one_new _ _ _) (by intro u hu; simp at hu; subst hu; rfl) (by unfold maxLen; omega) (by omega) ?_; intro ma5 mc5 w5 ho5 hg5 hmv5; obtain ⟨gm5, rfl, hI5⟩ := hH.next (ea := e.ao) ho5 hg5 hmv5))
                go_roundg (12 - (k + 1))
                case measure => omega
                case rel => exact ⟨k + 1, some ⟨gl, 0, none⟩, lc4, gm5, mc5, by omega, by go_num, rfl, rfl, hI5⟩
            · have hk : k = 12 := by omega
              subst hk
              rcases hI.lat with ⟨hx, _⟩ | ⟨_, gl, hla, hgl, hne⟩
              · exact absurd hx (by decide)
              · subst hla
                have hX1 := hN.x.chg (Chg.of_below hI.below (fun _ => False)) (fun h => h) (fun _ _ h => h) (fun _ _ h => h)
                have hlo : ((es' ++ news).map Ent.o).length = i + j := by rw [List.length_map, hlen]
                have hlw : ((es' ++ news).map Ent.w).length = i + j := by rw [List.length_map, hlen]
                generalize hos : (es' ++ news).map Ent.o = os at hX1 hlo
                generalize hws : (es' ++ news).map Ent.w = ws at hX1 hlw
                have HO : Hid ((es' ++ news).map Ent.o = os) := hos
                have HW : Hid ((es' ++ news).map Ent.w = ws) := hws
                have k0 := hX1.c0
                have ho1 := hX1.out
                rw [hlo] at k0 ho1
                have HLo : Hid (os.length = i + j) := hlo
                have HLw : Hid (ws.length = i + j) := hlw
                clear hos hws hlo hlw
                go_upto_region 26 with (first | (at_builtin; refine wpList_app _ rfl (.tmp 100) (.tmp 102) 32 rfl 37 i7 (.slice none 0 0) 24 Tryd.underlying32 hi7 hz70 hz71 hz72 rfl (some ⟨go, 0, none⟩) (i + j) co1 os rfl (ho1.alloc _) ⟨_, 0, none⟩ 1 1 [.slice (some ⟨gl, 0, none⟩) (m + 12) lc] rfl rfl (cell_one_new _ _ _) (by intro u hu; simp at hu; subst hu; rfl) (by unfold maxLen; omega) (by omega) ?_; intro ao2 co2 w2 ho2 hg2 hmv2; obtain ⟨hc2, hf2, hX2, hC2, hN2⟩ := hX1.outApp (by rw [HLo.out]) ho2 hg2 hmv2; rw [HLo.out] at hc2))
                clear ho1 ho2 hg2 hmv2 hc2 hf2 k0 hX1
                generalize w2.setCell ⟨H, 0, none⟩ (.slice ao2 (i + j + 1) co2) = w3 at *
                have k1 := hX2.c1
                have ho3 := hX2.want
                rw [HLw.out] at k1 ho3
                have hz3 := hC2.size
                go_wp2_with (first | (at_builtin; refine wpList_app _ rfl (.tmp 110) (.tmp 112) 32 rfl 37 i7 (.slice none 0 0) 24 Tryd.underlying32 hi7 hz70 hz71 hz72 rfl (some ⟨gw, 0, none⟩) (i + j) cw1 ws rfl (ho3.alloc _) ⟨_, 0, none⟩ 1 1 [.slice (some ⟨gm, 0, none⟩) (m + 12) mc] rfl rfl (cell_one_new _ _ _) (by intro u hu; simp at hu; subst hu; rfl) (by unfold maxLen; omega) (by omega) ?_; intro aw2 cw2 w4 ho4 hg4 hmv4; obtain ⟨hc4, hf4, hX4, hC4, hN4⟩ := hX2.wantApp (by rw [HLw.out]) ho4 hg4 hmv4; rw [HLw.out] at hc4))
                clear ho3 ho4 hg4 hmv4 hc4 hf4 k1
                generalize w4.setCell ⟨H, 1, none⟩ (.slice aw2 (i + j + 1) cw2) = w5 at *
                rw [← HO.out, ← HW.out] at hX4
                obtain ⟨eN, hGN⟩ := hG.next hI hgl hne HM.out hsm (by omega) hX4 ((hC2.mono (fun i _ h => h.elim .inl (fun h => .inr (.inl h)))).trans hC4 (fun i _ h => h.elim .inl (fun h => .inr (.inr h)))) hN2 (fun b hb => (hN4 b hb).elim .inl (fun h => .inr (by omega)))
                go_roundg (i - (j + 1))
                case measure => omega
                case rel => exact ⟨j + 1, ao2, aw2, co2, cw2, news ++ [eN], by omega, by go_num, hGN⟩
        · have e : j = i := by omega
          subst e
          have hC := hG.chg
          clear hG
          go_wp2_with (go_at_call 10; refine (holds_any H ao1 aw1 co1 cw1 (es' ++ news) _ hN).mono ?_; rintro e w2 ⟨rfl, q2, rfl⟩)
          go_ret
          exact ⟨rfl, hC.trans (Chg.of_below (drew_below _ q2) (fun _ => False)) (fun _ _ h => h.elim), _, _, hN.blk⟩
end Go.Proofs.YtmfecocbadekhaaDoor
