/-
  Package tree: Shares, Close, Add.
-/
import Derived.Test.YthkahbjcncbcfaaPgC
namespace Go.Proofs.Ythkahbjcncbcfaa
open Go.RowKit Tr

/-- A call has turned the tree. -/
def Mod (w w' : World) (t : Nat) (v : Value) (m : Nat) (kv : Value) (ks : List Nat) (l' : List Ac) : Prop :=
  ∃ v' kv' ks', PT w' t v' m kv' ks' l' (kidB l') ∧ Chg (PK t v m kv ks) w w' ∧ ∀ j, PK t v' m kv' ks' j → PK t v m kv ks j ∨ w.heap.size ≤ j
theorem Mod.same {w w' : World} {t : Nat} {v : Value} {m : Nat} {kv : Value} {ks : List Nat} {l : List Ac} (h : PT w t v m kv ks l (kidB l)) (b : Below w.heap.size w w') : Mod w w' t v m kv ks l := ⟨v, kv, ks, h.below b, Chg.of_below b _, fun _ hj => .inl hj⟩
theorem Mod.here {w w' : World} {t : Nat} {v : Value} {m : Nat} {kv : Value} {ks : List Nat} {l : List Ac} (h : PT w' t v m kv ks l (kidB l)) (c : Chg (PK t v m kv ks) w w') : Mod w w' t v m kv ks l := ⟨v, kv, ks, h, c, fun _ hj => .inl hj⟩

set_option maxHeartbeats 2000000 in
set_option maxRecDepth 20000 in
theorem pshare_any {w : World} {t : Nat} {v : Value} {m : Nat} {kv : Value} {ks : List Nat} {l : List Ac} (h : PT w t v m kv ks l (kidB l)) {s : ByteArray} (hs : s.size ≤ maxLen) (sh : Int) :
    Calls Try.prog 37 #[.pointer (some ⟨t, 0, none⟩), .string s, .int .i64 sh] w fun e w' => e = .returned (.int .i64 (sharesV l s sh).1) ∧ Mod w w' t v m kv ks (sharesV l s sh).2 := by
  have hk := change_any h hs
  have hsh := pshares_any sh w
  obtain ⟨⟨n, er⟩, hkv⟩ : ∃ p, knownV l s = p := ⟨_, rfl⟩
  rw [hkv] at hk
  simp only at hk
  by_cases he : er = 0
  · subst he
    obtain ⟨hf, hn0⟩ := known_some hkv
    obtain ⟨⟨a, ha, _⟩, _⟩ := find_some hf
    have hnl := (List.getElem?_eq_some_iff.1 ha).1
    cases hok : okSh sh with
    | false =>
      have hv : sharesV l s sh = (63, l) := by unfold sharesV; rw [hkv]; simp [hok]
      rw [hok] at hsh
      rw [hv]
      have H : Hid _ := h
      clear h
      go_enter Try.func37, Try.ntmps37
      go_wp2_with fail
      refine hk.mono ?_
      rintro e w1 ⟨rfl, rfl⟩
      go_wp2_with fail
      refine hsh.mono ?_
      rintro e w1 ⟨rfl, rfl⟩
      go_wp2
      go_ret
      exact ⟨rfl, Mod.same H.out (Below.refl _ _)⟩
    | true =>
      have hv : sharesV l s sh = (0, l.set n { a with sh := sh }) := by unfold sharesV; rw [hkv]; simp [hok, ha]
      rw [hok] at hsh
      rw [hv]
      obtain ⟨ao, c, rfl, c0, _, _, _⟩ := h.cells
      obtain ⟨g, c', hvv, ⟨d0, d1, d2, d3, d4⟩, hfr⟩ := h.acell ha
      cases hvv
      obtain ⟨h1, ch1⟩ := h.setA (g := g) rfl (flatA_sh l n a sh ha) (by simp) (fun x => find_set (a' := { a with sh := sh }) ha rfl x)
      rw [← kidB_set (a' := { a with sh := sh }) ha rfl] at h1
      have hn' : (n : Int) < l.length := by omega
      have HM : Hid _ := Mod.here h1 ch1
      clear h h1 ch1
      go_enter Try.func37, Try.ntmps37
      go_wp2_with fail
      refine hk.mono ?_
      rintro e w1 ⟨rfl, rfl⟩
      go_wp2_with fail
      refine hsh.mono ?_
      rintro e w1 ⟨rfl, rfl⟩
      go_wp2
      go_ret
      exact ⟨rfl, HM.out⟩
  · have hv : sharesV l s sh = (er, l) := by
      unfold sharesV
      rw [hkv]
      split
      · rename_i heq
        cases heq
        exact absurd rfl he
      · rename_i heq
        cases heq
        rfl
    rw [hv]
    have H : Hid _ := h
    clear h
    go_enter Try.func37, Try.ntmps37
    go_wp2_with fail
    refine hk.mono ?_
    rintro e w1 ⟨rfl, rfl⟩
    go_wp2
    go_ret
    exact ⟨rfl, Mod.same H.out (Below.refl _ _)⟩

set_option maxHeartbeats 2000000 in
set_option maxRecDepth 20000 in
theorem pclose_any {w : World} {t : Nat} {v : Value} {m : Nat} {kv : Value} {ks : List Nat} {l : List Ac} (h : PT w t v m kv ks l (kidB l)) {s : ByteArray} (hs : s.size ≤ maxLen) :
    Calls Try.prog 40 #[.pointer (some ⟨t, 0, none⟩), .string s] w fun e w' => e = .returned (.int .i64 (closeV l s).1) ∧ Mod w w' t v m kv ks (closeV l s).2 := by
  have hk := change_any h hs
  obtain ⟨⟨n, er⟩, hkv⟩ : ∃ p, knownV l s = p := ⟨_, rfl⟩
  rw [hkv] at hk
  simp only at hk
  by_cases he : er = 0
  · subst he
    obtain ⟨hf, hn0⟩ := known_some hkv
    obtain ⟨⟨a, ha, _⟩, _⟩ := find_some hf
    have hnl := (List.getElem?_eq_some_iff.1 ha).1
    have hv : closeV l s = (0, l.set n { a with cl := true }) := by unfold closeV; rw [hkv]; simp [ha]
    rw [hv]
    obtain ⟨ao, c, rfl, c0, _, _, _⟩ := h.cells
    obtain ⟨g, c', hvv, ⟨d0, d1, d2, d3, d4⟩, hfr⟩ := h.acell ha
    cases hvv
    obtain ⟨h1, ch1⟩ := h.setA (g := g) rfl (flatA_cl l n a true ha) (by simp) (fun x => find_set (a' := { a with cl := true }) ha rfl x)
    rw [← kidB_set (a' := { a with cl := true }) ha rfl] at h1
    have hn' : (n : Int) < l.length := by omega
    have HM : Hid _ := Mod.here h1 ch1
    clear h h1 ch1
    go_enter Try.func40, Try.ntmps40
    go_wp2_with fail
    refine hk.mono ?_
    rintro e w1 ⟨rfl, rfl⟩
    go_wp2
    go_ret
    exact ⟨rfl, HM.out⟩
  · have hv : closeV l s = (er, l) := by
      unfold closeV
      rw [hkv]
      split
      · rename_i heq
        cases heq
        exact absurd rfl he
      · rename_i heq
        cases heq
        rfl
    rw [hv]
    have H : Hid _ := h
    clear h
    go_enter Try.func40, Try.ntmps40
    go_wp2_with fail
    refine hk.mono ?_
    rintro e w1 ⟨rfl, rfl⟩
    go_wp2
    go_ret
    exact ⟨rfl, Mod.same H.out (Below.refl _ _)⟩

theorem refV_no {l : List Ac} {nm pn : ByteArray} {sh : Int} (h : refV l nm (findV l pn).isSome sh ≠ 0) : addV l nm pn sh = (0, refV l nm (findV l pn).isSome sh, l) := by
  unfold refV addV at *
  by_cases h1 : okName nm = false
  · simp [h1]
  · by_cases h2 : (findV l nm).isSome = true
    · simp [h1, h2]
    · cases h3 : findV l pn with
      | none => simp [h1, h2]
      | some p =>
        rw [h3] at h
        by_cases h4 : okSh sh = false
        · simp [h1, h2, h4]
        · simp [h1, h2, h4] at h
theorem refV_yes {l : List Ac} {nm pn : ByteArray} {sh : Int} (h : refV l nm (findV l pn).isSome sh = 0) : okName nm = true ∧ findV l nm = none ∧ (∃ p, findV l pn = some p) ∧ okSh sh = true := by
  unfold refV at h
  by_cases h1 : okName nm = false
  · simp [h1] at h
  · by_cases h2 : (findV l nm).isSome = true
    · simp [h1, h2] at h
    · cases h3 : findV l pn with
      | none => simp [h1, h2, h3] at h
      | some p =>
        by_cases h4 : okSh sh = false
        · simp [h1, h2, h3, h4] at h
        · exact ⟨by simpa using h1, by simpa using h2, ⟨p, rfl⟩, by simpa using h4⟩
set_option maxHeartbeats 2000000 in
set_option maxRecDepth 20000 in
theorem padd_any {w : World} {t : Nat} {v : Value} {m : Nat} {kv : Value} {ks : List Nat} {l : List Ac} (h : PT w t v m kv ks l (kidB l)) (hw : Wf l) {nm pn : ByteArray} (hs : nm.size ≤ maxLen) (hp : pn.size ≤ maxLen) (sh : Int) :
    Calls Try.prog 28 #[.pointer (some ⟨t, 0, none⟩), .string nm, .string pn, .int .i64 sh] w fun e w' => e = .returned (.tuple #[.int .i64 (addV l nm pn sh).1, .int .i64 (addV l nm pn sh).2.1]) ∧ Mod w w' t v m kv ks (addV l nm pn sh).2.2 := by
  have hf := pfind_any h hp
  have hr := refuses_any h hs (findV l pn).isSome sh
  by_cases hz : refV l nm (findV l pn).isSome sh = 0
  · obtain ⟨y1, y2, ⟨p, y3⟩, y4⟩ := refV_yes hz
    rw [hz] at hr
    rw [y3] at hf hr
    simp only [Option.getD_some, Option.isSome_some] at hf hr
    have hpl := find_lt y3
    obtain ⟨d, d1, d2, d3⟩ := hw.depth hpl
    have hd := pdepth_any h hw (p : Int)
    have hdz : depZ l (p : Int) = d := by
      unfold depZ
      rw [show thereB l (p : Int) = true by simp [thereB, hpl]]
      simp [d1, findI]
    rw [hdz] at hd
    have hln := plen_any h
    by_cases hd4 : d = 4
    · have hv : addV l nm pn sh = (0, 64, l) := by
        unfold addV
        simp [y1, y2, y3, y4, d1, hd4]
      subst hd4
      rw [hv]
      have H : Hid _ := h
      clear h
      go_enter Try.func28, Try.ntmps28
      go_wp2_with fail
      refine hf.mono ?_
      rintro e w1 ⟨rfl, rfl⟩
      go_wp2_with fail
      refine hr.mono ?_
      rintro e w1 ⟨rfl, rfl⟩
      go_wp2_with fail
      refine hd.mono ?_
      rintro e w1 ⟨rfl, rfl⟩
      go_wp2
      go_ret2
      exact ⟨rfl, Mod.same H.out (Below.refl _ _)⟩
    · have hd4' : ((d : Int) == 4) = false := by simp; omega
      have hlen := hw.len
      by_cases hl64 : l.length = 64
      · have hv : addV l nm pn sh = (0, 65, l) := by
          unfold addV
          have : ¬ 4 ≤ d := by omega
          simp [y1, y2, y3, y4, d1, this, hl64]
        rw [hv]
        rw [hl64] at hln
        have H : Hid _ := h
        clear h hl64
        go_enter Try.func28, Try.ntmps28
        go_wp2_with fail
        refine hf.mono ?_
        rintro e w1 ⟨rfl, rfl⟩
        go_wp2_with fail
        refine hr.mono ?_
        rintro e w1 ⟨rfl, rfl⟩
        go_wp2_with fail
        refine hd.mono ?_
        rintro e w1 ⟨rfl, rfl⟩
        go_wp2_with fail
        refine hln.mono ?_
        rintro e w1 ⟨rfl, rfl⟩
        go_wp2
        go_ret2
        exact ⟨rfl, Mod.same H.out (Below.refl _ _)⟩
      · have hl64' : ((l.length : Int) == 64) = false := by simp; omega
        have hv : addV l nm pn sh = ((l.length : Int), 0, l ++ [⟨nm, p, sh, false, 0⟩]) := by
          unfold addV
          have h1 : ¬ 4 ≤ d := by omega
          have h2 : ¬ 64 ≤ l.length := by omega
          simp [y1, y2, y3, y4, d1, h1, h2]
        rw [hv]
        have hlay := lay_any h ⟨nm, 0, sh, false, 0⟩ hs y2 (by omega) (kidB_last hw)
        clear hv
        go_enter Try.func28, Try.ntmps28
        go_wp2_with fail
        refine hf.mono ?_
        rintro e w1 ⟨rfl, rfl⟩
        go_wp2_with fail
        refine hr.mono ?_
        rintro e w1 ⟨rfl, rfl⟩
        go_wp2_with fail
        refine hd.mono ?_
        rintro e w1 ⟨rfl, rfl⟩
        go_wp2_with fail
        refine hln.mono ?_
        rintro e w1 ⟨rfl, rfl⟩
        go_wp2_with fail
        refine hlay.mono ?_
        rintro e w1 ⟨rfl, v1, kv1, k1, h1, ch1, nw1⟩
        have hhang := hang_any h1 (n := l.length) (p := p) (by simp; omega) (by simp) (by simp; omega) (fun j hj => by have := kidB_lt hj; omega)
        rw [mv_last, kidB_add (a := ⟨nm, p, sh, false, 0⟩) (p := p) rfl] at hhang
        go_wp2_with fail
        refine hhang.mono ?_
        rintro e w2 ⟨rfl, h2, ch2⟩
        have HM : Hid _ := (⟨v1, kv1, ks ++ [k1], h2, ch1.trans ch2 (fun i hi hj => by rcases nw1 i hj with h | h; exact h; omega), nw1⟩ : Mod w w2 t v m kv ks (l ++ [⟨nm, p, sh, false, 0⟩]))
        go_wp2
        go_ret2
        exact ⟨rfl, HM.out⟩
  · rw [refV_no hz]
    obtain ⟨er, her⟩ : ∃ er, refV l nm (findV l pn).isSome sh = er := ⟨_, rfl⟩
    rw [her] at hr hz ⊢
    have hz' : ((er : Int) == 0) = false := by simp [hz]
    have H : Hid _ := h
    clear h her
    go_enter Try.func28, Try.ntmps28
    go_wp2_with fail
    refine hf.mono ?_
    rintro e w1 ⟨rfl, rfl⟩
    go_wp2_with fail
    refine hr.mono ?_
    rintro e w1 ⟨rfl, rfl⟩
    go_wp2
    go_ret2
    exact ⟨rfl, Mod.same H.out (Below.refl _ _)⟩
end Go.Proofs.Ythkahbjcncbcfaa
