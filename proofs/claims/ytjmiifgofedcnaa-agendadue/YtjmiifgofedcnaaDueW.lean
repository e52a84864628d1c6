/-
  AgendaDue, walked.
-/
import Derived.Test.YtjmiifgofedcnaaDueA
import Derived.Test.YtjmiifgofedcnaaSrc
namespace Go.Proofs.Ytjmiifgofedcnaa
open Go.RowKit Ag

theorem st2_mk {w w1 w2 w3 : World} {a m b mb : Nat} {aoa aob : Option Addr} {LA LB : List En} (b1 : Below w.heap.size w w1) (n2 : Nw 68 76 w1 a m aoa LA w2) (n3 : Nw 68 76 w2 b mb aob LB w3) : St2 w w3.heap.size a m aoa LA b mb aob LB w3 := by
  have h1 := b1.size
  have h2 := n2.bel.size
  have h3 := n3.bel.size
  have l2 := n2.agn.lt
  have l3 := n3.agn.lt
  exact ⟨n2.agn.below n3.bel, n3.agn, (b1.trans (n2.bel.mono h1)).trans (n3.bel.mono (by omega)), fun k hk => ⟨by have := n2.new k hk; omega, by have := l2 k hk; omega⟩, fun k hk => ⟨by have := n3.new k hk; omega, l3 k hk⟩, fun k ha hb => by have := l2 k ha; have := n3.new k hb; omega, Nat.le_refl _⟩

set_option maxHeartbeats 4000000 in
set_option maxRecDepth 20000 in
theorem dueW {w : World} {ao : Option Addr} {n c : Nat} {f : Nat → Act5} (hA : ActsAt w ao n f) (hwf : ∀ k, k < n → wfI (f k).id ∧ wfI (f k).tm) (hn : n * 40 ≤ 140737488351232) (now thn : Int) (hnt : now ≤ thn) :
    Calls Try.prog 4 #[.slice ao n c, .int .i64 now, .int .i64 thn] w fun e w' => e = .returned (.bool true) ∧ Below w.heap.size w w' := by
  obtain ⟨i0, hi0, hz0, hz1, hz2⟩ := info_parts Try.inf3I
  go_enter Try.func4, Try.ntmps4
  go_wp2_with fail
  refine (shown_any w).mono ?_
  rintro e w1 ⟨rfl, b1⟩
  go_wp2_with fail
  refine (filled_any (hA.below b1) hwf hn).mono ?_
  rintro e w2 ⟨a, m, aoa, rfl, n2⟩
  go_wp2_with fail
  refine (filled_any ((hA.below b1).below (n2.bel)) hwf hn).mono ?_
  rintro e w3 ⟨b, mb, aob, rfl, n3⟩
  have hfl := fill_len f n
  have s3 : St2 w w3.heap.size a m aoa (fillL f n) b mb aob (fillL f n) w3 := st2_mk b1 n2 n3
  clear n2 n3
  generalize fillL f n = L at s3 hfl
  obtain ⟨S, hS⟩ : ∃ S, w3.heap.size = S := ⟨_, rfl⟩
  rw [hS] at s3
  have HS : Hid _ := hS
  clear hS
  obtain ⟨q, hq⟩ : ∃ q, L.length = q := ⟨_, rfl⟩
  rw [hq] at hfl
  have htk : L.take ((q : Int) + 1).toNat = L := List.take_of_length_le (by omega)
  have hda := due_two hnt L
  have hdl1 := due_len now L
  have hdl2 := due_len thn L
  have hdl3 := due_len thn (restL now L)
  rw [hda.2] at hdl3
  go_wp2_with fail
  have c4 := len_I s3.na
  rw [hq] at c4
  refine c4.mono ?_
  rintro e w4 ⟨rfl, rfl⟩
  clear c4
  go_wp2_with fail
  have c5 := listed_any s3.na ((q : Int) + 1) (by omega)
  rw [htk] at c5
  refine c5.mono ?_
  rintro e w5 ⟨vall, _, rfl, r5, _, b5, _⟩
  clear c5
  rw [← ids_len] at r5
  rw [HS.out] at r5
  have all5 := Rw.of r5
  have s5 := s3.grown b5
  clear r5 s3
  go_wp2_with fail
  refine (due_I s5.na now (by omega)).mono ?_
  rintro e w6 ⟨vx, rfl, r6, a6, c6⟩
  have s6 := s5.turnA a6 c6
  have all6 := all5.chg c6 (fun k hk => (s5.ka k hk).2)
  have x6 : Rw S vx (ids (dueL now L)) w6 := Rw.of (own_base (by rw [ids_len]; exact r6) s5.sz)
  clear r6 a6 c6 s5 all5
  have hfst : Calls Try.prog 20 #[.pointer (some ⟨a, 0, none⟩)] w6 fun e w' => ∃ (i t : Int) (o : Bool), e = .returned (.tuple #[.int .i64 i, .int .i64 t, .bool o]) ∧ (o = false ∨ now < t) ∧ Grew w6 w' := by
    cases hr : restL now L with
    | nil =>
      have hna := s6.na
      rw [hr] at hna
      exact (first_no_I hna).mono fun e w' ⟨he, hw⟩ => ⟨0, 0, false, he, .inl rfl, by rw [hw]; exact Grew.refl _⟩
    | cons d r =>
      have hna := s6.na
      rw [hr] at hna
      exact (first_yes_I hna).mono fun e w' ⟨he, hw⟩ => ⟨d.id, d.tm, true, he, .inr (rest_head hr), hw⟩
  go_wp2_with fail
  refine hfst.mono ?_
  rintro e w7 ⟨fi, ft, fo, rfl, hfo, g7⟩
  clear hfst
  have s7 := s6.grown g7.below
  have all7 := all6.grown g7.below
  have x7 := x6.grown g7.below
  clear s6 all6 x6 g7
  obtain ⟨sx, cx, rfl, hsx, hcx⟩ := x7.src
  have hlx := ids_len (dueL now L)
  rw [hlx] at hsx
  have hl7 := hlx
  rw [hlx]
  obtain ⟨k1, hk1⟩ : ∃ k1, (dueL now L).length = k1 := ⟨_, rfl⟩
  obtain ⟨k2, hk2⟩ : ∃ k2, (dueL thn (restL now L)).length = k2 := ⟨_, rfl⟩
  rw [hk1] at hsx hlx hdl1 ⊢
  rw [hk2] at hdl3
  have hlen2 : (dueL thn L).length = k1 + k2 := by rw [hda.1, List.length_append, hk1, hk2]
  have nil7 : Rw S (.slice none 0 0) [] w7 := ⟨World.ownsRow_nil _ _ _ _⟩
  obtain ⟨M, hM⟩ : ∃ M, w7.heap.size = M := ⟨_, rfl⟩
  have HM : Hid _ := hM
  have hvall : ∀ k, vall.ownBlock = some k → k < M := fun k hk => by have := (all7.row.lt k hk).2; omega
  have hSM : S ≤ M := by have := s7.sz; omega
  clear hM
  have k3d : (restL thn L).length + (k1 + k2) = q := by omega
  have hcase : fo = false ∨ (fo = true ∧ now < ft) := by
    cases fo
    · exact .inl rfl
    · exact .inr ⟨rfl, hfo.resolve_left (by simp)⟩
  clear hfo
  rcases hcase with rfl | ⟨rfl, hft⟩
  all_goals
    go_upto_region 13 with (first
      | (at_builtin; refine wpList_appS _ rfl (.const (.slice none 0 0)) (.tmp 53) 38 rfl 3 i0 (.int .i64 0) 8 Try.underlying38 hi0 hz0 hz1 hz2 rfl none 0 0 [] rfl (World.ownsRow_nil _ _ _ _) sx _ cx (ints (ids (dueL now L))) rfl (by rw [ints_len', hlx]) hsx hcx (ints_one' _) (Nat.le_trans (m := 35184372088832) (by omega) (by decide)) (by omega) ?_; intro ao8 cap8 w8 hr8 hg8 hm8; have b8 : Below w7.heap.size w7 w8 := (Below.refl _ w7).grown hg8 (Nat.le_refl _) (fun k e => by cases e); have y8 := nil7.app (m := k1) hr8 hm8 s7.sz rfl hlx; rw [Nat.zero_add, List.nil_append] at y8; have s8 := s7.grown b8; have all8 := all7.grown b8)
      | (go_at_call 19; refine (due_I s8.na thn (by omega)).mono ?_; rintro e w9 ⟨vd, rfl, r9, a9, c9⟩; have s9 := s8.turnA a9 c9; have all9 := all8.chg c9 (fun k hk => (s8.ka k hk).2); have y9 := y8.chg c9 (fun k hk => (s8.ka k hk).2); have d9 : Rw S vd (ids (dueL thn (restL now L))) w9 := Rw.of (own_base (by rw [ids_len]; exact r9) s8.sz); obtain ⟨sd, cd, rfl, hsd, hcd⟩ := d9.src; rw [ids_len, hk2] at hsd; rw [ids_len, hk2]; have y9r := own_base y9.row (Nat.zero_le S); rw [hlx] at y9r)
      | (at_builtin; refine wpList_appS _ rfl (.tmp 54) (.tmp 57) 38 rfl 3 i0 (.int .i64 0) 8 Try.underlying38 hi0 hz0 hz1 hz2 rfl ao8 k1 cap8 (ints (ids (dueL now L))) rfl y9r sd k2 cd (ints (ids (dueL thn (restL now L)))) rfl (by rw [ints_len', ids_len, hk2]) hsd hcd (ints_one' _) (Nat.le_trans (m := 35184372088832) (by omega) (by decide)) (by omega) ?_; intro ao10 cap10 w10 hr10 hg10 hm10))
  all_goals
    have x10 := y9.app (m := k2) hr10 hm10 s9.sz hlx (by rw [ids_len, hk2])
    rw [← ids_app, ← hda.1] at x10
    have lo8 := moved_lo hm8 (M := M) (fun g h => by cases h) (by rw [HM.out]; exact Nat.le_refl _)
    have hM9 : M ≤ w9.heap.size := by have := HM.out; have := b8.size; have := c9.size; omega
    have lo10 := moved_lo hm10 lo8 hM9
    have ch10 := app_chg hg10 lo8
    have all10 := all9.app_kept ch10 hvall
    have s10 := s9.other ch10 (fun k e => Nat.le_trans hSM e.2)
    rw [hda.2] at s10
    clear hr8 hg8 hm8 b8 y8 s8 all8 a9 c9 s9 all9 y9 r9 d9 y9r hr10 hg10 hm10 ch10
    go_wp2_with fail
    refine (due_I s10.nb thn (by omega)).mono ?_
    rintro e w11 ⟨vb, rfl, r11, a11, c11⟩
    have s11 := s10.turnB a11 c11
    have all11 := all10.chg c11 (fun k hk => (s10.kb k hk).2)
    have x11 := x10.chg c11 (fun k hk => (s10.kb k hk).2)
    have v11 : Rw S vb (ids (dueL thn L)) w11 := Rw.of (own_base (by rw [ids_len]; exact r11) s10.sz)
    clear s10 all10 x10 r11 a11 c11
    go_wp2_with fail
    refine (numbers_any x11.rd v11.rd (by rw [ids_len]; omega) (by rw [ids_len]; omega)).mono ?_
    rintro e w12 ⟨rfl, g12⟩
    have hd1 : decide (ids (dueL thn L) = ids (dueL thn L)) = true := by simp
    rw [hd1]
    have s12 := s11.grown g12.below
    have all12 := all11.grown g12.below
    have x12 := x11.grown g12.below
    clear s11 all11 x11 v11 g12
    obtain ⟨k3, hk3⟩ : ∃ k3, (restL thn L).length = k3 := ⟨_, rfl⟩
    have ek3 : (q : Int) - ((k1 : Int) + (k2 : Int)) = (k3 : Int) := by omega
    have c13 := len_I s12.na
    rw [hk3] at c13
    go_wp2_with fail
    refine c13.mono ?_
    rintro e w13 ⟨rfl, rfl⟩
    clear c13
    have c14 := listed_any s12.na ((q : Int) + 1) (by omega)
    have ht3 : (restL thn L).take ((q : Int) + 1).toNat = restL thn L := List.take_of_length_le (by omega)
    rw [ht3] at c14
    go_wp2_with fail
    refine c14.mono ?_
    rintro e w14 ⟨vr, _, rfl, r14, _, b14, _⟩
    clear c14
    have s14 := s12.grown b14
    have all14 := all12.grown b14
    have x14 := x12.grown b14
    have v14 : Rw S vr (ids (restL thn L)) w14 := Rw.of (own_base (by rw [ids_len]; exact r14) s12.sz)
    clear s12 all12 x12 r14 b14
    obtain ⟨sr, cr, rfl, hsr, hcr⟩ := v14.src
    rw [ids_len, hk3] at hsr ⊢
    have x14r := own_base x14.row (Nat.zero_le S)
    rw [ids_len, hlen2] at x14r
    go_wp2_with (first
      | (at_builtin; refine wpList_appS _ rfl (.tmp 81) (.tmp 82) 38 rfl 3 i0 (.int .i64 0) 8 Try.underlying38 hi0 hz0 hz1 hz2 rfl ao10 (k1 + k2) cap10 (ints (ids (dueL thn L))) rfl x14r sr k3 cr (ints (ids (restL thn L))) rfl (by rw [ints_len', ids_len, hk3]) hsr hcr (ints_one' _) (Nat.le_trans (m := 35184372088832) (by omega) (by decide)) (by omega) ?_; intro ao15 cap15 w15 hr15 hg15 hm15))
    have x15 := x14.app (m := k3) hr15 hm15 s14.sz (by rw [ids_len, hlen2]) (by rw [ids_len, hk3])
    rw [← ids_app, due_rest] at x15
    have ch15 := app_chg hg15 lo10
    have all15 := all14.app_kept ch15 hvall
    have s15 := s14.other ch15 (fun k e => Nat.le_trans hSM e.2)
    clear x14 hr15 hg15 hm15 s14 all14 v14 x14r ch15
    refine (numbers_any x15.rd all15.rd (by rw [ids_len]; omega) (by rw [ids_len]; omega)).mono ?_
    rintro e w16 ⟨rfl, g16⟩
    have hd2 : decide (ids L = ids L) = true := by simp
    rw [hd2]
    go_wp2
    go_ret
    exact ⟨rfl, s15.bel.trans (g16.below.mono s15.bel.size)⟩

/- The same, handed in the other way round. -/
set_option maxHeartbeats 4000000 in
set_option maxRecDepth 20000 in
theorem dueX {w : World} {ao : Option Addr} {n c : Nat} {f : Nat → Act5} (hA : ActsAt w ao n f) (hwf : ∀ k, k < n → wfI (f k).id ∧ wfI (f k).tm) (hn : n * 40 ≤ 140737488351232) (now thn : Int) (hst : now < thn) :
    Calls Try.prog 4 #[.slice ao n c, .int .i64 thn, .int .i64 now] w fun e w' => e = .returned (.bool true) ∧ Below w.heap.size w w' := by
  have hnt : now ≤ thn := by omega
  obtain ⟨i0, hi0, hz0, hz1, hz2⟩ := info_parts Try.inf3I
  go_enter Try.func4, Try.ntmps4
  go_wp2_with fail
  refine (shown_any w).mono ?_
  rintro e w1 ⟨rfl, b1⟩
  go_wp2_with fail
  refine (filled_any (hA.below b1) hwf hn).mono ?_
  rintro e w2 ⟨a, m, aoa, rfl, n2⟩
  go_wp2_with fail
  refine (filled_any ((hA.below b1).below (n2.bel)) hwf hn).mono ?_
  rintro e w3 ⟨b, mb, aob, rfl, n3⟩
  have hfl := fill_len f n
  have s3 : St2 w w3.heap.size a m aoa (fillL f n) b mb aob (fillL f n) w3 := st2_mk b1 n2 n3
  clear n2 n3
  generalize fillL f n = L at s3 hfl
  obtain ⟨S, hS⟩ : ∃ S, w3.heap.size = S := ⟨_, rfl⟩
  rw [hS] at s3
  have HS : Hid _ := hS
  clear hS
  obtain ⟨q, hq⟩ : ∃ q, L.length = q := ⟨_, rfl⟩
  rw [hq] at hfl
  have htk : L.take ((q : Int) + 1).toNat = L := List.take_of_length_le (by omega)
  have hda := due_two hnt L
  have hdl1 := due_len now L
  have hdl2 := due_len thn L
  have hdl3 := due_len thn (restL now L)
  rw [hda.2] at hdl3
  go_wp2_with fail
  have c4 := len_I s3.na
  rw [hq] at c4
  refine c4.mono ?_
  rintro e w4 ⟨rfl, rfl⟩
  clear c4
  go_wp2_with fail
  have c5 := listed_any s3.na ((q : Int) + 1) (by omega)
  rw [htk] at c5
  refine c5.mono ?_
  rintro e w5 ⟨vall, _, rfl, r5, _, b5, _⟩
  clear c5
  rw [← ids_len] at r5
  rw [HS.out] at r5
  have all5 := Rw.of r5
  have s5 := s3.grown b5
  clear r5 s3
  go_wp2_with fail
  refine (due_I s5.na now (by omega)).mono ?_
  rintro e w6 ⟨vx, rfl, r6, a6, c6⟩
  have s6 := s5.turnA a6 c6
  have all6 := all5.chg c6 (fun k hk => (s5.ka k hk).2)
  have x6 : Rw S vx (ids (dueL now L)) w6 := Rw.of (own_base (by rw [ids_len]; exact r6) s5.sz)
  clear r6 a6 c6 s5 all5
  have hfst : Calls Try.prog 20 #[.pointer (some ⟨a, 0, none⟩)] w6 fun e w' => ∃ (i t : Int) (o : Bool), e = .returned (.tuple #[.int .i64 i, .int .i64 t, .bool o]) ∧ (o = false ∨ now < t) ∧ Grew w6 w' := by
    cases hr : restL now L with
    | nil =>
      have hna := s6.na
      rw [hr] at hna
      exact (first_no_I hna).mono fun e w' ⟨he, hw⟩ => ⟨0, 0, false, he, .inl rfl, by rw [hw]; exact Grew.refl _⟩
    | cons d r =>
      have hna := s6.na
      rw [hr] at hna
      exact (first_yes_I hna).mono fun e w' ⟨he, hw⟩ => ⟨d.id, d.tm, true, he, .inr (rest_head hr), hw⟩
  go_wp2_with fail
  refine hfst.mono ?_
  rintro e w7 ⟨fi, ft, fo, rfl, hfo, g7⟩
  clear hfst
  have s7 := s6.grown g7.below
  have all7 := all6.grown g7.below
  have x7 := x6.grown g7.below
  clear s6 all6 x6 g7
  obtain ⟨sx, cx, rfl, hsx, hcx⟩ := x7.src
  have hlx := ids_len (dueL now L)
  rw [hlx] at hsx
  have hl7 := hlx
  rw [hlx]
  obtain ⟨k1, hk1⟩ : ∃ k1, (dueL now L).length = k1 := ⟨_, rfl⟩
  obtain ⟨k2, hk2⟩ : ∃ k2, (dueL thn (restL now L)).length = k2 := ⟨_, rfl⟩
  rw [hk1] at hsx hlx hdl1 ⊢
  rw [hk2] at hdl3
  have hlen2 : (dueL thn L).length = k1 + k2 := by rw [hda.1, List.length_append, hk1, hk2]
  have nil7 : Rw S (.slice none 0 0) [] w7 := ⟨World.ownsRow_nil _ _ _ _⟩
  obtain ⟨M, hM⟩ : ∃ M, w7.heap.size = M := ⟨_, rfl⟩
  have HM : Hid _ := hM
  have hvall : ∀ k, vall.ownBlock = some k → k < M := fun k hk => by have := (all7.row.lt k hk).2; omega
  have hSM : S ≤ M := by have := s7.sz; omega
  clear hM
  have k3d : (restL thn L).length + (k1 + k2) = q := by omega
  have hcase : fo = false ∨ (fo = true ∧ now < ft) := by
    cases fo
    · exact .inl rfl
    · exact .inr ⟨rfl, hfo.resolve_left (by simp)⟩
  clear hfo
  rcases hcase with rfl | ⟨rfl, hft⟩
  all_goals
    go_upto_region 13 with (first
      | (at_builtin; refine wpList_appS _ rfl (.const (.slice none 0 0)) (.tmp 53) 38 rfl 3 i0 (.int .i64 0) 8 Try.underlying38 hi0 hz0 hz1 hz2 rfl none 0 0 [] rfl (World.ownsRow_nil _ _ _ _) sx _ cx (ints (ids (dueL now L))) rfl (by rw [ints_len', hlx]) hsx hcx (ints_one' _) (Nat.le_trans (m := 35184372088832) (by omega) (by decide)) (by omega) ?_; intro ao8 cap8 w8 hr8 hg8 hm8; have b8 : Below w7.heap.size w7 w8 := (Below.refl _ w7).grown hg8 (Nat.le_refl _) (fun k e => by cases e); have y8 := nil7.app (m := k1) hr8 hm8 s7.sz rfl hlx; rw [Nat.zero_add, List.nil_append] at y8; have s8 := s7.grown b8; have all8 := all7.grown b8)
      | (go_at_call 19; refine (due_I s8.na thn (by omega)).mono ?_; rintro e w9 ⟨vd, rfl, r9, a9, c9⟩; have s9 := s8.turnA a9 c9; have all9 := all8.chg c9 (fun k hk => (s8.ka k hk).2); have y9 := y8.chg c9 (fun k hk => (s8.ka k hk).2); have d9 : Rw S vd (ids (dueL thn (restL now L))) w9 := Rw.of (own_base (by rw [ids_len]; exact r9) s8.sz); obtain ⟨sd, cd, rfl, hsd, hcd⟩ := d9.src; rw [ids_len, hk2] at hsd; rw [ids_len, hk2]; have y9r := own_base y9.row (Nat.zero_le S); rw [hlx] at y9r)
      | (at_builtin; refine wpList_appS _ rfl (.tmp 54) (.tmp 57) 38 rfl 3 i0 (.int .i64 0) 8 Try.underlying38 hi0 hz0 hz1 hz2 rfl ao8 k1 cap8 (ints (ids (dueL now L))) rfl y9r sd k2 cd (ints (ids (dueL thn (restL now L)))) rfl (by rw [ints_len', ids_len, hk2]) hsd hcd (ints_one' _) (Nat.le_trans (m := 35184372088832) (by omega) (by decide)) (by omega) ?_; intro ao10 cap10 w10 hr10 hg10 hm10))
  all_goals
    have x10 := y9.app (m := k2) hr10 hm10 s9.sz hlx (by rw [ids_len, hk2])
    rw [← ids_app, ← hda.1] at x10
    have lo8 := moved_lo hm8 (M := M) (fun g h => by cases h) (by rw [HM.out]; exact Nat.le_refl _)
    have hM9 : M ≤ w9.heap.size := by have := HM.out; have := b8.size; have := c9.size; omega
    have lo10 := moved_lo hm10 lo8 hM9
    have ch10 := app_chg hg10 lo8
    have all10 := all9.app_kept ch10 hvall
    have s10 := s9.other ch10 (fun k e => Nat.le_trans hSM e.2)
    rw [hda.2] at s10
    clear hr8 hg8 hm8 b8 y8 s8 all8 a9 c9 s9 all9 y9 r9 d9 y9r hr10 hg10 hm10 ch10
    go_wp2_with fail
    refine (due_I s10.nb thn (by omega)).mono ?_
    rintro e w11 ⟨vb, rfl, r11, a11, c11⟩
    have s11 := s10.turnB a11 c11
    have all11 := all10.chg c11 (fun k hk => (s10.kb k hk).2)
    have x11 := x10.chg c11 (fun k hk => (s10.kb k hk).2)
    have v11 : Rw S vb (ids (dueL thn L)) w11 := Rw.of (own_base (by rw [ids_len]; exact r11) s10.sz)
    clear s10 all10 x10 r11 a11 c11
    go_wp2_with fail
    refine (numbers_any x11.rd v11.rd (by rw [ids_len]; omega) (by rw [ids_len]; omega)).mono ?_
    rintro e w12 ⟨rfl, g12⟩
    have hd1 : decide (ids (dueL thn L) = ids (dueL thn L)) = true := by simp
    rw [hd1]
    have s12 := s11.grown g12.below
    have all12 := all11.grown g12.below
    have x12 := x11.grown g12.below
    clear s11 all11 x11 v11 g12
    obtain ⟨k3, hk3⟩ : ∃ k3, (restL thn L).length = k3 := ⟨_, rfl⟩
    have ek3 : (q : Int) - ((k1 : Int) + (k2 : Int)) = (k3 : Int) := by omega
    have c13 := len_I s12.na
    rw [hk3] at c13
    go_wp2_with fail
    refine c13.mono ?_
    rintro e w13 ⟨rfl, rfl⟩
    clear c13
    have c14 := listed_any s12.na ((q : Int) + 1) (by omega)
    have ht3 : (restL thn L).take ((q : Int) + 1).toNat = restL thn L := List.take_of_length_le (by omega)
    rw [ht3] at c14
    go_wp2_with fail
    refine c14.mono ?_
    rintro e w14 ⟨vr, _, rfl, r14, _, b14, _⟩
    clear c14
    have s14 := s12.grown b14
    have all14 := all12.grown b14
    have x14 := x12.grown b14
    have v14 : Rw S vr (ids (restL thn L)) w14 := Rw.of (own_base (by rw [ids_len]; exact r14) s12.sz)
    clear s12 all12 x12 r14 b14
    obtain ⟨sr, cr, rfl, hsr, hcr⟩ := v14.src
    rw [ids_len, hk3] at hsr ⊢
    have x14r := own_base x14.row (Nat.zero_le S)
    rw [ids_len, hlen2] at x14r
    go_wp2_with (first
      | (at_builtin; refine wpList_appS _ rfl (.tmp 81) (.tmp 82) 38 rfl 3 i0 (.int .i64 0) 8 Try.underlying38 hi0 hz0 hz1 hz2 rfl ao10 (k1 + k2) cap10 (ints (ids (dueL thn L))) rfl x14r sr k3 cr (ints (ids (restL thn L))) rfl (by rw [ints_len', ids_len, hk3]) hsr hcr (ints_one' _) (Nat.le_trans (m := 35184372088832) (by omega) (by decide)) (by omega) ?_; intro ao15 cap15 w15 hr15 hg15 hm15))
    have x15 := x14.app (m := k3) hr15 hm15 s14.sz (by rw [ids_len, hlen2]) (by rw [ids_len, hk3])
    rw [← ids_app, due_rest] at x15
    have ch15 := app_chg hg15 lo10
    have all15 := all14.app_kept ch15 hvall
    have s15 := s14.other ch15 (fun k e => Nat.le_trans hSM e.2)
    clear x14 hr15 hg15 hm15 s14 all14 v14 x14r ch15
    refine (numbers_any x15.rd all15.rd (by rw [ids_len]; omega) (by rw [ids_len]; omega)).mono ?_
    rintro e w16 ⟨rfl, g16⟩
    have hd2 : decide (ids L = ids L) = true := by simp
    rw [hd2]
    go_wp2
    go_ret
    exact ⟨rfl, s15.bel.trans (g16.below.mono s15.bel.size)⟩
end Go.Proofs.Ytjmiifgofedcnaa
