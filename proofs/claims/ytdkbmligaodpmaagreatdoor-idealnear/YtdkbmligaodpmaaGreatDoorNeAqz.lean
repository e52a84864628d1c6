/-
 IDEALNEAR: the caller's own list of accounts (a copy, made by append, whose usages are written one by one); what comes in; what is refused.
-/
import Derived.Test.YtdkbmligaodpmaaGreatDoorHdBqz
import Derived.Test.YtdkbmligaodpmaaGreatDoorXiyz
import Derived.Laws.OwnMore
namespace Go.Proofs.YtdkbmligaodpmaaGreatDoor
open Go.ChangeShapes Go.WideShapes Go.ChangeAt Go.RowKit Go.Joins Wd Ld Cg Tr

section
variable {H : Type} {enc : TypeId × Value → H} {P : Program} {w : World} {base : Nat} {spare : Nat → Bool} {held : Bool}
theorem trodAll_five {t0 t1 t2 t3 t4 : TypeId} {args : Array Value} {ds : List (DataW H)} {ps : List MemPlace} (h : DataW.TrodAll enc P w base spare held [t0, t1, t2, t3, t4] args.toList ds ps) :
  ∃ v0 v1 v2 v3 v4 d0 d1 d2 d3 d4 p0 p1 p2 p3 p4, args = #[v0, v1, v2, v3, v4] ∧ ds = [d0, d1, d2, d3, d4] ∧ ps = p0 ++ (p1 ++ (p2 ++ (p3 ++ p4))) ∧ DataW.Trod enc P w base spare held t0 v0 d0 p0 ∧ DataW.Trod enc P w base spare held t1 v1 d1 p1 ∧ DataW.Trod enc P w base spare held t2 v2 d2 p2 ∧ DataW.Trod enc P w base spare held t3 v3 d3 p3 ∧ DataW.Trod enc P w base spare held t4 v4 d4 p4 := by
 obtain ⟨v0, r0, d0, e0, p0, q0, hargs, rfl, rfl, h0, k0⟩ := trodAll_cons h
 obtain ⟨v1, r1, d1, e1, p1, q1, rfl, rfl, rfl, h1, k1⟩ := trodAll_cons k0
 obtain ⟨v2, r2, d2, e2, p2, q2, rfl, rfl, rfl, h2, k2⟩ := trodAll_cons k1
 obtain ⟨v3, r3, d3, e3, p3, q3, rfl, rfl, rfl, h3, k3⟩ := trodAll_cons k2
 obtain ⟨v4, r4, d4, e4, p4, q4, rfl, rfl, rfl, h4, k4⟩ := trodAll_cons k3
 obtain ⟨rfl, rfl, rfl⟩ := trodAll_nil k4
 exact ⟨v0, v1, v2, v3, v4, d0, d1, d2, d3, d4, p0, p1, p2, p3, p4, by cases args; simp_all, rfl, by simp, h0, h1, h2, h3, h4⟩
theorem trodAll_mk5 {t0 t1 t2 t3 t4 : TypeId} {v0 v1 v2 v3 v4 : Value} {d0 d1 d2 d3 d4 : DataW H} {p0 p1 p2 p3 p4 : List MemPlace} (h0 : DataW.Trod enc P w base spare held t0 v0 d0 p0) (h1 : DataW.Trod enc P w base spare held t1 v1 d1 p1) (h2 : DataW.Trod enc P w base spare held t2 v2 d2 p2) (h3 : DataW.Trod enc P w base spare held t3 v3 d3 p3) (h4 : DataW.Trod enc P w base spare held t4 v4 d4 p4) :
  DataW.TrodAll enc P w base spare held [t0, t1, t2, t3, t4] [v0, v1, v2, v3, v4] [d0, d1, d2, d3, d4] (p0 ++ (p1 ++ (p2 ++ (p3 ++ p4)))) := ⟨p0, _, h0, trodAll_mk4 h1 h2 h3 h4, rfl⟩
end
def mkU (l : List Ac) (us : List Int) (k : Nat) : List Ac := l.mapIdx fun n a => if n < k then { a with us := us.getD n 0 } else a
theorem mkU_len (l : List Ac) (us : List Int) (k : Nat) : (mkU l us k).length = l.length := by simp [mkU]
theorem mkU_get (l : List Ac) (us : List Int) (k n : Nat) : (mkU l us k)[n]? = (l[n]?).map fun a => if n < k then { a with us := us.getD n 0 } else a := by simp [mkU, List.getElem?_mapIdx]
theorem mkU_zero (l : List Ac) (us : List Int) : mkU l us 0 = l := by
 apply List.ext_getElem?
 intro n
 rw [mkU_get]
 cases l[n]? <;> simp
theorem mkU_at {l : List Ac} {us : List Int} {k : Nat} {a : Ac} (ha : l[k]? = some a) : (mkU l us k)[k]? = some a := by
 rw [mkU_get, ha]
 simp
theorem mkU_succ {l : List Ac} {us : List Int} {k : Nat} {a : Ac} {u : Int} (ha : l[k]? = some a) (hu : us[k]? = some u) : (mkU l us k).set k { a with us := u } = mkU l us (k + 1) := by
 apply List.ext_getElem?
 intro n
 rw [List.getElem?_set, mkU_get, mkU_get, mkU_len]
 have hk := (List.getElem?_eq_some_iff.1 ha).1
 by_cases h : k = n
 ·subst h
  rw [if_pos rfl, if_pos hk, ha]
  simp [List.getD_eq_getElem?_getD, hu]
 ·rw [if_neg h]
  cases l[n]? with
  | none => rfl
  | some b =>
   simp only [Option.map_some]
   by_cases h1 : n < k
   ·rw [if_pos h1, if_pos (by omega)]
   ·rw [if_neg h1, if_neg (by omega)]
theorem mkU_all {l : List Ac} {us : List Int} (h : us.length = l.length) : mkU l us l.length = withU l us := by
 apply List.ext_getElem?
 intro n
 rw [mkU_get]
 unfold withU
 rw [List.getElem?_zipWith]
 by_cases hn : n < l.length
 ·rw [List.getElem?_eq_getElem hn, List.getElem?_eq_getElem (show n < us.length by omega)]
  simp only [Option.map_some]
  rw [if_pos hn, List.getD_eq_getElem?_getD, List.getElem?_eq_getElem (show n < us.length by omega)]
  rfl
 ·rw [List.getElem?_eq_none (by omega)]
  rfl
def AcO (B : Nat) (W : World) (g cap : Nat) (M : List Ac) : Prop := W.ownsRow B 62 5 (.slice (some ⟨g, 0, none⟩) M.length cap) M.length (flatA M)
section
variable {B : Nat} {W W' : World} {g cap : Nat} {M : List Ac}
theorem AcO.acs (h : AcO B W g cap M) : Acs W g 0 M := fun k a ha => by
 obtain ⟨e0, e1, e2, e3, e4⟩ := flatA_at M k a ha
 have hc := fun j u (hu : (flatA M)[j]? = some u) => (show W.cell? ⟨g, 0 + j, none⟩ = some u by have := h.cells rfl j u hu; simp only [Addr.add] at this; split at this <;> simp_all)
 exact ⟨hc _ _ e0, hc _ _ e1, hc _ _ e2, hc _ _ e3, hc _ _ e4⟩
theorem AcO.free (h : AcO B W g cap M) (j : Nat) : W.frozen? ⟨g, j, none⟩ = false := World.ownsRow.frozenAt h j
theorem AcO.below (h : AcO B W g cap M) (b : Below W.heap.size W W') : AcO B W' g cap M := row_kept h b
theorem AcO.set (h : AcO B W g cap M) {k : Nat} {a : Ac} (ha : M[k]? = some a) (x : Int) : AcO B (W.setCell ⟨g, k * 5 + 4, none⟩ (.int .u64 x)) g cap (M.set k { a with us := x }) := by
 have := (World.ownsRow.stored h (k * 5 + 4) (.int .u64 x)).1
 unfold AcO
 rw [List.length_set, ← flatA_us M k a x ha]
 exact this
end
theorem Tryz.infAc : (Tryz.prog.info? 62).map (fun i => (i.zero, i.size, i.bytes)) = some (some (.agg #[.string ⟨#[]⟩, .int .i64 0, .int .i64 0, .bool false, .int .u64 0]), 5, 48) := by kernel_rfl
set_option maxRecDepth 20000 in
theorem job_val {H : Type} {enc : TypeId × Value → H} {W : World} {b0 : Nat} {r : Reach} {v : Value} {d : DataW H} {p : List MemPlace}
  (hv : Value.okWide Tryz.prog W r b0 39 v) (h : DataW.Trod enc Tryz.prog W 0 (fun _ => true) true 39 v d p) : ∃ j : Jb, v = jbV j ∧ JbOk j := by
 obtain ⟨cs, rfl, hsz⟩ := okWide_struct Tryz.underlying39 hv
 obtain ⟨fuel, hf⟩ := h
 obtain ⟨j, e, hj⟩ := job_in hf
 refine ⟨j, ?_, hj⟩
 have e' : cs.toList = jbC j := by simpa [Value.cells] using e
 have e2 : cs = (jbC j).toArray := by rw [← e']
 rw [e2]
 rfl
set_option maxRecDepth 20000 in
theorem int_val {H : Type} {enc : TypeId × Value → H} {W : World} {b0 : Nat} {r : Reach} {v : Value} {d : DataW H} {p : List MemPlace}
  (hv : Value.okWide Tryz.prog W r b0 3 v) (h : DataW.Trod enc Tryz.prog W 0 (fun _ => true) true 3 v d p) : ∃ x : Int, v = .int .i64 x ∧ I64 x := by
 obtain ⟨n, rfl⟩ := okWide_int Tryz.underlying3 hv
 obtain ⟨fuel, hf⟩ := h
 obtain ⟨z, e, _, w⟩ := DataW.trod_int Tryz.underlying3 hf
 have e' : n = z := by simpa [Value.cells] using e
 subst e'
 exact ⟨n, rfl, wf_i64 w⟩
set_option maxRecDepth 20000 in
set_option maxHeartbeats 4000000 in
theorem near_no {w : World} (hT : Tab w) {ao : Option Addr} {l : List Ac} {ca : Nat} (hA : AcsAt w ao l) (hn : l.length * 48 ≤ 140737488355328) (so : Option Addr) (N ct : Nat) (c : Cf) (j : Jb) (age : Int) (hno : ¬ (loadE l = 0 ∧ chkZ c = 0)) :
  Calls Tryz.prog 4 #[cfV c, .slice ao l.length ca, .slice so N ct, jbV j, .int .i64 age] w fun e w' => e = .returned (.bool true) ∧ Below w.heap.size w w' := by
 have hSt0 := St.new w c
 have hSt := keepW hSt0 (Bk.below1 _ (.cells (jbL j) 39))
 have c1 := ishown_any (Tab.below hSt.bel hT)
 have HLD : Hid (∀ x, Below w.heap.size w x → Calls Tryz.prog 20 #[.slice ao l.length ca] x (RLoadP x l)) := fun x hx => rload_any (hA.below hx) hn
 have cC := rcheck_any c
 generalize hq : l.length = q at *
 clear hA hT hq hSt0 hn
 unfold cfV at *
 by_cases hl : loadE l = 0
 ·have hne : (chkZ c != 0) = true := by simpa using fun e => hno ⟨hl, e⟩
  have HL : Hid (loadE l = 0) := hl
  clear hno hl
  generalize chkZ c = z at *
  go_enter Tryz.func4, Tryz.ntmps4
  go_wp2_with fail
  refine c1.mono ?_
  rintro e w1 ⟨rfl, b1⟩
  have hSt := keepW hSt b1
  clear b1 c1
  obtain ⟨s0, s1, s2, s3, s4, s5, s6, s7, hB, hz⟩ := hSt
  have cL := HLD.out w1 hB
  go_wp2_with fail
  refine cL.mono ?_
  rintro e w2 ⟨h1, _, b2⟩
  obtain ⟨dt, vt, rfl, _⟩ := h1 HL.out
  have hSt : St w w.heap.size c w2 := keepW ⟨s0, s1, s2, s3, s4, s5, s6, s7, hB, hz⟩ b2
  clear s0 s1 s2 s3 s4 s5 s6 s7 hB hz b2 cL h1
  obtain ⟨s0, s1, s2, s3, s4, s5, s6, s7, hB, hz⟩ := hSt
  go_wp2_with fail
  refine (cC _).mono ?_
  rintro e w3 ⟨rfl, b3⟩
  have HB3 : Hid (Below w.heap.size w w3) := hB.trans (b3.mono hB.size)
  clear s0 s1 s2 s3 s4 s5 s6 s7 hB hz b3 cC
  go_wp2
  go_ret
  exact ⟨rfl, HB3.out⟩
 ·have HL : Hid (loadE l ≠ 0) := hl
  clear hno
  have hne : (loadE l != 0) = true := by simp [hl]
  clear hl
  go_enter Tryz.func4, Tryz.ntmps4
  go_wp2_with fail
  refine c1.mono ?_
  rintro e w1 ⟨rfl, b1⟩
  have hSt := keepW hSt b1
  clear b1 c1 cC
  have hB := hSt.bel
  clear hSt
  have cL := HLD.out w1 hB
  go_wp2_with fail
  refine cL.mono ?_
  rintro e w2 ⟨_, h2, b2⟩
  obtain rfl := h2 HL.out
  have HB3 : Hid (Below w.heap.size w w2) := hB.trans (b2.mono hB.size)
  generalize loadE l = z at *
  clear hB b2 cL h2 HL HLD
  go_wp2
  go_ret
  exact ⟨rfl, HB3.out⟩
end Go.Proofs.YtdkbmligaodpmaaGreatDoor
