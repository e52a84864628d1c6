/-
  LAYER 15: package pass: startBy.
-/
import Derived.Test.YtdkibcagbidelaaMcC
namespace Go.Proofs.Ytdkibcagbidelaa
open Go.RowKit Pr

set_option maxRecDepth 20000 in
set_option maxHeartbeats 2000000 in
theorem startByA_yes {B m r rb c : Nat} {vr vs : Value} {ao : Option Addr} {now : Int} {s : Ps} {h : Wt} {l : List Wt} {W : World} {x : Wt} (hM : Mc B m r vr ao c vs now s h l W) (hrb : W.heap[rb]? = some (.cells #[.iface 75 (.pointer (some ⟨r, 0, none⟩))] 102 (0, 0)))
    (hx : x.nd ≤ s.fr) (x1 : 1 ≤ x.nd) (x2 : x.nd ≤ 256) (x3 : 1 ≤ x.lm) (x4 : x.lm ≤ 1048576) (n0 : 0 ≤ now) (n1 : now ≤ 2199023255552) (f1 : s.fr ≤ 256)
    (hrs : (s.rs.length + 1) * 16 ≤ 140737488355328) (hst : s.st.length ≤ 1000) (hB : B ≤ W.heap.size) :
    Calls Try.prog 42 #[.pointer (some ⟨m, 0, none⟩), .agg #[.int .i64 x.job, .int .i64 x.nd, .int .i64 x.lm], .slice (some ⟨rb, 0, none⟩) 1 1] W fun e W' =>
      e = .returned (.bool true) ∧ (∃ vr' vs', Mc B m r vr' ao c vs' now (stV now s x) h l W') ∧ Chg (KM B m r W) W W' := by
  obtain ⟨W1, hW1⟩ : ∃ W1, W.alloc (.cells #[.int .i64 x.job, .int .i64 x.nd, .int .i64 x.lm] 40) = W1 := ⟨_, rfl⟩
  have b1 : Below W.heap.size W W1 := by rw [← hW1]; exact (Below.refl _ W).alloc (Nat.le_refl _) _
  have hz1 : W1.heap.size = W.heap.size + 1 := by rw [← hW1]; simp
  have hbox : W1.heap[W.heap.size]? = some (.cells #[.int .i64 x.job, .int .i64 x.nd, .int .i64 x.lm] 40 (0, 0)) := by rw [← hW1]; exact heap_alloc_new W _
  have hM1 := hM.below b1
  have hrb1 := (b1.block rb (lt_of_blk hrb)).trans hrb
  have HM1 : Hid _ := hM1
  have HRB : Hid _ := hrb1
  have HBX : Hid _ := hbox
  have HB1 : Hid _ := b1
  have ml := meth_lets
  have ms := meth_started
  have mdl := meth_dlets
  have mds := meth_dstarted
  clear hM hrb hM1 hrb1 hbox b1
  go_enter Try.func42, Try.ntmps42
  go_wp2
  go_loopg [13] 1 (fun gk p wr => ∃ j : Nat, j + gk = 1 ∧ p = .int .i64 j ∧ Below W1.heap.size W1 wr)
  case atStart => exact ⟨0, by omega, rfl, Below.refl _ _⟩
  case round =>
    obtain ⟨j, hj, rfl, hb⟩ := hrel
    obtain rfl | rfl : j = 0 ∨ j = 1 := by omega
    · have c0 : wr.cell? ⟨rb, 0, none⟩ = some (.iface 75 (.pointer (some ⟨r, 0, none⟩))) := cells_at ((hb.block _ (lt_of_blk HRB.out)).trans HRB.out) rfl
      have c1 : wr.cell? ⟨r, 0, none⟩ = some (.int .i64 s.fr) := cells_at ((hb.block _ (lt_of_blk HM1.out.room)).trans HM1.out.room) rfl
      have hbx := (hb.block _ (lt_of_blk HBX.out)).trans HBX.out
      have k0 : wr.cell? ⟨W.heap.size, 0, none⟩ = some (.int .i64 x.job) := cells_at hbx rfl
      have k1 : wr.cell? ⟨W.heap.size, 1, none⟩ = some (.int .i64 x.nd) := cells_at hbx rfl
      have k2 : wr.cell? ⟨W.heap.size, 2, none⟩ = some (.int .i64 x.lm) := cells_at hbx rfl
      clear hbx
      go_wp2_with (go_at_call 98; refine (lets_yes c1 hx).mono ?_; rintro e w' ⟨rfl, b2⟩)
      go_roundg 0
      case measure => omega
      case rel => exact ⟨1, by omega, rfl, hb.trans (b2.mono hb.size)⟩
    · go_wp2_with fail
      have HB : Hid _ := hb
      clear hb
      go_loopg [24] 1 (fun gk p w3 => ∃ j : Nat, j + gk = 1 ∧ p = .int .i64 j ∧ w3.heap[r]? = some (.cells #[.int .i64 (if j = 0 then s.fr else s.fr - x.nd)] 90 (0, 0)) ∧ Chg (fun i => i = r) W1 w3)
      case atStart => exact ⟨0, by omega, rfl, (HB.out.block _ (lt_of_blk HM1.out.room)).trans HM1.out.room, Chg.of_below HB.out _⟩
      case round =>
        obtain ⟨j, hj, rfl, hroom, hch⟩ := hrel
        obtain rfl | rfl : j = 0 ∨ j = 1 := by omega
        · rw [if_pos rfl] at hroom
          have c0 : wr.cell? ⟨rb, 0, none⟩ = some (.iface 75 (.pointer (some ⟨r, 0, none⟩))) := hch.cell (cells_at HRB.out rfl) (tag_ne HRB.out HM1.out.room (by decide))
          have k0 : wr.cell? ⟨W.heap.size, 0, none⟩ = some (.int .i64 x.job) := hch.cell (cells_at HBX.out rfl) (tag_ne HBX.out HM1.out.room (by decide))
          have k1 : wr.cell? ⟨W.heap.size, 1, none⟩ = some (.int .i64 x.nd) := hch.cell (cells_at HBX.out rfl) (tag_ne HBX.out HM1.out.room (by decide))
          have k2 : wr.cell? ⟨W.heap.size, 2, none⟩ = some (.int .i64 x.lm) := hch.cell (cells_at HBX.out rfl) (tag_ne HBX.out HM1.out.room (by decide))
          have HCH : Hid _ := hch
          clear hch
          go_wp2_with (go_at_call 99; refine (started_at hroom (by omega) (by omega) (by omega) x2).mono ?_; rintro e w' ⟨rfl, hr2, ch2⟩)
          go_roundg 0
          case measure => omega
          case rel => exact ⟨1, by omega, rfl, hr2, HCH.out.trans ch2 (fun _ _ e => e)⟩
        · rw [if_neg (by decide)] at hroom
          have e0 : ¬ (fun i => i = r) W.heap.size := (tag_ne HBX.out HM1.out.room (by decide))
          have blkb := (hch.block _ (lt_of_blk HBX.out) e0).trans HBX.out
          have hM2 : Mc B m r vr ao c vs now ⟨s.fr - x.nd, s.rs, s.st⟩ h l wr := by
            refine ⟨(hch.block m (lt_of_blk HM1.out.blk) (tag_ne HM1.out.blk HM1.out.room (by decide))).trans HM1.out.blk, hroom, ?_, ?_, ?_, HM1.out.lo⟩
            · exact row_keep HM1.out.runs (fun k e => by obtain ⟨_, cs, hk⟩ := row_tag HM1.out.runs e; exact hch.block k (lt_of_blk hk) (tag_ne hk HM1.out.room (by decide)))
            · exact row_keep HM1.out.starts (fun k e => by obtain ⟨_, cs, hk⟩ := row_tag HM1.out.starts e; exact hch.block k (lt_of_blk hk) (tag_ne hk HM1.out.room (by decide)))
            · exact HM1.out.wait.keep (fun g cs hk => hch.block g (lt_of_blk hk) (tag_ne hk HM1.out.room (by decide)))
          have hC2 : Chg (KM B m r W) W wr := (Chg.of_below HB1.out _).trans hch (fun i _ e => .inr (.inl e))
          have hszr := hC2.size
          have k1 : wr.cell? ⟨W.heap.size, 1, none⟩ = some (.int .i64 x.nd) := cells_at blkb rfl
          have k2 : wr.cell? ⟨W.heap.size, 2, none⟩ = some (.int .i64 x.lm) := cells_at blkb rfl
          obtain ⟨⟨m0, _, m2, _⟩, _⟩ := hM2.cells
          obtain ⟨i0, hi0, hz0, hzz1, hz2⟩ := info_parts Try.inf45
          have rrow : wr.ownsRow B 45 2 vr s.rs.length (flatR s.rs) := hM2.runs
          have hbz : W.heap.size < wr.heap.size := lt_of_blk blkb
          have hmz : m < wr.heap.size := lt_of_blk hM2.blk
          have ag1 : vr.ownBlock ≠ some m := fun e => by obtain ⟨_, cs, hk⟩ := row_tag rrow e; exact tag_ne hk hM2.blk (by decide) rfl
          have ag2 : vr.ownBlock ≠ some W.heap.size := fun e => by obtain ⟨_, cs, hk⟩ := row_tag rrow e; exact tag_ne hk blkb (by decide) rfl
          have HM2 : Hid _ := hM2
          have HC2 : Hid _ := hC2
          have HBB : Hid _ := blkb
          have hwr : IntKind.i64.wrap (now + x.lm) = now + x.lm := by rw [IntKind.wrap_i64]; omega
          clear hch blkb hroom ml ms mdl mds HRB HBX HB1 HB hM2 hC2 hW1 
          go_upto_region 12 with fail
          go_cut [] (fun wc => ∃ vr', Mc B m r vr' ao c vs now ⟨s.fr - x.nd, s.rs ++ [rOf now x], s.st⟩ h l wc ∧ Chg (KM B m r W) W wc ∧ wc.heap[W.heap.size]? = some (.cells #[.int .i64 x.job, .int .i64 x.nd, .int .i64 x.lm] 40 (0, 0)))
          case first =>
            refine wp_region_last (S := fun x' => x'.cell? ⟨W.heap.size, 1, none⟩ = some (.int .i64 x.nd) ∧ x'.cell? ⟨m, 0, none⟩ = some (.int .i64 now) ∧ x'.cell? ⟨W.heap.size, 2, none⟩ = some (.int .i64 x.lm) ∧ x'.cell? ⟨m, 2, none⟩ = some vr) (L := 19) (by kernel_rfl) ?_
            have HS0 : (fun x' : World => x'.cell? ⟨W.heap.size, 1, none⟩ = some (.int .i64 x.nd) ∧ x'.cell? ⟨m, 0, none⟩ = some (.int .i64 now) ∧ x'.cell? ⟨W.heap.size, 2, none⟩ = some (.int .i64 x.lm) ∧ x'.cell? ⟨m, 2, none⟩ = some vr) wr.drew := ⟨k1, m0, k2, m2⟩
            refine last_take (i := 0) (v := ?v0) rfl (by kernel_rfl) (by kernel_rfl) (by kernel_rfl) (by kernel_rfl) rfl (fun _ _ _ h => h) (by rfl) HS0 ?hy0 ?rest0
            case hy0 =>
              intro xx hSx
              obtain ⟨s1, s2, s3, s4⟩ := hSx
              go_simp
              try (with_reducible rfl)
            simp only [Act.put, List.setIfInBounds_toArray, List.set_cons_zero, List.set_cons_succ]
            refine last_take (i := 1) (v := ?v1) rfl (by kernel_rfl) (by kernel_rfl) (by kernel_rfl) (by kernel_rfl) rfl (fun _ _ _ h => h) (by rfl) HS0 ?hy1 ?rest1
            case hy1 =>
              intro xx hSx
              obtain ⟨s1, s2, s3, s4⟩ := hSx
              go_simp
              try (with_reducible rfl)
            simp only [Act.put, List.setIfInBounds_toArray, List.set_cons_zero, List.set_cons_succ]
            refine last_take (i := 2) (v := ?v2) rfl (by kernel_rfl) (by kernel_rfl) (by kernel_rfl) (by kernel_rfl) rfl (fun _ _ _ h => h) (by rfl) HS0 ?hy2 ?rest2
            case hy2 =>
              intro xx hSx
              obtain ⟨s1, s2, s3, s4⟩ := hSx
              go_simp
              try (with_reducible rfl)
            simp only [Act.put, List.setIfInBounds_toArray, List.set_cons_zero, List.set_cons_succ]
            refine last_take (i := 3) (v := ?v3) rfl (by kernel_rfl) (by kernel_rfl) (by kernel_rfl) (by kernel_rfl) rfl (fun _ _ _ h => h) (by rfl) HS0 ?hy3 ?rest3
            case hy3 =>
              intro xx hSx
              obtain ⟨s1, s2, s3, s4⟩ := hSx
              go_simp
              try (with_reducible rfl)
            simp only [Act.put, List.setIfInBounds_toArray, List.set_cons_zero, List.set_cons_succ]
            refine last_take (i := 4) (v := ?v4) rfl (by kernel_rfl) (by kernel_rfl) (by kernel_rfl) (by kernel_rfl) rfl (fun _ _ _ h => h) (by rfl) HS0 ?hy4 ?rest4
            case hy4 =>
              intro xx hSx
              obtain ⟨s1, s2, s3, s4⟩ := hSx
              go_simp
              try (with_reducible rfl)
            simp only [Act.put, List.setIfInBounds_toArray, List.set_cons_zero, List.set_cons_succ]
            refine last_take (i := 5) (v := ?v5) rfl (by kernel_rfl) (by kernel_rfl) (by kernel_rfl) (by kernel_rfl) rfl (fun _ _ _ h => h) (by rfl) HS0 ?hy5 ?rest5
            case hy5 =>
              intro xx hSx
              obtain ⟨s1, s2, s3, s4⟩ := hSx
              go_simp
              try (with_reducible rfl)
            simp only [Act.put, List.setIfInBounds_toArray, List.set_cons_zero, List.set_cons_succ]
            refine last_take (i := 6) (v := ?v6) rfl (by kernel_rfl) (by kernel_rfl) (by kernel_rfl) (by kernel_rfl) rfl (fun _ _ _ h => h) (by rfl) HS0 ?hy6 ?rest6
            case hy6 =>
              intro xx hSx
              obtain ⟨s1, s2, s3, s4⟩ := hSx
              go_simp
              try (with_reducible rfl)
            simp only [Act.put, List.setIfInBounds_toArray, List.set_cons_zero, List.set_cons_succ]
            refine last_take (i := 7) (v := ?v7) rfl (by kernel_rfl) (by kernel_rfl) (by kernel_rfl) (by kernel_rfl) rfl (fun _ _ _ h => h) (by rfl) HS0 ?hy7 ?rest7
            case hy7 =>
              intro xx hSx
              obtain ⟨s1, s2, s3, s4⟩ := hSx
              go_simp
              try (with_reducible rfl)
            simp only [Act.put, List.setIfInBounds_toArray, List.set_cons_zero, List.set_cons_succ]
            refine last_take (i := 8) (v := ?v8) rfl (by kernel_rfl) (by kernel_rfl) (by kernel_rfl) (by kernel_rfl) rfl (fun _ _ _ h => h) (by rfl) HS0 ?hy8 ?rest8
            case hy8 =>
              intro xx hSx
              obtain ⟨s1, s2, s3, s4⟩ := hSx
              go_simp
              try (with_reducible rfl)
            simp only [Act.put, List.setIfInBounds_toArray, List.set_cons_zero, List.set_cons_succ]
            refine last_take (i := 9) (v := ?v9) rfl (by kernel_rfl) (by kernel_rfl) (by kernel_rfl) (by kernel_rfl) rfl (fun _ _ _ h => h) (by rfl) HS0 ?hy9 ?rest9
            case hy9 =>
              intro xx hSx
              obtain ⟨s1, s2, s3, s4⟩ := hSx
              go_simp
              try (with_reducible rfl)
            simp only [Act.put, List.setIfInBounds_toArray, List.set_cons_zero, List.set_cons_succ]
            refine last_take (i := 10) (v := ?v10) rfl (by kernel_rfl) (by kernel_rfl) (by kernel_rfl) (by kernel_rfl) rfl (fun _ _ _ h => h) (by rfl) HS0 ?hy10 ?rest10
            case hy10 =>
              intro xx hSx
              obtain ⟨s1, s2, s3, s4⟩ := hSx
              go_simp
              try (with_reducible rfl)
            simp only [Act.put, List.setIfInBounds_toArray, List.set_cons_zero, List.set_cons_succ]
            refine last_take (i := 11) (v := ?v11) rfl (by kernel_rfl) (by kernel_rfl) (by kernel_rfl) (by kernel_rfl) rfl (fun _ _ _ h => h) (by rfl) HS0 ?hy11 ?rest11
            case hy11 =>
              intro xx hSx
              obtain ⟨s1, s2, s3, s4⟩ := hSx
              go_simp
              try (with_reducible rfl)
            simp only [Act.put, List.setIfInBounds_toArray, List.set_cons_zero, List.set_cons_succ]
            refine last_take (i := 12) (v := ?v12) rfl (by kernel_rfl) (by kernel_rfl) (by kernel_rfl) (by kernel_rfl) rfl (fun _ _ _ h => h) (by rfl) HS0 ?hy12 ?rest12
            case hy12 =>
              intro xx hSx
              obtain ⟨s1, s2, s3, s4⟩ := hSx
              go_simp
              try (with_reducible rfl)
            simp only [Act.put, List.setIfInBounds_toArray, List.set_cons_zero, List.set_cons_succ]
            refine last_take (i := 13) (v := ?v13) rfl (by kernel_rfl) (by kernel_rfl) (by kernel_rfl) (by kernel_rfl) rfl (fun _ _ _ h => h) (by rfl) HS0 ?hy13 ?rest13
            case hy13 =>
              intro xx hSx
              obtain ⟨s1, s2, s3, s4⟩ := hSx
              go_simp
              try (with_reducible rfl)
            simp only [Act.put, List.setIfInBounds_toArray, List.set_cons_zero, List.set_cons_succ]
            refine last_take (i := 14) (v := ?v14) rfl (by kernel_rfl) (by kernel_rfl) (by kernel_rfl) (by kernel_rfl) rfl (fun _ _ _ h => h) (by rfl) HS0 ?hy14 ?rest14
            case hy14 =>
              intro xx hSx
              obtain ⟨s1, s2, s3, s4⟩ := hSx
              go_simp
              try (with_reducible rfl)
            simp only [Act.put, List.setIfInBounds_toArray, List.set_cons_zero, List.set_cons_succ]
            refine last_one (i := 15) (by kernel_rfl) rfl ?_
            intro K1 hK1
            go_simp
            have HS1 : (fun x' : World => x'.cell? ⟨W.heap.size, 1, none⟩ = some (.int .i64 x.nd) ∧ x'.cell? ⟨m, 0, none⟩ = some (.int .i64 now) ∧ x'.cell? ⟨W.heap.size, 2, none⟩ = some (.int .i64 x.lm) ∧ x'.cell? ⟨m, 2, none⟩ = some vr) (wr.drew.alloc (.cells #[.int .i64 x.nd, .int .i64 (now + x.lm)] 45)) := ⟨cell_al k1 _, cell_al m0 _, cell_al k2 _, cell_al m2 _⟩
            refine hK1.out _ _ (fun _ => HS1) (fun _ => ?_)
            clear hK1 K1
            refine last_one (i := 16) (by kernel_rfl) rfl ?_
            intro K2 hK2
            refine step_append_lies _ (by rfl) _ _ _ (by rfl) B 45 i0 _ 2 16 Try.underlying23 hi0 hz0 hzz1 hz2 rfl (by omega) vr s.rs.length (flatR s.rs) (by rfl) (World.ownsRow.alloc (w := wr.drew) rrow _) ⟨wr.heap.size, 0, none⟩ 1 1 [.int .i64 x.nd, .int .i64 (now + x.lm)] (by rfl) (by rfl) (World.news_of_block (cs := #[.int .i64 x.nd, .int .i64 (now + x.lm)]) (t := 45) (fr := (0, 0)) (heap_alloc_new wr.drew _)) (by simp [Value.oneCell']) (by omega) (Nat.le_trans (m := 35184372088832) (by omega) (by decide)) (by omega) (by simp; omega) (wr.heap.size + 1) (by simp) ?_
            intro gg cap w1 hown1 hgrow hat hlt
            obtain ⟨z1, z2, z3, z4⟩ := HM2.out.run (x := rOf now x) hown1 hgrow
            have HS2 : (fun x' : World => x'.cell? ⟨W.heap.size, 1, none⟩ = some (.int .i64 x.nd) ∧ x'.cell? ⟨m, 0, none⟩ = some (.int .i64 now) ∧ x'.cell? ⟨W.heap.size, 2, none⟩ = some (.int .i64 x.lm) ∧ x'.cell? ⟨m, 2, none⟩ = some vr) w1 := ⟨(hgrow.cell_far _ (by simp; omega) (Ne.symm ag2)).trans HS1.1, (hgrow.cell_far _ (by simp; omega) (Ne.symm ag1)).trans HS1.2.1, (hgrow.cell_far _ (by simp; omega) (Ne.symm ag2)).trans HS1.2.2.1, z3⟩
            have hbk : w1.heap[W.heap.size]? = some (.cells #[.int .i64 x.job, .int .i64 x.nd, .int .i64 x.lm] 40 (0, 0)) := by
              have e1 : (wr.drew.alloc (.cells #[.int .i64 x.nd, .int .i64 (now + x.lm)] 45)).heap[W.heap.size]? = wr.heap[W.heap.size]? := Below.heap_alloc _ _ _ hbz
              exact (hgrow.block _ (lt_of_blk (e1.trans HBB.out)) (Ne.symm ag2)).trans (e1.trans HBB.out)
            have HK : Hid _ := hbk
            have Z1 : Hid _ := z1
            have Z2 : Hid _ := z2
            refine hK2.out _ _ (fun _ => HS2) (fun _ => ?_)
            clear hK2 K2 hbk z1 z2 hown1 hgrow hat HS1 HS0 
            refine last_one (i := 17) (by kernel_rfl) rfl ?_
            intro K9 hK9
            go_simp
            refine hK9.out _ _ (fun _ => HS2) (fun _ => ?_)
            clear hK9 K9
            refine last_one (i := 18) (by kernel_rfl) rfl ?_
            intro K9 hK9
            go_simp
            refine hK9.out _ _ (fun _ => HS2) (fun _ => ?_)
            clear hK9 K9
            refine last_one (i := 19) (by kernel_rfl) rfl ?_
            intro K3 hK3
            go_simp
            refine hK3.out _ _ (fun h => absurd rfl h) (fun _ => ?_)
            clear hK3 K3
            refine last_done (by kernel_rfl) ?_ _
            go_wp2
            go_meet
            have hmb : m ≠ W.heap.size := tag_ne HM2.out.blk HBB.out (by decide)
            exact ⟨_, Z1.out, KM.trans HC2.out Z2.out, (Below.heap_setCell _ _ _ _ (Ne.symm hmb)).trans HK.out⟩
          case rest =>
            clear HM2 HC2 HBB rrow m0 m2 k1 k2 ag1 ag2 hwr i0 hi0 hz0 hzz1 hz2 hmz hbz hszr 
            obtain ⟨vr', hM3, hC3, hb3⟩ := hcut
            obtain ⟨i0, hi0, hz0, hzz1, hz2⟩ := info_parts Try.infJ
            have k0 : wc.cell? ⟨W.heap.size, 0, none⟩ = some (.int .i64 x.job) := cells_at hb3 rfl
            obtain ⟨_, _, _, _, m7⟩ := hM3.cells
            have srow : wc.ownsRow B 3 1 vs s.st.length (jobsV s.st) := hM3.starts
            have hszr := hC3.size
            have hbz : W.heap.size < wc.heap.size := lt_of_blk hb3
            have hmz : m < wc.heap.size := lt_of_blk hM3.blk
            have ag1 : vs.ownBlock ≠ some m := fun e => by obtain ⟨_, cs, hk⟩ := row_tag srow e; exact tag_ne hk hM3.blk (by decide) rfl
            have ag2 : vs.ownBlock ≠ some W.heap.size := fun e => by obtain ⟨_, cs, hk⟩ := row_tag srow e; exact tag_ne hk hb3 (by decide) rfl
            have HM3 : Hid _ := hM3
            have HC3 : Hid _ := hC3
            clear hM3 hC3 hb3 
            go_upto_region 13 with fail
            go_cut [] (fun wd => ∃ vs', Mc B m r vr' ao c vs' now ⟨s.fr - x.nd, s.rs ++ [rOf now x], s.st ++ [x]⟩ h l wd ∧ Chg (KM B m r W) W wd)
            case first =>
              refine wp_region_last (S := fun x' => x'.cell? ⟨W.heap.size, 0, none⟩ = some (.int .i64 x.job) ∧ x'.cell? ⟨m, 7, none⟩ = some vs) (L := 11) (by kernel_rfl) ?_
              have HS0 : (fun x' : World => x'.cell? ⟨W.heap.size, 0, none⟩ = some (.int .i64 x.job) ∧ x'.cell? ⟨m, 7, none⟩ = some vs) wc.drew := ⟨k0, m7⟩
              refine last_take (i := 0) (v := ?v0b) rfl (by kernel_rfl) (by kernel_rfl) (by kernel_rfl) (by kernel_rfl) rfl (fun _ _ _ h => h) (by rfl) HS0 ?hy0b ?rest0b
              case hy0b =>
                intro xx hSx
                obtain ⟨s1, s2⟩ := hSx
                go_simp
                try (with_reducible rfl)
              simp only [Act.put, List.setIfInBounds_toArray, List.set_cons_zero, List.set_cons_succ]
              refine last_take (i := 1) (v := ?v1b) rfl (by kernel_rfl) (by kernel_rfl) (by kernel_rfl) (by kernel_rfl) rfl (fun _ _ _ h => h) (by rfl) HS0 ?hy1b ?rest1b
              case hy1b =>
                intro xx hSx
                obtain ⟨s1, s2⟩ := hSx
                go_simp
                try (with_reducible rfl)
              simp only [Act.put, List.setIfInBounds_toArray, List.set_cons_zero, List.set_cons_succ]
              refine last_take (i := 2) (v := ?v2b) rfl (by kernel_rfl) (by kernel_rfl) (by kernel_rfl) (by kernel_rfl) rfl (fun _ _ _ h => h) (by rfl) HS0 ?hy2b ?rest2b
              case hy2b =>
                intro xx hSx
                obtain ⟨s1, s2⟩ := hSx
                go_simp
                try (with_reducible rfl)
              simp only [Act.put, List.setIfInBounds_toArray, List.set_cons_zero, List.set_cons_succ]
              refine last_take (i := 3) (v := ?v3b) rfl (by kernel_rfl) (by kernel_rfl) (by kernel_rfl) (by kernel_rfl) rfl (fun _ _ _ h => h) (by rfl) HS0 ?hy3b ?rest3b
              case hy3b =>
                intro xx hSx
                obtain ⟨s1, s2⟩ := hSx
                go_simp
                try (with_reducible rfl)
              simp only [Act.put, List.setIfInBounds_toArray, List.set_cons_zero, List.set_cons_succ]
              refine last_take (i := 4) (v := ?v4b) rfl (by kernel_rfl) (by kernel_rfl) (by kernel_rfl) (by kernel_rfl) rfl (fun _ _ _ h => h) (by rfl) HS0 ?hy4b ?rest4b
              case hy4b =>
                intro xx hSx
                obtain ⟨s1, s2⟩ := hSx
                go_simp
                try (with_reducible rfl)
              simp only [Act.put, List.setIfInBounds_toArray, List.set_cons_zero, List.set_cons_succ]
              refine last_take (i := 5) (v := ?v5b) rfl (by kernel_rfl) (by kernel_rfl) (by kernel_rfl) (by kernel_rfl) rfl (fun _ _ _ h => h) (by rfl) HS0 ?hy5b ?rest5b
              case hy5b =>
                intro xx hSx
                obtain ⟨s1, s2⟩ := hSx
                go_simp
                try (with_reducible rfl)
              simp only [Act.put, List.setIfInBounds_toArray, List.set_cons_zero, List.set_cons_succ]
              refine last_take (i := 6) (v := ?v6b) rfl (by kernel_rfl) (by kernel_rfl) (by kernel_rfl) (by kernel_rfl) rfl (fun _ _ _ h => h) (by rfl) HS0 ?hy6b ?rest6b
              case hy6b =>
                intro xx hSx
                obtain ⟨s1, s2⟩ := hSx
                go_simp
                try (with_reducible rfl)
              simp only [Act.put, List.setIfInBounds_toArray, List.set_cons_zero, List.set_cons_succ]
              refine last_one (i := 7) (by kernel_rfl) rfl ?_
              intro K1 hK1
              go_simp
              have HS1 : (fun x' : World => x'.cell? ⟨W.heap.size, 0, none⟩ = some (.int .i64 x.job) ∧ x'.cell? ⟨m, 7, none⟩ = some vs) (wc.drew.alloc (.cells #[.int .i64 x.job] 3)) := ⟨cell_al k0 _, cell_al m7 _⟩
              refine hK1.out _ _ (fun _ => HS1) (fun _ => ?_)
              clear hK1 K1
              refine last_one (i := 8) (by kernel_rfl) rfl ?_
              intro K2 hK2
              refine step_append_lies _ (by rfl) _ _ _ (by rfl) B 3 i0 _ 1 8 Try.underlying28 hi0 hz0 hzz1 hz2 rfl (by omega) vs s.st.length (jobsV s.st) (by rfl) (World.ownsRow.alloc (w := wc.drew) srow _) ⟨wc.heap.size, 0, none⟩ 1 1 [.int .i64 x.job] (by rfl) (by rfl) (World.news_of_block (cs := #[.int .i64 x.job]) (t := 3) (fr := (0, 0)) (heap_alloc_new wc.drew _)) (by simp [Value.oneCell']) (by omega) (Nat.le_trans (m := 35184372088832) (by omega) (by decide)) (by omega) (by simp; omega) (wc.heap.size + 1) (by simp) ?_
              intro gg cap w1 hown1 hgrow hat hlt
              obtain ⟨z1, z2, z3, z4⟩ := HM3.out.told (x := x) hown1 hgrow
              have HS2 : (fun x' : World => x'.cell? ⟨W.heap.size, 0, none⟩ = some (.int .i64 x.job) ∧ x'.cell? ⟨m, 7, none⟩ = some vs) w1 := ⟨(hgrow.cell_far _ (by simp; omega) (Ne.symm ag2)).trans HS1.1, z3⟩
              have Z1 : Hid _ := z1
              have Z2 : Hid _ := z2
              refine hK2.out _ _ (fun _ => HS2) (fun _ => ?_)
              clear hK2 K2 z1 z2 hown1 hgrow hat HS1 HS0
              refine last_one (i := 9) (by kernel_rfl) rfl ?_
              intro K9 hK9
              go_simp
              refine hK9.out _ _ (fun _ => HS2) (fun _ => ?_)
              clear hK9 K9
              refine last_one (i := 10) (by kernel_rfl) rfl ?_
              intro K9 hK9
              go_simp
              refine hK9.out _ _ (fun _ => HS2) (fun _ => ?_)
              clear hK9 K9
              refine last_one (i := 11) (by kernel_rfl) rfl ?_
              intro K3 hK3
              go_simp
              refine hK3.out _ _ (fun h => absurd rfl h) (fun _ => ?_)
              clear hK3 K3
              refine last_done (by kernel_rfl) ?_ _
              go_wp2
              go_meet
              exact ⟨_, Z1.out, KM.trans HC3.out Z2.out⟩
            case rest =>
              obtain ⟨vs', hM4, hC4⟩ := hcut
              have HM4 : Hid _ := hM4
              have HC4 : Hid _ := hC4
              clear hM4 hC4 srow m7 k0 HM3 HC3 
              go_wp2
              go_ret
              exact ⟨rfl, ⟨vr', vs', HM4.out⟩, HC4.out⟩

set_option maxRecDepth 20000 in
set_option maxHeartbeats 800000 in
theorem startByA_no0 {B m r rb c : Nat} {vr vs : Value} {ao : Option Addr} {now : Int} {s : Ps} {h : Wt} {l : List Wt} {W : World} {x : Wt} (hM : Mc B m r vr ao c vs now s h l W) (hrb : W.heap[rb]? = some (.cells #[.iface 75 (.pointer (some ⟨r, 0, none⟩))] 102 (0, 0)))
    (hnx : s.fr < x.nd)  :
    Calls Try.prog 42 #[.pointer (some ⟨m, 0, none⟩), .agg #[.int .i64 x.job, .int .i64 x.nd, .int .i64 x.lm], .slice (some ⟨rb, 0, none⟩) 1 1] W fun e W' =>
      e = .returned (.bool false) ∧ Below W.heap.size W W' := by
  obtain ⟨W1, hW1⟩ : ∃ W1, W.alloc (.cells #[.int .i64 x.job, .int .i64 x.nd, .int .i64 x.lm] 40) = W1 := ⟨_, rfl⟩
  have b1 : Below W.heap.size W W1 := by rw [← hW1]; exact (Below.refl _ W).alloc (Nat.le_refl _) _
  have hz1 : W1.heap.size = W.heap.size + 1 := by rw [← hW1]; simp
  have hbox : W1.heap[W.heap.size]? = some (.cells #[.int .i64 x.job, .int .i64 x.nd, .int .i64 x.lm] 40 (0, 0)) := by rw [← hW1]; exact heap_alloc_new W _
  have hM1 := hM.below b1
  have hrb1 := (b1.block rb (lt_of_blk hrb)).trans hrb
  have HM1 : Hid _ := hM1
  have HRB : Hid _ := hrb1
  have HBX : Hid _ := hbox
  have HB1 : Hid _ := b1
  have ml := meth_lets
  have ms := meth_started
  have mdl := meth_dlets
  have mds := meth_dstarted
  clear hM hrb hM1 hrb1 hbox b1
  go_enter Try.func42, Try.ntmps42
  go_wp2
  go_loopg [13] 1 (fun gk p wr => ∃ j : Nat, j + gk = 1 ∧ j ≤ 0 ∧ p = .int .i64 j ∧ Below W1.heap.size W1 wr)
  case atStart => exact ⟨0, by omega, by omega, rfl, Below.refl _ _⟩
  case round =>
    obtain ⟨j, hj, hj2, rfl, hb⟩ := hrel
    obtain rfl : j = 0 := by omega
    have c0 : wr.cell? ⟨rb, 0, none⟩ = some (.iface 75 (.pointer (some ⟨r, 0, none⟩))) := cells_at ((hb.block _ (lt_of_blk HRB.out)).trans HRB.out) rfl
    have c1 : wr.cell? ⟨r, 0, none⟩ = some (.int .i64 s.fr) := cells_at ((hb.block _ (lt_of_blk HM1.out.room)).trans HM1.out.room) rfl
    have hbx := (hb.block _ (lt_of_blk HBX.out)).trans HBX.out
    have k0 : wr.cell? ⟨W.heap.size, 0, none⟩ = some (.int .i64 x.job) := cells_at hbx rfl
    have k1 : wr.cell? ⟨W.heap.size, 1, none⟩ = some (.int .i64 x.nd) := cells_at hbx rfl
    have k2 : wr.cell? ⟨W.heap.size, 2, none⟩ = some (.int .i64 x.lm) := cells_at hbx rfl
    clear hbx
    go_wp2_with (go_at_call 98; refine (lets_no c1 hnx).mono ?_; rintro e w' ⟨rfl, b2⟩)
    go_ret
    exact ⟨rfl, HB1.out.trans ((hb.trans (b2.mono hb.size)).mono HB1.out.size)⟩
end Go.Proofs.Ytdkibcagbidelaa
