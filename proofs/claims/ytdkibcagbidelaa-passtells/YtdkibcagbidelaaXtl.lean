/-
  THE STATEMENT PassTells: the walk.
  THE STATEMENT PassTells: from the walk to the row.
-/
import Derived.Test.YtdkibcagbidelaaXte
namespace Go.Proofs.Ytdkibcagbidelaa
open Go.RowKit Pr

/-- What a pass is asked of, as it came in. -/
structure Ak where
  now : Int
  free : Int
  wo : Option Addr
  ws : List Wt
  cw : Nat
  ho : Int
  ao : Option Addr
  rs : List Rn
  cr : Nat
structure AkOk (w : World) (x : Ak) : Prop where
  hW : WantsAt w x.wo x.ws
  hA : RunsAt w x.ao x.rs
  hnw : x.ws.length * 24 ≤ 140737488351232
  hn : x.rs.length * 16 ≤ 140737488351232
  hcw : x.ws.length ≤ x.cw
  hwn : x.wo = none → x.ws.length = 0 ∧ x.cw = 0
  han : x.ao = none → x.rs.length = 0 ∧ x.cr = 0
  hj : ∀ y ∈ x.ws, JobOk y
def Ak.PV (x : Ak) : Pln := passR x.now x.free x.ws x.ho x.rs
def Ak.PE (x : Ak) : Int := passE x.now x.free x.ws x.ho x.rs
theorem Ak.len (x : Ak) : x.PV.st.length ≤ 256 := by
  unfold Ak.PV passR
  cases h : chkB x.now x.free x.ws x.ho x.rs with
  | false => exact Nat.zero_le _
  | true =>
    obtain ⟨st, Y, hwh⟩ := pass_whole (chk_iff.1 h)
    show (passV x.now x.free x.ws x.ho x.rs).st.length ≤ 256
    rw [hwh.sts, List.length_map]
    exact hwh.len
theorem Ak.asked {w W : World} {x : Ak} (h : AkOk w x) (hb : Below w.heap.size w W) :
    Calls Try.prog 9 #[.agg #[.int .i64 x.now, .int .i64 x.free, .slice x.wo x.ws.length x.cw, .int .i64 x.ho, .slice x.ao x.rs.length x.cr]] W fun e w' =>
      ∃ v, e = .returned (.tuple #[.agg #[v, .int .i64 x.PV.ho, .int .i64 x.PV.sh, .int .i64 x.PV.ex], .int .i64 x.PE, .bool true]) ∧ w'.ownsRow W.heap.size 3 1 v x.PV.st.length (intsV x.PV.st) ∧ Below W.heap.size W w' :=
  asked_any (h.hA.below hb) h.hn (h.hW.below hb) h.hnw h.hwn h.han h.hj x.now x.free x.ho
theorem Ak.refs {w W : World} {x : Ak} (h : AkOk w x) (hb : Below w.heap.size w W) :
    Calls Try.prog 10 #[.int .i64 x.now, .int .i64 x.free, .slice x.wo x.ws.length x.cw, .int .i64 x.ho, .slice x.ao x.rs.length x.cr] W fun e w' =>
      ∃ v, e = .returned (.tuple #[.agg #[v, .int .i64 x.PV.ho, .int .i64 x.PV.sh, .int .i64 x.PV.ex], .int .i64 x.PE]) ∧ w'.ownsRow W.heap.size 3 1 v x.PV.st.length (intsV x.PV.st) ∧ Below W.heap.size W w' := by
  have h1 := h.hnw
  have h2 := h.hn
  exact rpass_any (h.hA.below hb) (by omega) (h.hW.below hb) (by omega) h.hcw h.hwn h.han x.now x.free x.ho
theorem set5 {W : World} {b : Nat} {a0 a1 a2 a3 a4 v0 v1 v2 v3 v4 : Value} (h : W.heap[b]? = some (.cells #[a0, a1, a2, a3, a4] 25 (0, 0))) :
    (((((W.setCell ⟨b, 0, none⟩ v0).setCell ⟨b, 1, none⟩ v1).setCell ⟨b, 2, none⟩ v2).setCell ⟨b, 3, none⟩ v3).setCell ⟨b, 4, none⟩ v4).heap[b]? = some (.cells #[v0, v1, v2, v3, v4] 25 (0, 0)) :=
  heap_setCell_same _ b 4 _ 25 v4 (heap_setCell_same _ b 3 _ 25 v3 (heap_setCell_same _ b 2 _ 25 v2 (heap_setCell_same _ b 1 _ 25 v1 (heap_setCell_same W b 0 _ 25 v0 h))))
theorem below5 {B : Nat} {w W : World} {b : Nat} {v0 v1 v2 v3 v4 : Value} (h : Below B w W) (hb : B ≤ b) : Below B w (((((W.setCell ⟨b, 0, none⟩ v0).setCell ⟨b, 1, none⟩ v1).setCell ⟨b, 2, none⟩ v2).setCell ⟨b, 3, none⟩ v3).setCell ⟨b, 4, none⟩ v4) :=
  ((((h.setCell (p := ⟨b, 0, none⟩) hb v0).setCell (p := ⟨b, 1, none⟩) hb v1).setCell (p := ⟨b, 2, none⟩) hb v2).setCell (p := ⟨b, 3, none⟩) hb v3).setCell (p := ⟨b, 4, none⟩) hb v4
theorem Try.inf28 : (Try.prog.info? 28).map (fun i => (i.zero, i.size, i.bytes)) = some (some (.slice none 0 0), 1, 24) := by kernel_rfl
theorem Md.below {B i n : Nat} {LL : Nat → List Int} {v5 v6 u : Value} {O C xs : List Value} {W W' : World} (h : Md B LL i v5 v6 O C u n xs W) (hb : Below W.heap.size W W') : Md B LL i v5 v6 O C u n xs W' := ⟨h.tl.below hb, h.at_, rowB hb h.row, h.ap⟩
/-- Which list belongs to which round. -/
def lists (a b : Ak) (k : Nat) : List Int := if k = 1 then b.PV.st else a.PV.st
theorem lists_len (a b : Ak) (k : Nat) : (lists a b k).length ≤ 256 := by
  unfold lists
  split
  · exact b.len
  · exact a.len
set_option maxRecDepth 20000 in
set_option maxHeartbeats 8000000 in
theorem tells_walk {w : World} {a b : Ak} (ha : AkOk w a) (hb : AkOk w b) :
    Calls Try.prog 3 #[.agg #[.int .i64 a.now, .int .i64 a.free, .slice a.wo a.ws.length a.cw, .int .i64 a.ho, .slice a.ao a.rs.length a.cr], .agg #[.int .i64 b.now, .int .i64 b.free, .slice b.wo b.ws.length b.cw, .int .i64 b.ho, .slice b.ao b.rs.length b.cr]] w fun e w' => e = .returned (.bool true) ∧ Below w.heap.size w w' := by
  obtain ⟨za, hza⟩ : ∃ za, w.heap.size = za := ⟨_, rfl⟩
  obtain ⟨W1, hW1⟩ : ∃ W1, (w.alloc (.cells #[.int .i64 a.now, .int .i64 a.free, .slice a.wo a.ws.length a.cw, .int .i64 a.ho, .slice a.ao a.rs.length a.cr] 25)).alloc (.cells #[.int .i64 b.now, .int .i64 b.free, .slice b.wo b.ws.length b.cw, .int .i64 b.ho, .slice b.ao b.rs.length b.cr] 25) = W1 := ⟨_, rfl⟩
  have b1 : Below w.heap.size w W1 := by rw [← hW1]; exact ((Below.refl _ w).alloc (Nat.le_refl _) _).alloc (by simp) _
  have ka : W1.heap[za]? = some (.cells #[.int .i64 a.now, .int .i64 a.free, .slice a.wo a.ws.length a.cw, .int .i64 a.ho, .slice a.ao a.rs.length a.cr] 25 (0, 0)) := by
    rw [← hW1, ← hza]
    exact (Below.heap_alloc _ _ _ (by simp)).trans (heap_alloc_new w _)
  have kb : W1.heap[za + 1]? = some (.cells #[.int .i64 b.now, .int .i64 b.free, .slice b.wo b.ws.length b.cw, .int .i64 b.ho, .slice b.ao b.rs.length b.cr] 25 (0, 0)) := by
    rw [← hW1, ← hza]
    have := heap_alloc_new (w.alloc (.cells #[.int .i64 a.now, .int .i64 a.free, .slice a.wo a.ws.length a.cw, .int .i64 a.ho, .slice a.ao a.rs.length a.cr] 25)) (.cells #[.int .i64 b.now, .int .i64 b.free, .slice b.wo b.ws.length b.cw, .int .i64 b.ho, .slice b.ao b.rs.length b.cr] 25)
    rwa [World.size_alloc] at this
  have HKA : Hid _ := ka
  have HKB : Hid _ := kb
  have HB1 : Hid (Below w.heap.size w W1) := b1
  have HOA : Hid (AkOk w a) := ha
  have HOB : Hid (AkOk w b) := hb
  clear ka kb b1 ha hb
  go_enter Try.func3, Try.ntmps3
  go_upto_region 3 with (go_at_call 8; refine (shown_any _).mono ?_; rintro e w2 ⟨rfl, b2⟩)
  obtain ⟨zo, hzo⟩ : ∃ zo, w2.heap.size = zo := ⟨_, rfl⟩
  obtain ⟨W3, hW3⟩ : ∃ W3, (w2.alloc (.cells #[] 28)).alloc (.cells #[] 28) = W3 := ⟨_, rfl⟩
  have b3 : Below w2.heap.size w2 W3 := by rw [← hW3]; exact ((Below.refl _ w2).alloc (Nat.le_refl _) _).alloc (by simp) _
  have B2 : Below w.heap.size w w2 := HB1.out.trans (b2.mono HB1.out.size)
  have HK3 : Hid (W3.heap[za]? = some (.cells #[.int .i64 a.now, .int .i64 a.free, .slice a.wo a.ws.length a.cw, .int .i64 a.ho, .slice a.ao a.rs.length a.cr] 25 (0, 0)) ∧ W3.heap[za + 1]? = some (.cells #[.int .i64 b.now, .int .i64 b.free, .slice b.wo b.ws.length b.cw, .int .i64 b.ho, .slice b.ao b.rs.length b.cr] 25 (0, 0))) := ⟨bk b3 (bk b2 HKA.out), bk b3 (bk b2 HKB.out)⟩
  have HB3 : Hid (Below w.heap.size w W3) := B2.trans (b3.mono B2.size)
  have HT3 : Hid (Tl w.heap.size (lists a b) 0 0 0 (.slice (some ⟨zo, 0, none⟩) 0 0) (.slice (some ⟨zo + 1, 0, none⟩) 0 0) [] [] W3) := by
    refine ⟨?_, ?_, fun k h1 h2 => ?_, fun j v _ h => by simp at h, fun j v _ h => by simp at h, fun j k u v _ _ _ h => by simp at h, fun j k u v _ _ h => by simp at h⟩
    · rw [← hW3, ← hzo]
      exact own_base ((made0 w2 28 1).alloc _) B2.size
    · rw [← hW3, ← hzo]
      have := made0 (w2.alloc (.cells #[] 28)) 28 1
      rw [World.size_alloc] at this
      exact own_base this (Nat.le_trans B2.size (Nat.le_succ _))
    · have e1 : zo = k := Option.some.inj h1
      have e2 : zo + 1 = k := Option.some.inj h2
      omega
  clear b2 b3 B2 HKA HKB HB1 hW1
  go_upto_region 5 with fail
  clear hW3 hzo
  go_wp2
  go_loopg [5, 6, 7] 3 (fun gk p5 p6 p7 wr => ∃ (k : Nat) (v5 v6 : Value) (O C : List Value), k + gk = 3 ∧ v5 = p5 ∧ v6 = p6 ∧ p7 = .int .i64 k ∧ Tl w.heap.size (lists a b) 0 k k v5 v6 O C wr ∧ Below w.heap.size w wr ∧ wr.heap[za]? = some (.cells #[.int .i64 a.now, .int .i64 a.free, .slice a.wo a.ws.length a.cw, .int .i64 a.ho, .slice a.ao a.rs.length a.cr] 25 (0, 0)) ∧ wr.heap[za + 1]? = some (.cells #[.int .i64 b.now, .int .i64 b.free, .slice b.wo b.ws.length b.cw, .int .i64 b.ho, .slice b.ao b.rs.length b.cr] 25 (0, 0)))
  case atStart => exact ⟨0, _, _, [], [], by omega, rfl, rfl, rfl, HT3.out, HB3.out, HK3.out.1, HK3.out.2⟩
  case round =>
    obtain ⟨k, v5, v6, O, C, hkg, rfl, rfl, rfl, htl, hbe, hka, hkb⟩ := hrel
    clear HT3 HB3 HK3
    have HTL : Hid (Tl w.heap.size (lists a b) 0 k k v5 v6 O C wr) := htl
    have HBE : Hid (Below w.heap.size w wr) := hbe
    have HKA : Hid (wr.heap[za]? = some (.cells #[.int .i64 a.now, .int .i64 a.free, .slice a.wo a.ws.length a.cw, .int .i64 a.ho, .slice a.ao a.rs.length a.cr] 25 (0, 0))) := hka
    have HKB : Hid (wr.heap[za + 1]? = some (.cells #[.int .i64 b.now, .int .i64 b.free, .slice b.wo b.ws.length b.cw, .int .i64 b.ho, .slice b.ao b.rs.length b.cr] 25 (0, 0))) := hkb
    by_cases hlt : k < 3
    · have c0 := cells_at hka (k := 0) rfl
      have c1 := cells_at hka (k := 1) rfl
      have c2 := cells_at hka (k := 2) rfl
      have c3 := cells_at hka (k := 3) rfl
      have c4 := cells_at hka (k := 4) rfl
      clear htl hbe hka hkb
      obtain ⟨z8, hz8⟩ : ∃ z8, wr.heap.size = z8 := ⟨_, rfl⟩
      obtain ⟨W4, hW4⟩ : ∃ W4, wr.alloc (.cells #[.int .i64 a.now, .int .i64 a.free, .slice a.wo a.ws.length a.cw, .int .i64 a.ho, .slice a.ao a.rs.length a.cr] 25) = W4 := ⟨_, rfl⟩
      have b4 : Below wr.heap.size wr W4 := by rw [← hW4]; exact (Below.refl _ wr).alloc (Nat.le_refl _) _
      have k8 : W4.heap[z8]? = some (.cells #[.int .i64 a.now, .int .i64 a.free, .slice a.wo a.ws.length a.cw, .int .i64 a.ho, .slice a.ao a.rs.length a.cr] 25 (0, 0)) := by rw [← hW4, ← hz8]; exact heap_alloc_new wr _
      have HB4 : Hid (Below wr.heap.size wr W4) := b4
      have HK8 : Hid (W4.heap[z8]? = some (.cells #[.int .i64 a.now, .int .i64 a.free, .slice a.wo a.ws.length a.cw, .int .i64 a.ho, .slice a.ao a.rs.length a.cr] 25 (0, 0))) := k8
      have hz8' : wr.heap.size ≤ z8 := by omega
      go_upto_if 27 with fail
      clear c0 c1 c2 c3 c4 hW4 hz8 b4 k8
      go_cut [27] (fun _ wd => ∃ x : Ak, AkOk w x ∧ lists a b k = x.PV.st ∧ wd.heap[z8]? = some (.cells #[.int .i64 x.now, .int .i64 x.free, .slice x.wo x.ws.length x.cw, .int .i64 x.ho, .slice x.ao x.rs.length x.cr] 25 (0, 0)) ∧ Below wr.heap.size wr wd)
      case first =>
        by_cases hk1 : k = 1
        · subst hk1
          have kb := bk HB4.out HKB.out
          have d0 := cells_at kb (k := 0) rfl
          have d1 := cells_at kb (k := 1) rfl
          have d2 := cells_at kb (k := 2) rfl
          have d3 := cells_at kb (k := 3) rfl
          have d4 := cells_at kb (k := 4) rfl
          have k8 := HK8.out
          have e0 := cells_at k8 (k := 0) rfl
          have e1 := cells_at k8 (k := 1) rfl
          have e2 := cells_at k8 (k := 2) rfl
          have e3 := cells_at k8 (k := 3) rfl
          have e4 := cells_at k8 (k := 4) rfl
          have f0 := frozen_at k8 (k := 0)
          have f1 := frozen_at k8 (k := 1)
          have f2 := frozen_at k8 (k := 2)
          have f3 := frozen_at k8 (k := 3)
          have f4 := frozen_at k8 (k := 4)
          clear kb k8
          go_wp2
          go_meet
          exact ⟨b, HOB.out, rfl, set5 HK8.out, below5 HB4.out hz8'⟩
        · have hk1' : ((k : Int) == 1) = false := beq_false_of_ne (by omega)
          have hk1'' : ¬ (k : Int) = 1 := by omega
          go_wp2
          go_meet
          exact ⟨a, HOA.out, by unfold lists; rw [if_neg hk1], HK8.out, HB4.out⟩
      case rest =>
        obtain ⟨x, hx, hll, h8, hb8⟩ := hcut
        have BW : Below w.heap.size w wc := HBE.out.trans (hb8.mono HBE.out.size)
        have CA := Ak.asked hx BW
        have CR : Hid (∀ W, Below w.heap.size w W → Calls Try.prog 10 #[.int .i64 x.now, .int .i64 x.free, .slice x.wo x.ws.length x.cw, .int .i64 x.ho, .slice x.ao x.rs.length x.cr] W fun e w' => ∃ v, e = .returned (.tuple #[.agg #[v, .int .i64 x.PV.ho, .int .i64 x.PV.sh, .int .i64 x.PV.ex], .int .i64 x.PE]) ∧ w'.ownsRow W.heap.size 3 1 v x.PV.st.length (intsV x.PV.st) ∧ Below W.heap.size W w') := fun W hW => Ak.refs hx hW
        have hlen := x.len
        have HLL : Hid (lists a b k = x.PV.st) := hll
        clear hll hx
        generalize x.PV = PV at *
        generalize x.PE = PE at *
        have e0 := cells_at h8 (k := 0) rfl
        have e1 := cells_at h8 (k := 1) rfl
        have e2 := cells_at h8 (k := 2) rfl
        have e3 := cells_at h8 (k := 3) rfl
        have e4 := cells_at h8 (k := 4) rfl
        have H8 : Hid (wc.heap[z8]? = some (.cells #[.int .i64 x.now, .int .i64 x.free, .slice x.wo x.ws.length x.cw, .int .i64 x.ho, .slice x.ao x.rs.length x.cr] 25 (0, 0))) := h8
        have HB8 : Hid (Below wr.heap.size wr wc) := hb8
        have HBW : Hid (Below w.heap.size w wc) := BW
        clear h8 hb8 BW HK8 HB4
        go_upto_region 12 with (go_at_call 9; refine CA.mono ?_; rintro e w9 ⟨v, rfl, hrv, b9⟩; obtain ⟨sa, sc, rfl, _⟩ := ints_row hrv)
        obtain ⟨zp, hzp⟩ : ∃ zp, w9.heap.size = zp := ⟨_, rfl⟩
        obtain ⟨W10, hW10⟩ : ∃ W10, w9.alloc (.cells #[.slice sa PV.st.length sc, .int .i64 PV.ho, .int .i64 PV.sh, .int .i64 PV.ex] 30) = W10 := ⟨_, rfl⟩
        have b10 : Below w9.heap.size w9 W10 := by rw [← hW10]; exact (Below.refl _ w9).alloc (Nat.le_refl _) _
        have kp : W10.heap[zp]? = some (.cells #[.slice sa PV.st.length sc, .int .i64 PV.ho, .int .i64 PV.sh, .int .i64 PV.ex] 30 (0, 0)) := by rw [← hW10, ← hzp]; exact heap_alloc_new w9 _
        have b8X : Below wc.heap.size wc W10 := b9.trans (b10.mono b9.size)
        have h8 := bk b8X H8.out
        clear e0 e1 e2 e3 e4
        have e0 := cells_at h8 (k := 0) rfl
        have e1 := cells_at h8 (k := 1) rfl
        have e2 := cells_at h8 (k := 2) rfl
        have e3 := cells_at h8 (k := 3) rfl
        have e4 := cells_at h8 (k := 4) rfl
        have HRV : Hid (W10.ownsRow wc.heap.size 3 1 (.slice sa PV.st.length sc) PV.st.length (intsV PV.st)) := rowB b10 hrv
        have HSV : Hid (∀ b : Nat, (Value.slice sa PV.st.length sc).ownBlock = some b → b < W10.heap.size) := fun b hb => row_lt HRV.out hb
        have HKP : Hid (W10.heap[zp]? = some (.cells #[.slice sa PV.st.length sc, .int .i64 PV.ho, .int .i64 PV.sh, .int .i64 PV.ex] 30 (0, 0))) := kp
        have HBX : Hid (Below wc.heap.size wc W10) := b8X
        try rw [hW10]
        try rw [hzp]
        have CR2 := CR.out W10 (HBW.out.trans (b8X.mono HBW.out.size))
        clear hrv b9 b10 kp b8X h8 H8 CA CR hW10 hzp
        go_upto_region 13 with (go_at_call 10; refine CR2.mono ?_; rintro e w11 ⟨v, rfl, hrw, b11⟩; obtain ⟨ra, rc, rfl, _⟩ := ints_row hrw)
        obtain ⟨zq, hzq⟩ : ∃ zq, w11.heap.size = zq := ⟨_, rfl⟩
        obtain ⟨W12, hW12⟩ : ∃ W12, w11.alloc (.cells #[.slice ra PV.st.length rc, .int .i64 PV.ho, .int .i64 PV.sh, .int .i64 PV.ex] 30) = W12 := ⟨_, rfl⟩
        have b12 : Below w11.heap.size w11 W12 := by rw [← hW12]; exact (Below.refl _ w11).alloc (Nat.le_refl _) _
        have kq : W12.heap[zq]? = some (.cells #[.slice ra PV.st.length rc, .int .i64 PV.ho, .int .i64 PV.sh, .int .i64 PV.ex] 30 (0, 0)) := by rw [← hW12, ← hzq]; exact heap_alloc_new w11 _
        have b12X : Below W10.heap.size W10 W12 := b11.trans (b12.mono b11.size)
        have kp := bk b12X HKP.out
        have HRW : Hid (W12.ownsRow W10.heap.size 3 1 (.slice ra PV.st.length rc) PV.st.length (intsV PV.st)) := rowB b12 hrw
        have HR1 : Hid (W12.ownsRow wc.heap.size 3 1 (.slice sa PV.st.length sc) PV.st.length (intsV PV.st)) := rowB b12X HRV.out
        have HKP2 : Hid (W12.heap[zp]? = some (.cells #[.slice sa PV.st.length sc, .int .i64 PV.ho, .int .i64 PV.sh, .int .i64 PV.ex] 30 (0, 0))) := kp
        have HKQ2 : Hid (W12.heap[zq]? = some (.cells #[.slice ra PV.st.length rc, .int .i64 PV.ho, .int .i64 PV.sh, .int .i64 PV.ex] 30 (0, 0))) := kq
        have HB12 : Hid (Below W10.heap.size W10 W12) := b12X
        obtain ⟨_, _, es, is⟩ := ints_row HR1.out
        injection es with es1 es2 es3
        subst es1
        obtain ⟨_, _, et, it⟩ := ints_row HRW.out
        injection et with et1 et2 et3
        subst et1
        have SM := same_yes (c1 := sc) (c2 := rc) PV is it (by omega)
        unfold planV at SM
        try rw [hW12]
        try rw [hzq]
        have p0 := cells_at kp (k := 0) rfl
        have p1 := cells_at kp (k := 1) rfl
        have p2 := cells_at kp (k := 2) rfl
        have p3 := cells_at kp (k := 3) rfl
        have q0 := cells_at kq (k := 0) rfl
        have q1 := cells_at kq (k := 1) rfl
        have q2 := cells_at kq (k := 2) rfl
        have q3 := cells_at kq (k := 3) rfl
        clear hrw b11 b12 kp kq b12X HRV HKP CR2 hW12 hzq e0 e1 e2 e3 e4 is it es2 es3 et2 et3
        go_upto_region 15 with (go_at_call 11; refine SM.mono ?_; rintro e w13 ⟨rfl, b13⟩)
        have kp := bk b13 HKP2.out
        have B13 : Below wr.heap.size wr w13 := by
          have t1 := HB8.out.trans (HBX.out.mono HB8.out.size)
          have t2 := t1.trans (HB12.out.mono t1.size)
          exact t2.trans (b13.mono t2.size)
        have TL13 := HTL.out.below B13
        have R1 : w13.ownsRow wc.heap.size 3 1 (.slice sa PV.st.length sc) PV.st.length (intsV PV.st) := rowB b13 HR1.out
        have R2 : w13.ownsRow W10.heap.size 3 1 (.slice ra PV.st.length rc) PV.st.length (intsV PV.st) := rowB b13 HRW.out
        have s8 := HB8.out.size
        have sX := HBX.out.size
        have sE := HBE.out.size
        have sv : ∀ b : Nat, (Value.slice sa PV.st.length sc).ownBlock = some b → wr.heap.size ≤ b ∧ b < W10.heap.size := fun b hb => by
          have := (row_tag R1 hb).1
          exact ⟨by omega, HSV.out b hb⟩
        have HTL13 : Hid (Tl w.heap.size (lists a b) 0 k k v5 v6 O C w13) := TL13
        have HOLD : Hid ((∀ u ∈ O, ∀ b : Nat, u.ownBlock = some b → b < wr.heap.size) ∧ (∀ u ∈ C, ∀ b : Nat, u.ownBlock = some b → b < wr.heap.size)) := HTL.out.old
        have HRA : Hid (w13.ownsRow w.heap.size 3 1 (.slice sa PV.st.length sc) PV.st.length (intsV PV.st)) := own_base R1 (by omega)
        have HRB : Hid (w13.ownsRow w.heap.size 3 1 (.slice ra PV.st.length rc) PV.st.length (intsV PV.st)) := own_base R2 (by omega)
        have HSW : Hid (∀ b : Nat, (Value.slice ra PV.st.length rc).ownBlock = some b → W10.heap.size ≤ b) := fun b hb => (row_tag R2 hb).1
        have HSA : Hid (∀ b : Nat, (Value.slice sa PV.st.length sc).ownBlock = some b → wr.heap.size ≤ b ∧ b < W10.heap.size) := sv
        have HKP3 : Hid (w13.heap[zq]? = some (.cells #[.slice ra PV.st.length rc, .int .i64 PV.ho, .int .i64 PV.sh, .int .i64 PV.ex] 30 (0, 0))) := bk b13 HKQ2.out
        have HB13 : Hid (Below wr.heap.size wr w13) := B13
        have HXW : Hid (wr.heap.size ≤ W10.heap.size) := Nat.le_trans s8 sX
        obtain ⟨i0, hi0, hz0, hz1, hz2⟩ := info_parts Try.inf28
        clear p0 p1 p2 p3 q0 q1 q2 q3
        have p0 := cells_at kp (k := 0) rfl
        have hbw13 : w.heap.size ≤ w13.heap.size := by have := HB13.out.size; omega
        clear kp b13 B13 TL13 R1 R2 sv HR1 HRW HKP2 HKQ2 HB12 HBX HB8 SM HSV
        go_upto_region 16 with (at_builtin; refine wpList_append_own_at _ rfl (.tmp 62) (.tmp 65) 27 rfl w.heap.size 28 i0 _ 1 24 Try.underlying27 hi0 hz0 hz1 hz2 rfl (by decide) v5 k O rfl (HTL13.out.ro.alloc _) ⟨w13.heap.size, 0, none⟩ 1 1 [.slice sa PV.st.length sc] rfl rfl (World.news_of_block (cs := #[.slice sa PV.st.length sc]) (t := 28) (fr := (0, 0)) (heap_alloc_new w13 _)) (by simp [Value.oneCell']) (Nat.le_trans (m := 4) (by omega) (by decide)) (by omega) (by simp; omega) ?_; intro v5' w14 hr14 hg14 _ hat14)
        have T14 := HTL13.out.pushO (by rw [HLL.out]; exact HRA.out) (fun b hb => ⟨fun u hu e => by have := HOLD.out.1 u hu b e; have := (HSA.out b hb).1; omega, fun u hu e => by have := HOLD.out.2 u hu b e; have := (HSA.out b hb).1; omega⟩) hr14 hg14 hat14
        have HB14 : Hid (Below w.heap.size w w14) := by
          have t1 := HBE.out.trans (HB13.out.mono HBE.out.size)
          exact (t1.alloc t1.size _).grown hg14 (Nat.le_trans t1.size (by simp)) (fun k e => (row_tag HTL13.out.ro e).1)
        have kt : ∀ (i : Nat) (cs : Array Value) (t : TypeId), t ≠ 28 → w13.heap[i]? = some (.cells cs t (0, 0)) → w14.heap[i]? = some (.cells cs t (0, 0)) := fun i cs t ht hi => by
          refine (app_keep hg14 (lt_of_blk hi) (fun e => ?_)).trans hi
          obtain ⟨_, cs', hk⟩ := row_tag HTL13.out.ro e
          exact tag_ne hi hk ht rfl
        have kq := kt zq _ 30 (by decide) HKP3.out
        have HKA14 : Hid (w14.heap[za]? = some (.cells #[.int .i64 a.now, .int .i64 a.free, .slice a.wo a.ws.length a.cw, .int .i64 a.ho, .slice a.ao a.rs.length a.cr] 25 (0, 0))) := kt za _ 25 (by decide) (bk HB13.out HKA.out)
        have HKB14 : Hid (w14.heap[za + 1]? = some (.cells #[.int .i64 b.now, .int .i64 b.free, .slice b.wo b.ws.length b.cw, .int .i64 b.ho, .slice b.ao b.rs.length b.cr] 25 (0, 0))) := kt (za + 1) _ 25 (by decide) (bk HB13.out HKB.out)
        have HRB14 : Hid (w14.ownsRow w.heap.size 3 1 (.slice ra PV.st.length rc) PV.st.length (intsV PV.st)) := row_keep HRB.out (fun k e => by obtain ⟨_, cs, hk⟩ := row_tag HRB.out e; exact (kt k cs 3 (by decide) hk).trans hk.symm)
        have HT14 : Hid (Tl w.heap.size (lists a b) 0 (k + 1) k v5' v6 (O ++ [.slice sa PV.st.length sc]) C w14) := T14
        have q0 := cells_at kq (k := 0) rfl
        have hbw14 : w.heap.size ≤ w14.heap.size := HB14.out.size
        clear T14 kt kq hr14 hg14 hat14 p0 HKP3 HRA HRB HTL13 HTL
        go_upto_region 7 with (at_builtin; refine wpList_append_own_at _ rfl (.tmp 67) (.tmp 70) 27 rfl w.heap.size 28 i0 _ 1 24 Try.underlying27 hi0 hz0 hz1 hz2 rfl (by decide) v6 k C rfl (HT14.out.rc.alloc _) ⟨w14.heap.size, 0, none⟩ 1 1 [.slice ra PV.st.length rc] rfl rfl (World.news_of_block (cs := #[.slice ra PV.st.length rc]) (t := 28) (fr := (0, 0)) (heap_alloc_new w14 _)) (by simp [Value.oneCell']) (Nat.le_trans (m := 4) (by omega) (by decide)) (by omega) (by simp; omega) ?_; intro v6' w15 hr15 hg15 _ hat15)
        have T15 := HT14.out.pushC (by rw [HLL.out]; exact HRB14.out) (fun b hb u hu e => by
          have h1 := HSW.out b hb
          have h2 := HXW.out
          rcases List.mem_append.1 hu with hu | hu
          · have := HOLD.out.1 u hu b e; omega
          · rw [List.mem_singleton.1 hu] at e
            have := (HSA.out b e).2
            omega) hr15 hg15 hat15
        have HB15 : Hid (Below w.heap.size w w15) := (HB14.out.alloc HB14.out.size _).grown hg15 (Nat.le_trans HB14.out.size (by simp)) (fun k e => (row_tag HT14.out.rc e).1)
        have kt : ∀ (i : Nat) (cs : Array Value) (t : TypeId), t ≠ 28 → w14.heap[i]? = some (.cells cs t (0, 0)) → w15.heap[i]? = some (.cells cs t (0, 0)) := fun i cs t ht hi => by
          refine (app_keep hg15 (lt_of_blk hi) (fun e => ?_)).trans hi
          obtain ⟨_, cs', hk⟩ := row_tag HT14.out.rc e
          exact tag_ne hi hk ht rfl
        have HK15 : Hid (w15.heap[za]? = some (.cells #[.int .i64 a.now, .int .i64 a.free, .slice a.wo a.ws.length a.cw, .int .i64 a.ho, .slice a.ao a.rs.length a.cr] 25 (0, 0)) ∧ w15.heap[za + 1]? = some (.cells #[.int .i64 b.now, .int .i64 b.free, .slice b.wo b.ws.length b.cw, .int .i64 b.ho, .slice b.ao b.rs.length b.cr] 25 (0, 0))) := ⟨kt za _ 25 (by decide) HKA14.out, kt (za + 1) _ 25 (by decide) HKB14.out⟩
        have HT15 : Hid (Tl w.heap.size (lists a b) 0 (k + 1) (k + 1) v5' v6' (O ++ [.slice sa PV.st.length sc]) (C ++ [.slice ra PV.st.length rc]) w15) := T15
        clear T15 kt hr15 hg15 hat15 q0 HT14 HRB14 HKA14 HKB14 HB14
        go_wp2
        go_roundg (3 - (k + 1))
        case measure => omega
        case rel => exact ⟨k + 1, v5', v6', _, _, by omega, rfl, rfl, rfl, HT15.out, HB15.out, HK15.out.1, HK15.out.2⟩
    · have hk3 : k = 3 := by omega
      clear HTL
      rw [hk3] at htl
      obtain ⟨g5, c5, rfl, hg5, _⟩ := htl.ro.form (by decide)
      obtain ⟨g6, c6, rfl, hg6, _⟩ := htl.rc.form (by decide)
      have HTL : Hid (Tl w.heap.size (lists a b) 0 3 3 (.slice (some ⟨g5, 0, none⟩) 3 c5) (.slice (some ⟨g6, 0, none⟩) 3 c6) O C wr) := htl
      clear hk3
      obtain ⟨i0, hi0, hz0, hz1, hz2⟩ := info_parts Try.infJ
      clear htl hbe hka hkb HKA HKB
      obtain ⟨V0, hV0⟩ : ∃ V0, V0 = wr := ⟨_, rfl⟩
      subst hV0
      go_wp2
      go_loopg [14] 3 (fun gk p14 wr => ∃ (i : Nat) (O C : List Value), i + gk = 3 ∧ p14 = .int .i64 i ∧ Tl w.heap.size (lists a b) i 3 3 (.slice (some ⟨g5, 0, none⟩) 3 c5) (.slice (some ⟨g6, 0, none⟩) 3 c6) O C wr ∧ Below w.heap.size w wr)
      case atStart => exact ⟨0, O, C, by omega, rfl, HTL.out, HBE.out⟩
      case round =>
        clear HTL HBE
        obtain ⟨i, O, C, hig, rfl, htl, hbe⟩ := hrel
        have HTL : Hid (Tl w.heap.size (lists a b) i 3 3 (.slice (some ⟨g5, 0, none⟩) 3 c5) (.slice (some ⟨g6, 0, none⟩) 3 c6) O C wr) := htl
        have HBE : Hid (Below w.heap.size w wr) := hbe
        by_cases hlt : i < 3
        · have hlt' : (i : Int) < 3 := by omega
          have lo : O.length = 3 := htl.ro.1
          have lc : C.length = 3 := htl.rc.1
          obtain ⟨u, hu⟩ : ∃ u, O[i]? = some u := ⟨_, List.getElem?_eq_getElem (by omega)⟩
          obtain ⟨c, hc⟩ : ∃ c, C[i]? = some c := ⟨_, List.getElem?_eq_getElem (by omega)⟩
          have ru := htl.o i u (Nat.le_refl _) hu
          have rc := htl.c i c (Nat.le_refl _) hc
          obtain ⟨ua, uc, rfl, iu⟩ := ints_row ru
          obtain ⟨ca, cc, rfl, ic⟩ := ints_row rc
          have hlen := lists_len a b i
          have SQ : Hid (∀ m, Calls Try.prog 12 #[.slice ua (lists a b i).length uc, .slice ca (lists a b i).length cc] (wr.drewN m) fun e w' => e = .returned (.bool true) ∧ ∃ m', w' = (wr.drewN m).drewN m') := fun m => sameInts_quiet (w := wr.drewN m) (cap1 := uc) (cap2 := cc) (l := lists a b i) iu ic (by omega)
          have d5 := (row_cell htl.ro hu).1
          have d6 := (row_cell htl.rc hc).1
          have HMD : Hid (Md w.heap.size (lists a b) i (.slice (some ⟨g5, 0, none⟩) 3 c5) (.slice (some ⟨g6, 0, none⟩) 3 c6) O C (.slice ua (lists a b i).length uc) (lists a b i).length (intsV (lists a b i)) wr) := Md.of htl hu
          clear htl hbe ru rc iu ic hu hc lo lc HTL
          obtain ⟨n, hn⟩ : ∃ n, (lists a b i).length = n := ⟨_, rfl⟩
          rw [hn] at d5 d6 SQ HMD hlen
          clear hn
          go_upto_region 20 with fail
          go_quiet ((go_at_call 12; exact Calls.quiet_of (SQ.out _)))
          all_goals
            have HM2 : Hid (Md w.heap.size (lists a b) i (.slice (some ⟨g5, 0, none⟩) 3 c5) (.slice (some ⟨g6, 0, none⟩) 3 c6) O C (.slice ua n uc) n (intsV (lists a b i)) (wr.drewN nq)) := HMD.out.below (drew_below _ _)
            have HB2 : Hid (Below w.heap.size w (wr.drewN nq)) := below_drewN HBE.out _
            obtain ⟨V2, hV2⟩ : ∃ V2, wr.drewN nq = V2 := ⟨_, rfl⟩
            rw [hV2] at HM2 HB2 ⊢
            clear hV2 HMD d5 d6 SQ HBE
            go_wp2
            go_loopg [15] n (fun gk p15 wr => ∃ (k : Nat) (xs : List Value), k + gk = n ∧ p15 = .int .i64 k ∧ Md w.heap.size (lists a b) i (.slice (some ⟨g5, 0, none⟩) 3 c5) (.slice (some ⟨g6, 0, none⟩) 3 c6) O C (.slice ua n uc) n xs wr ∧ Below w.heap.size w wr)
            case atStart => exact ⟨0, _, by omega, rfl, HM2.out, HB2.out⟩
            case round =>
              clear HM2 HB2
              obtain ⟨k, xs, hkg, rfl, hmd, hbe⟩ := hrel
              have d5 := (row_cell hmd.tl.ro hmd.at_).1
              have HMD : Hid (Md w.heap.size (lists a b) i (.slice (some ⟨g5, 0, none⟩) 3 c5) (.slice (some ⟨g6, 0, none⟩) 3 c6) O C (.slice ua n uc) n xs wr) := hmd
              have HBE : Hid (Below w.heap.size w wr) := hbe
              by_cases hkn : k < n
              · obtain ⟨gu, cu, e, hgu, _⟩ := hmd.row.form (by omega)
                injection e with e1 e2 e3
                subst e1
                obtain ⟨x, hx⟩ : ∃ x, xs[k]? = some x := ⟨_, List.getElem?_eq_getElem (by have := hmd.row.1; omega)⟩
                obtain ⟨dk, df⟩ := row_cell hmd.row hx
                clear hmd hbe hx e2 e3
                go_wp2
                go_roundg (n - (k + 1))
                case measure => omega
                case rel => exact ⟨k + 1, _, by omega, rfl, HMD.out.write, HBE.out.setCell (p := ⟨gu, k, none⟩) hgu _⟩
              · clear hmd hbe
                obtain ⟨V3, hV3⟩ : ∃ V3, V3 = wr := ⟨_, rfl⟩
                subst hV3
                go_wp2
                go_loopg [16] 9 (fun gk p16 wr => ∃ (t : Nat) (O' : List Value) (u' : Value) (ys : List Value), t + gk = 9 ∧ p16 = .int .i64 t ∧ Md w.heap.size (lists a b) i (.slice (some ⟨g5, 0, none⟩) 3 c5) (.slice (some ⟨g6, 0, none⟩) 3 c6) O' C u' (n + t) ys wr ∧ Below w.heap.size w wr)
                case atStart => exact ⟨0, O, _, xs, by omega, rfl, HMD.out, HBE.out⟩
                case round =>
                  clear HMD HBE
                  obtain ⟨t, O', u', ys, htg, rfl, hmd, hbe⟩ := hrel
                  have HMD : Hid (Md w.heap.size (lists a b) i (.slice (some ⟨g5, 0, none⟩) 3 c5) (.slice (some ⟨g6, 0, none⟩) 3 c6) O' C u' (n + t) ys wr) := hmd
                  have HBE : Hid (Below w.heap.size w wr) := hbe
                  by_cases ht9 : t < 9
                  · obtain ⟨ta, tc, rfl⟩ := own_form hmd.row
                    have d5 := (row_cell hmd.tl.ro hmd.at_).1
                    have hbw : w.heap.size ≤ wr.heap.size := hbe.size
                    have hnt : n + t + 1 ≤ 266 := by omega
                    clear hmd hbe
                    go_wp2_with (at_builtin; refine wpList_append_own_at _ rfl (.tmp 110) (.tmp 111) 28 rfl w.heap.size 3 i0 _ 1 8 Try.underlying28 hi0 hz0 hz1 hz2 rfl (by decide) _ (n + t) ys rfl (HMD.out.row.alloc _) ⟨wr.heap.size, 0, none⟩ 1 1 [.int .i64 (-8)] rfl rfl (World.news_of_block (cs := #[.int .i64 (-8)]) (t := 3) (fr := (0, 0)) (heap_alloc_new wr _)) (by simp [Value.oneCell']) (Nat.le_trans (m := 266) (by omega) (by decide)) (by omega) (by simp; omega) ?_; intro u2 w6 hr6 hg6 _ hat6; obtain ⟨a2, c2, rfl⟩ := own_form hr6; obtain ⟨x5, f5⟩ := row_cell (row_keep HMD.out.tl.ro (fun b hb => app_keep hg6 (row_lt HMD.out.tl.ro hb) (row_ne HMD.out.tl.ro HMD.out.row (by decide) hb))) HMD.out.at_)
                    go_roundg (9 - (t + 1))
                    case measure => omega
                    case rel =>
                      refine ⟨t + 1, _, _, _, by omega, rfl, HMD.out.more hr6 hg6 hat6, ?_⟩
                      exact ((HBE.out.alloc HBE.out.size _).grown hg6 (Nat.le_trans HBE.out.size (by simp)) (fun k e => (row_tag HMD.out.row e).1)).setCell (p := ⟨g5, i, none⟩) hg5 _
                  · clear hmd hbe
                    go_wp2
                    go_roundg (3 - (i + 1))
                    case measure => omega
                    case rel => exact ⟨i + 1, O', C, by omega, rfl, HMD.out.tl, HBE.out⟩
        · go_wp2
          go_ret
          exact ⟨rfl, HBE.out⟩
end Go.Proofs.Ytdkibcagbidelaa
namespace Go.Proofs.Ytdkibcagbidelaa
open Go.ChangeShapes Go.WideShapes Go.ChangeAt Go.RowKit Go.Joins Pr

set_option maxRecDepth 100000 in
theorem tells_lifted (os : Os) (started : os.Started) (H : Type) (enc : TypeId × Value → H) :
    ReturnsInHanded {} Try.checked os 3 .any (Rows.passTellsSpec.pre6 enc Try.prog Try.f3 Rows.passTellsRow.domain false) (Rows.passTellsSpec.post enc Try.prog Try.f3 false true false false) := by
  refine returnsInHanded_of_change_sized (C := Try.checked) Try.own started (by kernel_rfl) Try.func3
    (ChangeSpec.witness6 (enc := enc) (C := Try.checked) false ⟨#[], #[.agg #[.int .i64 0, .int .i64 0, .slice none 0 0, .int .i64 0, .slice none 0 0], .agg #[.int .i64 0, .int .i64 0, .slice none 0 0, .int .i64 0, .slice none 0 0]], []⟩ 8 (by kernel_rfl) (by kernel_rfl) (by kernel_rfl) (by kernel_rfl)) ?_
  intro W base args ds gs before hval0 hW _ hsz0 _
  have hsz : (DataW.weightsEach Try.prog (Try.f3.params.toList ++ Rows.passTellsSpec.plain.varTypes Try.prog) (ds ++ gs)).all (· ≤ reachBytes) = true := hsz0
  have hval : ∀ (j : Nat) t v, Try.f3.params[j]? = some t → args[j]? = some v → Value.okWide Try.prog W .any base t v := hval0
  have hW' := hW
  obtain ⟨p, q, hA0, hV, rfl, hfz, hnd⟩ := hW
  have hA : DataW.TrodAll enc Try.prog W 0 (fun _ => true) true Try.f3.params.toList args.toList ds p := hA0
  rw [Try.params3] at hA hval hsz
  obtain ⟨v0, v1, d0, d1, p0, p1, rfl, rfl, rfl, h0, h1⟩ := trodAll_two hA
  obtain ⟨rfl, rfl⟩ := trodVars_none hV
  obtain ⟨now, free, ho, wo, ws, cw, ao, rs, cr, rfl, hws, hrs, hnw, hnr, hjo, hwn, hrn, hcw, _⟩ := ask_in (hval 0 25 v0 rfl rfl) h0 (fun k hk => of_decide_eq_true (List.all_eq_true.1 hsz k (DataW.weights_mem_each (j := 0) (t := 25) rfl rfl k hk)))
  obtain ⟨now', free', ho', wo', ws', cw', ao', rs', cr', rfl, hws', hrs', hnw', hnr', hjo', hwn', hrn', hcw', _⟩ := ask_in (hval 1 25 v1 rfl rfl) h1 (fun k hk => of_decide_eq_true (List.all_eq_true.1 hsz k (DataW.weights_mem_each (j := 1) (t := 25) rfl rfl k hk)))
  clear hA0 hval0
  simp only [List.append_nil] at hW'
  have hlt : ∀ y ∈ p0 ++ p1, y.block < W.heap.size := fun y hy => by simpa using hW'.lt y (by simpa using hy)
  have a0 : ∀ (W' : World), Below W.heap.size W W' → DataW.Trod enc Try.prog W' 0 (fun b => decide (b < W.heap.size)) true 25 _ d0 p0 :=
    fun W' hn => Below.trod Try.laidOut (by kernel_rfl) (of_decide_eq_true (by kernel_rfl)) h0 hn (fun y hy => hlt y (by simp [hy]))
  have a1 : ∀ (W' : World), Below W.heap.size W W' → DataW.Trod enc Try.prog W' 0 (fun b => decide (b < W.heap.size)) true 25 _ d1 p1 :=
    fun W' hn => Below.trod Try.laidOut (by kernel_rfl) (of_decide_eq_true (by kernel_rfl)) h1 hn (fun y hy => hlt y (by simp [hy]))
  have OA : AkOk W ⟨now, free, wo, ws, cw, ho, ao, rs, cr⟩ := ⟨hws, hrs, hnw, hnr, hcw, fun e => ⟨by rw [(hwn e).1]; rfl, (hwn e).2⟩, fun e => ⟨by rw [(hrn e).1]; rfl, (hrn e).2⟩, hjo⟩
  have OB : AkOk W ⟨now', free', wo', ws', cw', ho', ao', rs', cr'⟩ := ⟨hws', hrs', hnw', hnr', hcw', fun e => ⟨by rw [(hwn' e).1]; rfl, (hwn' e).2⟩, fun e => ⟨by rw [(hrn' e).1]; rfl, (hrn' e).2⟩, hjo'⟩
  refine (tells_walk OA OB).mono fun e W' ⟨he, hg⟩ => ?_
  subst he
  exact ⟨_, rfl, _, _, _, [], _, [], hW', trodAll_mk1 (shut_bool Try.underlying4 _), trodAll_mk2 (a0 W' hg) (a1 W' hg), rfl, hg.frame _, fun h => by cases h⟩
theorem tells_holds : Rows.PassTellsSaid :=
  OpenClaim.holds_of_wide 3 Try.f3 rfl rfl rfl rfl rfl rfl rfl ⟨rfl, rfl, rfl, rfl, rfl⟩ rfl rfl rfl rfl rfl (by kernel_rfl) Try.func3 (by kernel_rfl)
    (of_decide_eq_true (by kernel_rfl)) (by unfold Func.isWrapper; first | (rw [if_pos (by decide +kernel)]; kernel_rfl) | (rw [if_neg (by decide +kernel)]; exact ⟨rfl, rfl⟩))
    (fun os started H enc _ => tells_lifted os started H enc)
#print axioms tells_holds
end Go.Proofs.Ytdkibcagbidelaa
