/-
  Walks of layer 4: the document's Print and Parse.
-/
import Derived.Test.YtaifkepojfhgkaaDoorSsR
import Derived.Test.YtaifkepojfhgkaaDoorBpQP
import Derived.Test.YtaifkepojfhgkaaDoorBpQR
namespace Go.Proofs.YtaifkepojfhgkaaDoor
set_option linter.unusedVariables false
set_option linter.unusedSimpArgs false
open Go.RowKit Bm

theorem parse_zero {s : ByteArray} {x : Bp} {E : Int} (h : parseR s = (x, E)) (hE : E ≠ 0) : x = zero := by
  unfold parseR at h
  split at h
  · simp at h; exact h.1.symm
  · unfold bodyR at h
    repeat' split at h
    all_goals (simp only [Prod.mk.injEq] at h; first | exact h.1.symm | exact absurd h.2.symm hE)

set_option maxHeartbeats 1000000 in
theorem rsprint_w (k f r c b p a m h d v : Int) (w : World) (X : ByteArray) (E : Int) (hX : Hid (sprintR ⟨k, f, r, c, b, p, a, m, h, d⟩ v = (X, E))) (hok : Bp.ok ⟨k, f, r, c, b, p, a, m, h, d⟩) :
    Calls Tryd.prog 7 #[bv k f r c b p a m h d, .int .i64 v] w fun e w' => e = .returned (.tuple #[.string X, .int .i64 E]) ∧ Below w.heap.size w w' := by
  obtain ⟨⟨T, F⟩, hT⟩ : ∃ q, printR ⟨k, f, r, c, b, p, a, m, h, d⟩ = q := ⟨_, rfl⟩
  have HT := Lib.hid hT
  have HO := Lib.hid hok
  clear hok
  unfold bv
  go_enter Tryd.func7, Tryd.ntmps7
  go_wp2_with fail
  have hpw := rprint_w k f r c b p a m h d (w.alloc (.cells #[.int .i64 k, .int .i64 f, .int .u64 r, .int .u64 c, .int .u64 b, .int .u64 p, .int .i64 a, .int .i64 m, .int .i64 h, .int .i64 d] 33)) T F HT HO.out
  refine hpw.mono ?_
  clear hpw
  rintro e w1 ⟨rfl, hb1⟩
  have k1 := (blk_new 33 w k f r c b p a m h d).next hb1
  have B1 := bw_trans (below_box w _) hb1
  clear hb1
  have y := k1.cells
  obtain ⟨c0, c1, c2, c3, c4, c5, c6, c7, c8, c9⟩ := y
  unfold printR at hT
  rcases sprint_cases hX.out with ⟨rfl, rfl, hc⟩ | ⟨hr, hk, hv, rfl, rfl⟩ | ⟨hr, hk, hv, rfl, hXe⟩
  · rcases hc with hr | hk
    · rw [hr] at hT
      simp at hT
      obtain ⟨rfl, rfl⟩ := hT
      clear HT HO hX
      go_wp2
      go_ret2
      exact ⟨rfl, B1⟩
    · obtain rfl : k = 2 := hk
      cases hr : rightB ⟨2, f, r, c, b, p, a, m, h, d⟩ with
      | false =>
        rw [hr] at hT
        simp at hT
        obtain ⟨rfl, rfl⟩ := hT
        clear HT HO hX hr
        go_wp2
        go_ret2
        exact ⟨rfl, B1⟩
      | true =>
        rw [hr] at hT
        simp only [if_true, Prod.mk.injEq] at hT
        obtain ⟨rfl, rfl⟩ := hT
        clear HT HO hX hr
        go_wp2
        go_ret2
        exact ⟨rfl, B1⟩
  · rw [hr] at hT
    simp only [if_true, Prod.mk.injEq] at hT
    obtain ⟨hT, rfl⟩ := hT
    have hk2 : ¬ k = 2 := hk
    simp only [vlanB, decide_eq_false_iff_not] at hv
    clear HT HO hX hr hT hk
    by_cases h1 : v < 1
    · go_wp2
      go_ret2
      exact ⟨rfl, B1⟩
    · have h2 : 4094 < v := by omega
      go_wp2
      go_ret2
      exact ⟨rfl, B1⟩
  · rw [hr] at hT
    simp only [if_true, Prod.mk.injEq] at hT
    obtain ⟨hT, rfl⟩ := hT
    have hk2 : ¬ k = 2 := hk
    have hz : T.size ≤ 36 := by
      rw [← hT, bytes_size _ hr]
      unfold sizeN; repeat' split
      all_goals omega
    have hv' := hv
    simp only [vlanB, decide_eq_true_eq] at hv'
    obtain ⟨v1, v2⟩ := hv'
    have HXe := Lib.hid hXe
    clear HT HO hX hr hv hk hXe
    have hcv := convAt #[.int .u8 0, .int .u8 0, .int .u8 0, .int .u8 0, .int .u8 2, .int .u8 (v / 256), .int .u8 (v % 256)] (tagOf v) w1 w1.heap.size 7 rfl (by
      have e1 : (v / 256) = ((v.toNat / 256 % 256 : Nat) : Int) := by omega
      have e2 : (v % 256) = ((v.toNat % 256 : Nat) : Int) := by omega
      rw [e1, e2, byte_int ((v.toNat / 256 % 256 : Nat) : Int) (by omega) (by omega), byte_int ((v.toNat % 256 : Nat) : Int) (by omega) (by omega)]
      rfl) rfl (by show 7 ≤ 1000; omega) rfl
    have hone : (tagOf v).size = 7 := rfl
    go_wp2
    all_goals go_ret2
    refine ⟨?_, bw_alloc B1 _⟩
    rw [HXe.out, hT]
    rfl

/-- The answer's box. -/
structure QInv (w W : World) : Prop where
  r : Blk 33 W w.heap.size ⟨0, 0, 0, 0, 0, 0, 0, 0, 0, 0⟩
  b : Below w.heap.size w W
theorem QInv.next {w W V : World} (h : QInv w W) (hb : Below W.heap.size W V) : QInv w V := ⟨h.r.next hb, bw_trans h.b hb⟩

theorem qinv_new (w : World) : QInv w (w.alloc (.cells #[.int .i64 0, .int .i64 0, .int .u64 0, .int .u64 0, .int .u64 0, .int .u64 0, .int .i64 0, .int .i64 0, .int .i64 0, .int .i64 0] 33)) := ⟨blk_new 33 w 0 0 0 0 0 0 0 0 0 0, below_box w _⟩

set_option maxHeartbeats 1000000 in
theorem rsparse_e (s : ByteArray) (w : World) (k f r c b p a m h d E : Int) (hE : E ≠ 0) (hX : Hid (parseR s = (⟨0, 0, 0, 0, 0, 0, 0, 0, 0, 0⟩, E))) (hs : s.size ≤ maxLen) :
    Calls Tryd.prog 9 #[.string s] w (SPost w 0 0 0 0 0 0 0 0 0 0 0 E) := by
  have HS := Lib.hid hs
  unfold maxLen at hs
  go_enter Tryd.func9, Tryd.ntmps9
  go_wp2_with fail
  have I0 := qinv_new w
  refine (rparse_w s _ 0 0 0 0 0 0 0 0 0 0 E hX HS.out).mono ?_
  rintro e w1 ⟨rfl, hb1⟩
  have I1 := I0.next hb1
  clear hb1 I0 hX
  go_upto_region 2 with (fail)
  obtain ⟨W, hW⟩ : ∃ W, W = w1.alloc (.cells #[.int .i64 0, .int .i64 0, .int .u64 0, .int .u64 0, .int .u64 0, .int .u64 0, .int .i64 0, .int .i64 0, .int .i64 0, .int .i64 0] 33) := ⟨_, rfl⟩
  have I2 : QInv w W := by rw [hW]; exact I1.next (below_box w1 _)
  have x2 : Blk 33 W w1.heap.size ⟨0, 0, 0, 0, 0, 0, 0, 0, 0, 0⟩ := by rw [hW]; exact blk_new 33 w1 0 0 0 0 0 0 0 0 0 0
  have l2 := x2.lt
  rw [← hW]
  clear hW I1
  have y := x2.cells
  obtain ⟨z0, z1, z2, z3, z4, z5, z6, z7, z8, z9⟩ := y
  have y := I2.r.cells
  obtain ⟨q0, q1, q2, q3, q4, q5, q6, q7, q8, q9⟩ := y
  have g0 := I2.r.free 0
  have g1 := I2.r.free 1
  have g2 := I2.r.free 2
  have g3 := I2.r.free 3
  have g4 := I2.r.free 4
  have g5 := I2.r.free 5
  have g6 := I2.r.free 6
  have g7 := I2.r.free 7
  have g8 := I2.r.free 8
  have g9 := I2.r.free 9
  go_wp2
  exact bodyPost_ret (v := .tuple #[bv 0 0 0 0 0 0 0 0 0 0, .int .i64 0, .int .i64 E]) (by simp [results, Tryd.results9, go_sem, q0, q1, q2, q3, q4, q5, q6, q7, q8, q9]) rfl ⟨rfl, below_set10 I2.b (Nat.le_refl _) _ _ _ _ _ _ _ _ _ _⟩

set_option maxHeartbeats 1000000 in
theorem rsparse_2 (s : ByteArray) (w : World) (k f r c b p a m h d : Int) (HK : Hid (k = 2)) (hX : Hid (parseR s = (⟨k, f, r, c, b, p, a, m, h, d⟩, 0))) (hs : s.size ≤ maxLen) :
    Calls Tryd.prog 9 #[.string s] w (SPost w 0 0 0 0 0 0 0 0 0 0 0 9) := by
  have HS := Lib.hid hs
  unfold maxLen at hs
  go_enter Tryd.func9, Tryd.ntmps9
  go_wp2_with fail
  have I0 := qinv_new w
  refine (rparse_w s _ k f r c b p a m h d 0 hX HS.out).mono ?_
  rintro e w1 ⟨rfl, hb1⟩
  have I1 := I0.next hb1
  clear hb1 I0 hX
  go_upto_region 2 with (fail)
  obtain ⟨W, hW⟩ : ∃ W, W = w1.alloc (.cells #[.int .i64 k, .int .i64 f, .int .u64 r, .int .u64 c, .int .u64 b, .int .u64 p, .int .i64 a, .int .i64 m, .int .i64 h, .int .i64 d] 33) := ⟨_, rfl⟩
  have I2 : QInv w W := by rw [hW]; exact I1.next (below_box w1 _)
  have x2 : Blk 33 W w1.heap.size ⟨k, f, r, c, b, p, a, m, h, d⟩ := by rw [hW]; exact blk_new 33 w1 k f r c b p a m h d
  have l2 := x2.lt
  rw [← hW]
  clear hW I1
  have y := x2.cells
  obtain ⟨z0, z1, z2, z3, z4, z5, z6, z7, z8, z9⟩ := y
  have hk := HK.out
  have y := I2.r.cells
  obtain ⟨q0, q1, q2, q3, q4, q5, q6, q7, q8, q9⟩ := y
  have g0 := I2.r.free 0
  have g1 := I2.r.free 1
  have g2 := I2.r.free 2
  have g3 := I2.r.free 3
  have g4 := I2.r.free 4
  have g5 := I2.r.free 5
  have g6 := I2.r.free 6
  have g7 := I2.r.free 7
  have g8 := I2.r.free 8
  have g9 := I2.r.free 9
  go_wp2
  exact bodyPost_ret (v := .tuple #[bv 0 0 0 0 0 0 0 0 0 0, .int .i64 0, .int .i64 9]) (by simp [results, Tryd.results9, go_sem, q0, q1, q2, q3, q4, q5, q6, q7, q8, q9]) rfl ⟨rfl, below_set10 I2.b (Nat.le_refl _) _ _ _ _ _ _ _ _ _ _⟩

set_option maxHeartbeats 1000000 in
theorem rsparse_s (s : ByteArray) (w : World) (k f r c b p a m h d : Int) (n : Nat) (hn : n ≤ 36) (HN : Hid ((sizeN k : Int) = (n : Int))) (hk : ¬ k = 2) (hl : s.size < n + 7) (hX : Hid (parseR s = (⟨k, f, r, c, b, p, a, m, h, d⟩, 0))) (hs : s.size ≤ maxLen) :
    Calls Tryd.prog 9 #[.string s] w (SPost w 0 0 0 0 0 0 0 0 0 0 0 3) := by
  have HS := Lib.hid hs
  unfold maxLen at hs
  go_enter Tryd.func9, Tryd.ntmps9
  go_wp2_with fail
  have I0 := qinv_new w
  refine (rparse_w s _ k f r c b p a m h d 0 hX HS.out).mono ?_
  rintro e w1 ⟨rfl, hb1⟩
  have I1 := I0.next hb1
  clear hb1 I0 hX
  go_upto_region 2 with (fail)
  obtain ⟨W, hW⟩ : ∃ W, W = w1.alloc (.cells #[.int .i64 k, .int .i64 f, .int .u64 r, .int .u64 c, .int .u64 b, .int .u64 p, .int .i64 a, .int .i64 m, .int .i64 h, .int .i64 d] 33) := ⟨_, rfl⟩
  have I2 : QInv w W := by rw [hW]; exact I1.next (below_box w1 _)
  have x2 : Blk 33 W w1.heap.size ⟨k, f, r, c, b, p, a, m, h, d⟩ := by rw [hW]; exact blk_new 33 w1 k f r c b p a m h d
  have l2 := x2.lt
  rw [← hW]
  clear hW I1
  have y := x2.cells
  obtain ⟨z0, z1, z2, z3, z4, z5, z6, z7, z8, z9⟩ := y
  go_wp2_with fail
  refine (rsize_w k n _ HN).mono ?_
  rintro e w3 ⟨rfl, rfl⟩
  clear HN
  have y := I2.r.cells
  obtain ⟨q0, q1, q2, q3, q4, q5, q6, q7, q8, q9⟩ := y
  have g0 := I2.r.free 0
  have g1 := I2.r.free 1
  have g2 := I2.r.free 2
  have g3 := I2.r.free 3
  have g4 := I2.r.free 4
  have g5 := I2.r.free 5
  have g6 := I2.r.free 6
  have g7 := I2.r.free 7
  have g8 := I2.r.free 8
  have g9 := I2.r.free 9
  go_wp2
  exact bodyPost_ret (v := .tuple #[bv 0 0 0 0 0 0 0 0 0 0, .int .i64 0, .int .i64 3]) (by simp [results, Tryd.results9, go_sem, q0, q1, q2, q3, q4, q5, q6, q7, q8, q9]) rfl ⟨rfl, below_set10 I2.b (Nat.le_refl _) _ _ _ _ _ _ _ _ _ _⟩

set_option maxHeartbeats 1000000 in
theorem rsparse_f0 (s : ByteArray) (w : World) (k f r c b p a m h d : Int) (n : Nat) (hn : n ≤ 36) (HN : Hid ((sizeN k : Int) = (n : Int))) (hk : ¬ k = 2) (hl : n + 7 ≤ s.size)  (hb0 : ¬ (s[n]'(by omega)).toNat = 0) (hX : Hid (parseR s = (⟨k, f, r, c, b, p, a, m, h, d⟩, 0))) (hs : s.size ≤ maxLen) :
    Calls Tryd.prog 9 #[.string s] w (SPost w 0 0 0 0 0 0 0 0 0 0 0 2) := by
  have HS := Lib.hid hs
  unfold maxLen at hs
  go_enter Tryd.func9, Tryd.ntmps9
  go_wp2_with fail
  have I0 := qinv_new w
  refine (rparse_w s _ k f r c b p a m h d 0 hX HS.out).mono ?_
  rintro e w1 ⟨rfl, hb1⟩
  have I1 := I0.next hb1
  clear hb1 I0 hX
  go_upto_region 2 with (fail)
  obtain ⟨W, hW⟩ : ∃ W, W = w1.alloc (.cells #[.int .i64 k, .int .i64 f, .int .u64 r, .int .u64 c, .int .u64 b, .int .u64 p, .int .i64 a, .int .i64 m, .int .i64 h, .int .i64 d] 33) := ⟨_, rfl⟩
  have I2 : QInv w W := by rw [hW]; exact I1.next (below_box w1 _)
  have x2 : Blk 33 W w1.heap.size ⟨k, f, r, c, b, p, a, m, h, d⟩ := by rw [hW]; exact blk_new 33 w1 k f r c b p a m h d
  have l2 := x2.lt
  rw [← hW]
  clear hW I1
  have y := x2.cells
  obtain ⟨z0, z1, z2, z3, z4, z5, z6, z7, z8, z9⟩ := y
  go_wp2_with fail
  refine (rsize_w k n _ HN).mono ?_
  rintro e w3 ⟨rfl, rfl⟩
  clear HN
  have y := I2.r.cells
  obtain ⟨q0, q1, q2, q3, q4, q5, q6, q7, q8, q9⟩ := y
  have g0 := I2.r.free 0
  have g1 := I2.r.free 1
  have g2 := I2.r.free 2
  have g3 := I2.r.free 3
  have g4 := I2.r.free 4
  have g5 := I2.r.free 5
  have g6 := I2.r.free 6
  have g7 := I2.r.free 7
  have g8 := I2.r.free 8
  have g9 := I2.r.free 9
  have hb0' : ((((s[n]'(by omega)).toNat : Nat) : Int) != 0) = true := by simp only [bne_iff_ne, ne_eq]; omega
  go_wp2
  exact bodyPost_ret (v := .tuple #[bv 0 0 0 0 0 0 0 0 0 0, .int .i64 0, .int .i64 2]) (by simp [results, Tryd.results9, go_sem, q0, q1, q2, q3, q4, q5, q6, q7, q8, q9]) rfl ⟨rfl, below_set10 I2.b (Nat.le_refl _) _ _ _ _ _ _ _ _ _ _⟩

set_option maxHeartbeats 1000000 in
theorem rsparse_f1 (s : ByteArray) (w : World) (k f r c b p a m h d : Int) (n : Nat) (hn : n ≤ 36) (HN : Hid ((sizeN k : Int) = (n : Int))) (hk : ¬ k = 2) (hl : n + 7 ≤ s.size) (hb0 : (s[n]'(by omega)).toNat = 0) (hb1 : ¬ (s[n + 1]'(by omega)).toNat = 0) (hX : Hid (parseR s = (⟨k, f, r, c, b, p, a, m, h, d⟩, 0))) (hs : s.size ≤ maxLen) :
    Calls Tryd.prog 9 #[.string s] w (SPost w 0 0 0 0 0 0 0 0 0 0 0 2) := by
  have HS := Lib.hid hs
  unfold maxLen at hs
  go_enter Tryd.func9, Tryd.ntmps9
  go_wp2_with fail
  have I0 := qinv_new w
  refine (rparse_w s _ k f r c b p a m h d 0 hX HS.out).mono ?_
  rintro e w1 ⟨rfl, hb1⟩
  have I1 := I0.next hb1
  clear hb1 I0 hX
  go_upto_region 2 with (fail)
  obtain ⟨W, hW⟩ : ∃ W, W = w1.alloc (.cells #[.int .i64 k, .int .i64 f, .int .u64 r, .int .u64 c, .int .u64 b, .int .u64 p, .int .i64 a, .int .i64 m, .int .i64 h, .int .i64 d] 33) := ⟨_, rfl⟩
  have I2 : QInv w W := by rw [hW]; exact I1.next (below_box w1 _)
  have x2 : Blk 33 W w1.heap.size ⟨k, f, r, c, b, p, a, m, h, d⟩ := by rw [hW]; exact blk_new 33 w1 k f r c b p a m h d
  have l2 := x2.lt
  rw [← hW]
  clear hW I1
  have y := x2.cells
  obtain ⟨z0, z1, z2, z3, z4, z5, z6, z7, z8, z9⟩ := y
  go_wp2_with fail
  refine (rsize_w k n _ HN).mono ?_
  rintro e w3 ⟨rfl, rfl⟩
  clear HN
  have y := I2.r.cells
  obtain ⟨q0, q1, q2, q3, q4, q5, q6, q7, q8, q9⟩ := y
  have g0 := I2.r.free 0
  have g1 := I2.r.free 1
  have g2 := I2.r.free 2
  have g3 := I2.r.free 3
  have g4 := I2.r.free 4
  have g5 := I2.r.free 5
  have g6 := I2.r.free 6
  have g7 := I2.r.free 7
  have g8 := I2.r.free 8
  have g9 := I2.r.free 9
  have hb1' : ((((s[n + 1]'(by omega)).toNat : Nat) : Int) != 0) = true := by simp only [bne_iff_ne, ne_eq]; omega
  go_wp2
  exact bodyPost_ret (v := .tuple #[bv 0 0 0 0 0 0 0 0 0 0, .int .i64 0, .int .i64 2]) (by simp [results, Tryd.results9, go_sem, q0, q1, q2, q3, q4, q5, q6, q7, q8, q9]) rfl ⟨rfl, below_set10 I2.b (Nat.le_refl _) _ _ _ _ _ _ _ _ _ _⟩

set_option maxHeartbeats 1000000 in
theorem rsparse_f2 (s : ByteArray) (w : World) (k f r c b p a m h d : Int) (n : Nat) (hn : n ≤ 36) (HN : Hid ((sizeN k : Int) = (n : Int))) (hk : ¬ k = 2) (hl : n + 7 ≤ s.size) (hb0 : (s[n]'(by omega)).toNat = 0) (hb1 : (s[n + 1]'(by omega)).toNat = 0) (hb2 : ¬ (s[n + 2]'(by omega)).toNat = 0) (hX : Hid (parseR s = (⟨k, f, r, c, b, p, a, m, h, d⟩, 0))) (hs : s.size ≤ maxLen) :
    Calls Tryd.prog 9 #[.string s] w (SPost w 0 0 0 0 0 0 0 0 0 0 0 2) := by
  have HS := Lib.hid hs
  unfold maxLen at hs
  go_enter Tryd.func9, Tryd.ntmps9
  go_wp2_with fail
  have I0 := qinv_new w
  refine (rparse_w s _ k f r c b p a m h d 0 hX HS.out).mono ?_
  rintro e w1 ⟨rfl, hb1⟩
  have I1 := I0.next hb1
  clear hb1 I0 hX
  go_upto_region 2 with (fail)
  obtain ⟨W, hW⟩ : ∃ W, W = w1.alloc (.cells #[.int .i64 k, .int .i64 f, .int .u64 r, .int .u64 c, .int .u64 b, .int .u64 p, .int .i64 a, .int .i64 m, .int .i64 h, .int .i64 d] 33) := ⟨_, rfl⟩
  have I2 : QInv w W := by rw [hW]; exact I1.next (below_box w1 _)
  have x2 : Blk 33 W w1.heap.size ⟨k, f, r, c, b, p, a, m, h, d⟩ := by rw [hW]; exact blk_new 33 w1 k f r c b p a m h d
  have l2 := x2.lt
  rw [← hW]
  clear hW I1
  have y := x2.cells
  obtain ⟨z0, z1, z2, z3, z4, z5, z6, z7, z8, z9⟩ := y
  go_wp2_with fail
  refine (rsize_w k n _ HN).mono ?_
  rintro e w3 ⟨rfl, rfl⟩
  clear HN
  have y := I2.r.cells
  obtain ⟨q0, q1, q2, q3, q4, q5, q6, q7, q8, q9⟩ := y
  have g0 := I2.r.free 0
  have g1 := I2.r.free 1
  have g2 := I2.r.free 2
  have g3 := I2.r.free 3
  have g4 := I2.r.free 4
  have g5 := I2.r.free 5
  have g6 := I2.r.free 6
  have g7 := I2.r.free 7
  have g8 := I2.r.free 8
  have g9 := I2.r.free 9
  have hb2' : ((((s[n + 2]'(by omega)).toNat : Nat) : Int) != 0) = true := by simp only [bne_iff_ne, ne_eq]; omega
  go_wp2
  exact bodyPost_ret (v := .tuple #[bv 0 0 0 0 0 0 0 0 0 0, .int .i64 0, .int .i64 2]) (by simp [results, Tryd.results9, go_sem, q0, q1, q2, q3, q4, q5, q6, q7, q8, q9]) rfl ⟨rfl, below_set10 I2.b (Nat.le_refl _) _ _ _ _ _ _ _ _ _ _⟩

set_option maxHeartbeats 1000000 in
theorem rsparse_f3 (s : ByteArray) (w : World) (k f r c b p a m h d : Int) (n : Nat) (hn : n ≤ 36) (HN : Hid ((sizeN k : Int) = (n : Int))) (hk : ¬ k = 2) (hl : n + 7 ≤ s.size) (hb0 : (s[n]'(by omega)).toNat = 0) (hb1 : (s[n + 1]'(by omega)).toNat = 0) (hb2 : (s[n + 2]'(by omega)).toNat = 0) (hb3 : ¬ (s[n + 3]'(by omega)).toNat = 0) (hX : Hid (parseR s = (⟨k, f, r, c, b, p, a, m, h, d⟩, 0))) (hs : s.size ≤ maxLen) :
    Calls Tryd.prog 9 #[.string s] w (SPost w 0 0 0 0 0 0 0 0 0 0 0 2) := by
  have HS := Lib.hid hs
  unfold maxLen at hs
  go_enter Tryd.func9, Tryd.ntmps9
  go_wp2_with fail
  have I0 := qinv_new w
  refine (rparse_w s _ k f r c b p a m h d 0 hX HS.out).mono ?_
  rintro e w1 ⟨rfl, hb1⟩
  have I1 := I0.next hb1
  clear hb1 I0 hX
  go_upto_region 2 with (fail)
  obtain ⟨W, hW⟩ : ∃ W, W = w1.alloc (.cells #[.int .i64 k, .int .i64 f, .int .u64 r, .int .u64 c, .int .u64 b, .int .u64 p, .int .i64 a, .int .i64 m, .int .i64 h, .int .i64 d] 33) := ⟨_, rfl⟩
  have I2 : QInv w W := by rw [hW]; exact I1.next (below_box w1 _)
  have x2 : Blk 33 W w1.heap.size ⟨k, f, r, c, b, p, a, m, h, d⟩ := by rw [hW]; exact blk_new 33 w1 k f r c b p a m h d
  have l2 := x2.lt
  rw [← hW]
  clear hW I1
  have y := x2.cells
  obtain ⟨z0, z1, z2, z3, z4, z5, z6, z7, z8, z9⟩ := y
  go_wp2_with fail
  refine (rsize_w k n _ HN).mono ?_
  rintro e w3 ⟨rfl, rfl⟩
  clear HN
  have y := I2.r.cells
  obtain ⟨q0, q1, q2, q3, q4, q5, q6, q7, q8, q9⟩ := y
  have g0 := I2.r.free 0
  have g1 := I2.r.free 1
  have g2 := I2.r.free 2
  have g3 := I2.r.free 3
  have g4 := I2.r.free 4
  have g5 := I2.r.free 5
  have g6 := I2.r.free 6
  have g7 := I2.r.free 7
  have g8 := I2.r.free 8
  have g9 := I2.r.free 9
  have hb3' : ((((s[n + 3]'(by omega)).toNat : Nat) : Int) != 0) = true := by simp only [bne_iff_ne, ne_eq]; omega
  go_wp2
  exact bodyPost_ret (v := .tuple #[bv 0 0 0 0 0 0 0 0 0 0, .int .i64 0, .int .i64 2]) (by simp [results, Tryd.results9, go_sem, q0, q1, q2, q3, q4, q5, q6, q7, q8, q9]) rfl ⟨rfl, below_set10 I2.b (Nat.le_refl _) _ _ _ _ _ _ _ _ _ _⟩

set_option maxHeartbeats 1000000 in
theorem rsparse_f4 (s : ByteArray) (w : World) (k f r c b p a m h d : Int) (n : Nat) (hn : n ≤ 36) (HN : Hid ((sizeN k : Int) = (n : Int))) (hk : ¬ k = 2) (hl : n + 7 ≤ s.size) (hb0 : (s[n]'(by omega)).toNat = 0) (hb1 : (s[n + 1]'(by omega)).toNat = 0) (hb2 : (s[n + 2]'(by omega)).toNat = 0) (hb3 : (s[n + 3]'(by omega)).toNat = 0) (hb4 : ¬ (s[n + 4]'(by omega)).toNat = 2) (hX : Hid (parseR s = (⟨k, f, r, c, b, p, a, m, h, d⟩, 0))) (hs : s.size ≤ maxLen) :
    Calls Tryd.prog 9 #[.string s] w (SPost w 0 0 0 0 0 0 0 0 0 0 0 2) := by
  have HS := Lib.hid hs
  unfold maxLen at hs
  go_enter Tryd.func9, Tryd.ntmps9
  go_wp2_with fail
  have I0 := qinv_new w
  refine (rparse_w s _ k f r c b p a m h d 0 hX HS.out).mono ?_
  rintro e w1 ⟨rfl, hb1⟩
  have I1 := I0.next hb1
  clear hb1 I0 hX
  go_upto_region 2 with (fail)
  obtain ⟨W, hW⟩ : ∃ W, W = w1.alloc (.cells #[.int .i64 k, .int .i64 f, .int .u64 r, .int .u64 c, .int .u64 b, .int .u64 p, .int .i64 a, .int .i64 m, .int .i64 h, .int .i64 d] 33) := ⟨_, rfl⟩
  have I2 : QInv w W := by rw [hW]; exact I1.next (below_box w1 _)
  have x2 : Blk 33 W w1.heap.size ⟨k, f, r, c, b, p, a, m, h, d⟩ := by rw [hW]; exact blk_new 33 w1 k f r c b p a m h d
  have l2 := x2.lt
  rw [← hW]
  clear hW I1
  have y := x2.cells
  obtain ⟨z0, z1, z2, z3, z4, z5, z6, z7, z8, z9⟩ := y
  go_wp2_with fail
  refine (rsize_w k n _ HN).mono ?_
  rintro e w3 ⟨rfl, rfl⟩
  clear HN
  have y := I2.r.cells
  obtain ⟨q0, q1, q2, q3, q4, q5, q6, q7, q8, q9⟩ := y
  have g0 := I2.r.free 0
  have g1 := I2.r.free 1
  have g2 := I2.r.free 2
  have g3 := I2.r.free 3
  have g4 := I2.r.free 4
  have g5 := I2.r.free 5
  have g6 := I2.r.free 6
  have g7 := I2.r.free 7
  have g8 := I2.r.free 8
  have g9 := I2.r.free 9
  have hb4' : ((((s[n + 4]'(by omega)).toNat : Nat) : Int) != 2) = true := by simp only [bne_iff_ne, ne_eq]; omega
  go_wp2
  exact bodyPost_ret (v := .tuple #[bv 0 0 0 0 0 0 0 0 0 0, .int .i64 0, .int .i64 2]) (by simp [results, Tryd.results9, go_sem, q0, q1, q2, q3, q4, q5, q6, q7, q8, q9]) rfl ⟨rfl, below_set10 I2.b (Nat.le_refl _) _ _ _ _ _ _ _ _ _ _⟩

set_option maxHeartbeats 1000000 in
theorem rsparse_r (s : ByteArray) (w : World) (k f r c b p a m h d : Int) (n : Nat) (hn : n ≤ 36) (HN : Hid ((sizeN k : Int) = (n : Int))) (hk : ¬ k = 2) (x y : Nat) (hl : n + 7 ≤ s.size) (hb0 : (s[n]'(by omega)).toNat = 0) (hb1 : (s[n + 1]'(by omega)).toNat = 0) (hb2 : (s[n + 2]'(by omega)).toNat = 0) (hb3 : (s[n + 3]'(by omega)).toNat = 0) (hb4 : (s[n + 4]'(by omega)).toNat = 2) (hb5 : (s[n + 5]'(by omega)).toNat = x) (hb6 : (s[n + 6]'(by omega)).toNat = y) (hv : x * 256 + y < 1 ∨ 4094 < x * 256 + y) (hX : Hid (parseR s = (⟨k, f, r, c, b, p, a, m, h, d⟩, 0))) (hs : s.size ≤ maxLen) :
    Calls Tryd.prog 9 #[.string s] w (SPost w 0 0 0 0 0 0 0 0 0 0 0 1) := by
  have HS := Lib.hid hs
  unfold maxLen at hs
  go_enter Tryd.func9, Tryd.ntmps9
  go_wp2_with fail
  have I0 := qinv_new w
  refine (rparse_w s _ k f r c b p a m h d 0 hX HS.out).mono ?_
  rintro e w1 ⟨rfl, hb1⟩
  have I1 := I0.next hb1
  clear hb1 I0 hX
  go_upto_region 2 with (fail)
  obtain ⟨W, hW⟩ : ∃ W, W = w1.alloc (.cells #[.int .i64 k, .int .i64 f, .int .u64 r, .int .u64 c, .int .u64 b, .int .u64 p, .int .i64 a, .int .i64 m, .int .i64 h, .int .i64 d] 33) := ⟨_, rfl⟩
  have I2 : QInv w W := by rw [hW]; exact I1.next (below_box w1 _)
  have x2 : Blk 33 W w1.heap.size ⟨k, f, r, c, b, p, a, m, h, d⟩ := by rw [hW]; exact blk_new 33 w1 k f r c b p a m h d
  have l2 := x2.lt
  rw [← hW]
  clear hW I1
  have y := x2.cells
  obtain ⟨z0, z1, z2, z3, z4, z5, z6, z7, z8, z9⟩ := y
  go_wp2_with fail
  refine (rsize_w k n _ HN).mono ?_
  rintro e w3 ⟨rfl, rfl⟩
  clear HN
  have y := I2.r.cells
  obtain ⟨q0, q1, q2, q3, q4, q5, q6, q7, q8, q9⟩ := y
  have g0 := I2.r.free 0
  have g1 := I2.r.free 1
  have g2 := I2.r.free 2
  have g3 := I2.r.free 3
  have g4 := I2.r.free 4
  have g5 := I2.r.free 5
  have g6 := I2.r.free 6
  have g7 := I2.r.free 7
  have g8 := I2.r.free 8
  have g9 := I2.r.free 9
  have lx : x < 256 := by rw [← hb5]; exact UInt8.toNat_lt _
  have ly : y < 256 := by rw [← hb6]; exact UInt8.toNat_lt _
  go_wp2
  have i5 : (0 : Int) ≤ (n : Int) + 5 := by omega
  have j5 : (n : Int) + 5 < (s.size : Int) := by omega
  have i6 : (0 : Int) ≤ (n : Int) + 6 := by omega
  have j6 : (n : Int) + 6 < (s.size : Int) := by omega
  go_quiet (fail)
  go_wp2
  all_goals exact bodyPost_ret (v := .tuple #[bv 0 0 0 0 0 0 0 0 0 0, .int .i64 0, .int .i64 1]) (by simp [results, Tryd.results9, go_sem, q0, q1, q2, q3, q4, q5, q6, q7, q8, q9]) rfl ⟨rfl, below_set10 (below_drewN I2.b _) (Nat.le_refl _) _ _ _ _ _ _ _ _ _ _⟩

set_option maxHeartbeats 1000000 in
theorem rsparse_ok (s : ByteArray) (w : World) (k f r c b p a m h d V : Int) (n : Nat) (hn : n ≤ 36) (HN : Hid ((sizeN k : Int) = (n : Int))) (hk : ¬ k = 2) (x y : Nat) (hl : n + 7 ≤ s.size) (hb0 : (s[n]'(by omega)).toNat = 0) (hb1 : (s[n + 1]'(by omega)).toNat = 0) (hb2 : (s[n + 2]'(by omega)).toNat = 0) (hb3 : (s[n + 3]'(by omega)).toNat = 0) (hb4 : (s[n + 4]'(by omega)).toNat = 2) (hb5 : (s[n + 5]'(by omega)).toNat = x) (hb6 : (s[n + 6]'(by omega)).toNat = y) (hv : 1 ≤ x * 256 + y ∧ x * 256 + y ≤ 4094) (hV : V = (x : Int) * 256 + (y : Int)) (hX : Hid (parseR s = (⟨k, f, r, c, b, p, a, m, h, d⟩, 0))) (hs : s.size ≤ maxLen) :
    Calls Tryd.prog 9 #[.string s] w (SPost w k f r c b p a m h d V 0) := by
  have HS := Lib.hid hs
  unfold maxLen at hs
  go_enter Tryd.func9, Tryd.ntmps9
  go_wp2_with fail
  have I0 := qinv_new w
  refine (rparse_w s _ k f r c b p a m h d 0 hX HS.out).mono ?_
  rintro e w1 ⟨rfl, hb1⟩
  have I1 := I0.next hb1
  clear hb1 I0 hX
  go_upto_region 2 with (fail)
  obtain ⟨W, hW⟩ : ∃ W, W = w1.alloc (.cells #[.int .i64 k, .int .i64 f, .int .u64 r, .int .u64 c, .int .u64 b, .int .u64 p, .int .i64 a, .int .i64 m, .int .i64 h, .int .i64 d] 33) := ⟨_, rfl⟩
  have I2 : QInv w W := by rw [hW]; exact I1.next (below_box w1 _)
  have x2 : Blk 33 W w1.heap.size ⟨k, f, r, c, b, p, a, m, h, d⟩ := by rw [hW]; exact blk_new 33 w1 k f r c b p a m h d
  have l2 := x2.lt
  rw [← hW]
  clear hW I1
  have y := x2.cells
  obtain ⟨z0, z1, z2, z3, z4, z5, z6, z7, z8, z9⟩ := y
  go_wp2_with fail
  refine (rsize_w k n _ HN).mono ?_
  rintro e w3 ⟨rfl, rfl⟩
  clear HN
  have y := I2.r.cells
  obtain ⟨q0, q1, q2, q3, q4, q5, q6, q7, q8, q9⟩ := y
  have g0 := I2.r.free 0
  have g1 := I2.r.free 1
  have g2 := I2.r.free 2
  have g3 := I2.r.free 3
  have g4 := I2.r.free 4
  have g5 := I2.r.free 5
  have g6 := I2.r.free 6
  have g7 := I2.r.free 7
  have g8 := I2.r.free 8
  have g9 := I2.r.free 9
  have lx : x < 256 := by rw [← hb5]; exact UInt8.toNat_lt _
  have ly : y < 256 := by rw [← hb6]; exact UInt8.toNat_lt _
  go_wp2
  have i5 : (0 : Int) ≤ (n : Int) + 5 := by omega
  have j5 : (n : Int) + 5 < (s.size : Int) := by omega
  have i6 : (0 : Int) ≤ (n : Int) + 6 := by omega
  have j6 : (n : Int) + 6 < (s.size : Int) := by omega
  go_quiet (fail)
  go_wp2
  subst hV
  all_goals exact bodyPost_ret (v := .tuple #[bv k f r c b p a m h d, .int .i64 ((x : Int) * 256 + (y : Int)), .int .i64 0]) (by simp [results, Tryd.results9, go_sem, q0, q1, q2, q3, q4, q5, q6, q7, q8, q9]) rfl ⟨rfl, below_set10 (below_drewN I2.b _) (Nat.le_refl _) _ _ _ _ _ _ _ _ _ _⟩

theorem bfor {s : ByteArray} {i N : Nat} (h : i < s.size) : (byteN s i = N) ↔ s[i].toNat = N := by rw [byteN_get s i h]
theorem rsparse_w (s : ByteArray) (w : World) (k f r c b p a m h d V E : Int) (hX : Hid (sparseR s = (⟨k, f, r, c, b, p, a, m, h, d⟩, V, E))) (hs : s.size ≤ maxLen) :
    Calls Tryd.prog 9 #[.string s] w (SPost w k f r c b p a m h d V E) := by
  have H := hX.out
  clear hX
  unfold sparseR at H
  obtain ⟨⟨⟨x0, x1, x2, x3, x4, x5, x6, x7, x8, x9⟩, F⟩, hP⟩ : ∃ q, parseR s = q := ⟨_, rfl⟩
  rw [hP] at H
  simp only at H
  by_cases hF : F = 0
  · subst hF
    rw [if_neg (by simp)] at H
    by_cases hk : x0 = 2
    · rw [if_pos hk] at H
      simp only [zero, Prod.mk.injEq, Bp.mk.injEq] at H
      obtain ⟨⟨rfl, rfl, rfl, rfl, rfl, rfl, rfl, rfl, rfl, rfl⟩, rfl, rfl⟩ := H
      exact rsparse_2 s w x0 x1 x2 x3 x4 x5 x6 x7 x8 x9 (Lib.hid hk) (Lib.hid hP) hs
    · rw [if_neg hk] at H
      obtain ⟨n, hn⟩ : ∃ n, sizeN x0 = n := ⟨_, rfl⟩
      have hn36 : n ≤ 36 := hn ▸ sizeN_le x0
      have HN : Hid ((sizeN x0 : Int) = (n : Int)) := by rw [hn]; exact Lib.hid rfl
      rw [hn] at H
      clear hn
      unfold behindR at H
      by_cases hl : s.size < n + 7
      · simp [if_pos hl, zero] at H
        obtain ⟨⟨rfl, rfl, rfl, rfl, rfl, rfl, rfl, rfl, rfl, rfl⟩, rfl, rfl⟩ := H
        exact rsparse_s s w x0 x1 x2 x3 x4 x5 x6 x7 x8 x9 n hn36 HN hk hl (Lib.hid hP) hs
      · rw [if_neg hl] at H
        have hl' : n + 7 ≤ s.size := by omega
        rw [byteN_get s n (by omega), byteN_get s (n + 1) (by omega), byteN_get s (n + 2) (by omega), byteN_get s (n + 3) (by omega), byteN_get s (n + 4) (by omega), byteN_get s (n + 5) (by omega), byteN_get s (n + 6) (by omega)] at H
        by_cases hb : (s[n]'(by omega)).toNat ≠ 0 ∨ (s[n + 1]'(by omega)).toNat ≠ 0 ∨ (s[n + 2]'(by omega)).toNat ≠ 0 ∨ (s[n + 3]'(by omega)).toNat ≠ 0 ∨ (s[n + 4]'(by omega)).toNat ≠ 2
        · rw [if_pos hb] at H
          simp [zero] at H
          obtain ⟨⟨rfl, rfl, rfl, rfl, rfl, rfl, rfl, rfl, rfl, rfl⟩, rfl, rfl⟩ := H
          by_cases hb0 : (s[n]'(by omega)).toNat = 0
          · by_cases hb1 : (s[n + 1]'(by omega)).toNat = 0
            · by_cases hb2 : (s[n + 2]'(by omega)).toNat = 0
              · by_cases hb3 : (s[n + 3]'(by omega)).toNat = 0
                · have hb4 : ¬ (s[n + 4]'(by omega)).toNat = 2 := by omega
                  exact rsparse_f4 s w x0 x1 x2 x3 x4 x5 x6 x7 x8 x9 n hn36 HN hk hl' hb0 hb1 hb2 hb3 hb4 (Lib.hid hP) hs
                · exact rsparse_f3 s w x0 x1 x2 x3 x4 x5 x6 x7 x8 x9 n hn36 HN hk hl' hb0 hb1 hb2 hb3 (Lib.hid hP) hs
              · exact rsparse_f2 s w x0 x1 x2 x3 x4 x5 x6 x7 x8 x9 n hn36 HN hk hl' hb0 hb1 hb2 (Lib.hid hP) hs
            · exact rsparse_f1 s w x0 x1 x2 x3 x4 x5 x6 x7 x8 x9 n hn36 HN hk hl' hb0 hb1 (Lib.hid hP) hs
          · exact rsparse_f0 s w x0 x1 x2 x3 x4 x5 x6 x7 x8 x9 n hn36 HN hk hl' hb0 (Lib.hid hP) hs
        · rw [if_neg hb] at H
          have hb0 : (s[n]'(by omega)).toNat = 0 := by omega
          have hb1 : (s[n + 1]'(by omega)).toNat = 0 := by omega
          have hb2 : (s[n + 2]'(by omega)).toNat = 0 := by omega
          have hb3 : (s[n + 3]'(by omega)).toNat = 0 := by omega
          have hb4 : (s[n + 4]'(by omega)).toNat = 2 := by omega
          obtain ⟨x, hx⟩ : ∃ x, (s[n + 5]'(by omega)).toNat = x := ⟨_, rfl⟩
          obtain ⟨y, hy⟩ : ∃ y, (s[n + 6]'(by omega)).toNat = y := ⟨_, rfl⟩
          rw [hx, hy] at H
          by_cases hv : x * 256 + y < 1 ∨ 4094 < x * 256 + y
          · rw [if_pos hv] at H
            simp [zero] at H
            obtain ⟨⟨rfl, rfl, rfl, rfl, rfl, rfl, rfl, rfl, rfl, rfl⟩, rfl, rfl⟩ := H
            exact rsparse_r s w x0 x1 x2 x3 x4 x5 x6 x7 x8 x9 n hn36 HN hk x y hl' hb0 hb1 hb2 hb3 hb4 hx hy hv (Lib.hid hP) hs
          · rw [if_neg hv] at H
            simp only [ne_eq, not_true_eq_false, if_false, Prod.mk.injEq, Bp.mk.injEq] at H
            obtain ⟨⟨rfl, rfl, rfl, rfl, rfl, rfl, rfl, rfl, rfl, rfl⟩, rfl, rfl⟩ := H
            exact rsparse_ok s w x0 x1 x2 x3 x4 x5 x6 x7 x8 x9 _ n hn36 HN hk x y hl' hb0 hb1 hb2 hb3 hb4 hx hy (by omega) (by omega) (Lib.hid hP) hs
  · rw [if_pos hF] at H
    have hz := parse_zero hP hF
    simp only [zero, Bp.mk.injEq] at hz
    obtain ⟨rfl, rfl, rfl, rfl, rfl, rfl, rfl, rfl, rfl, rfl⟩ := hz
    simp only [zero, Prod.mk.injEq, Bp.mk.injEq] at H
    obtain ⟨⟨rfl, rfl, rfl, rfl, rfl, rfl, rfl, rfl, rfl, rfl⟩, rfl, rfl⟩ := H
    exact rsparse_e s w 0 0 0 0 0 0 0 0 0 0 F hF (Lib.hid hP) hs

end Go.Proofs.YtaifkepojfhgkaaDoor
