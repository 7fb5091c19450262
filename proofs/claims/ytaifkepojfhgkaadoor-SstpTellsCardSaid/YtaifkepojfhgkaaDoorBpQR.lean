/-
  Walks of layer 3's document: Parse.
-/
import Derived.Test.YtaifkepojfhgkaaDoorBpQ
import Derived.Test.YtaifkepojfhgkaaDoorBpR
namespace Go.Proofs.YtaifkepojfhgkaaDoor
set_option linter.unusedVariables false
set_option linter.unusedSimpArgs false
open Go.RowKit Bm

theorem rget_w (s : ByteArray) (A k N : Nat) (w : World) (hN : Hid (num s A k = N)) (hk : k ≤ 8) (hs : s.size ≤ maxLen) (hA : A + k ≤ s.size) :
    Calls Tryd.prog 26 #[.string s, .int .i64 A, .int .i64 k] w fun e w' => e = .returned (.int .u64 N) ∧ w = w' := by
  have H := rget_any s A k w hk hs hA
  rw [hN.out] at H
  exact H

theorem kind_e3 {s : ByteArray} (h : kindR s = (0, 3)) : s.size < 4 := by
  unfold kindR at h
  repeat' split at h
  all_goals (simp at h; try omega)
theorem kind_e2 {s : ByteArray} (h : kindR s = (0, 2)) : 4 ≤ s.size ∧ (byteN s 0 ≠ 0 ∨ byteN s 1 ≠ 0) := by
  unfold kindR at h
  repeat' split at h
  all_goals (simp at h; try omega)
theorem kind_e9 {s : ByteArray} (h : kindR s = (0, 9)) : 4 ≤ s.size ∧ byteN s 0 = 0 ∧ byteN s 1 = 0 ∧ byteN s 3 ≠ 128 ∧ byteN s 3 ≠ 0 ∧ ¬ (byteN s 3 = 2 ∧ 2 ≤ byteN s 2) := by
  unfold kindR at h
  repeat' split at h
  all_goals (simp at h; try omega)
theorem kind_1 {s : ByteArray} (h : kindR s = (1, 0)) : 4 ≤ s.size ∧ byteN s 0 = 0 ∧ byteN s 1 = 0 ∧ byteN s 3 = 0 := by
  unfold kindR at h
  repeat' split at h
  all_goals (simp at h; try omega)
theorem kind_2 {s : ByteArray} (h : kindR s = (2, 0)) : 4 ≤ s.size ∧ byteN s 0 = 0 ∧ byteN s 1 = 0 ∧ byteN s 3 = 128 := by
  unfold kindR at h
  repeat' split at h
  all_goals (simp at h; try omega)
theorem kind_3 {s : ByteArray} (h : kindR s = (3, 0)) : 4 ≤ s.size ∧ byteN s 0 = 0 ∧ byteN s 1 = 0 ∧ byteN s 3 = 2 ∧ 2 ≤ byteN s 2 := by
  unfold kindR at h
  repeat' split at h
  all_goals (simp at h; try omega)

set_option maxHeartbeats 1000000 in
theorem rparse_e3 (s : ByteArray) (w : World) (hs : s.size ≤ maxLen) (h4 : s.size < 4) :
    Calls Tryd.prog 17 #[.string s] w (PPost w 0 0 0 0 0 0 0 0 0 0 3) := by
  unfold maxLen at hs
  go_enter Tryd.func17, Tryd.ntmps17
  go_upto_region 1 with (fail)
  obtain ⟨W, hW⟩ : ∃ W, W = w.alloc (.cells #[.int .i64 0, .int .i64 0, .int .u64 0, .int .u64 0, .int .u64 0, .int .u64 0, .int .i64 0, .int .i64 0, .int .i64 0, .int .i64 0] 33) := ⟨_, rfl⟩
  have R : Blk 33 W w.heap.size ⟨0, 0, 0, 0, 0, 0, 0, 0, 0, 0⟩ := by rw [hW]; exact blk_new 33 w 0 0 0 0 0 0 0 0 0 0
  have B : Below w.heap.size w W := by rw [hW]; exact below_box w _
  rw [← hW]
  clear hW
  have y := R.cells
  obtain ⟨q0, q1, q2, q3, q4, q5, q6, q7, q8, q9⟩ := y
  have g0 := R.free 0
  have g1 := R.free 1
  have g2 := R.free 2
  have g3 := R.free 3
  have g4 := R.free 4
  have g5 := R.free 5
  have g6 := R.free 6
  have g7 := R.free 7
  have g8 := R.free 8
  have g9 := R.free 9
  go_wp2
  exact bodyPost_ret (v := .tuple #[bv 0 0 0 0 0 0 0 0 0 0, .int .i64 3]) (by simp [results, Tryd.results17, go_sem, q0, q1, q2, q3, q4, q5, q6, q7, q8, q9]) rfl ⟨rfl, below_set10 B (Nat.le_refl _) _ _ _ _ _ _ _ _ _ _⟩

set_option maxHeartbeats 1000000 in
theorem rparse_e2a (s : ByteArray) (w : World) (hs : s.size ≤ maxLen) (h4 : 4 ≤ s.size) (hb0 : ¬ (s[0]'(by omega)).toNat = 0) :
    Calls Tryd.prog 17 #[.string s] w (PPost w 0 0 0 0 0 0 0 0 0 0 2) := by
  have hb0' : ((((s[0]'(by omega)).toNat : Nat) : Int) != 0) = true := by simp [hb0]
  unfold maxLen at hs
  go_enter Tryd.func17, Tryd.ntmps17
  go_upto_region 1 with (fail)
  obtain ⟨W, hW⟩ : ∃ W, W = w.alloc (.cells #[.int .i64 0, .int .i64 0, .int .u64 0, .int .u64 0, .int .u64 0, .int .u64 0, .int .i64 0, .int .i64 0, .int .i64 0, .int .i64 0] 33) := ⟨_, rfl⟩
  have R : Blk 33 W w.heap.size ⟨0, 0, 0, 0, 0, 0, 0, 0, 0, 0⟩ := by rw [hW]; exact blk_new 33 w 0 0 0 0 0 0 0 0 0 0
  have B : Below w.heap.size w W := by rw [hW]; exact below_box w _
  rw [← hW]
  clear hW
  have y := R.cells
  obtain ⟨q0, q1, q2, q3, q4, q5, q6, q7, q8, q9⟩ := y
  have g0 := R.free 0
  have g1 := R.free 1
  have g2 := R.free 2
  have g3 := R.free 3
  have g4 := R.free 4
  have g5 := R.free 5
  have g6 := R.free 6
  have g7 := R.free 7
  have g8 := R.free 8
  have g9 := R.free 9
  go_wp2
  exact bodyPost_ret (v := .tuple #[bv 0 0 0 0 0 0 0 0 0 0, .int .i64 2]) (by simp [results, Tryd.results17, go_sem, q0, q1, q2, q3, q4, q5, q6, q7, q8, q9]) rfl ⟨rfl, below_set10 B (Nat.le_refl _) _ _ _ _ _ _ _ _ _ _⟩

set_option maxHeartbeats 1000000 in
theorem rparse_e2b (s : ByteArray) (w : World) (hs : s.size ≤ maxLen) (h4 : 4 ≤ s.size) (hb0 : (s[0]'(by omega)).toNat = 0) (hb1 : ¬ (s[1]'(by omega)).toNat = 0) :
    Calls Tryd.prog 17 #[.string s] w (PPost w 0 0 0 0 0 0 0 0 0 0 2) := by
  have hb1' : ((((s[1]'(by omega)).toNat : Nat) : Int) != 0) = true := by simp [hb1]
  unfold maxLen at hs
  go_enter Tryd.func17, Tryd.ntmps17
  go_upto_region 1 with (fail)
  obtain ⟨W, hW⟩ : ∃ W, W = w.alloc (.cells #[.int .i64 0, .int .i64 0, .int .u64 0, .int .u64 0, .int .u64 0, .int .u64 0, .int .i64 0, .int .i64 0, .int .i64 0, .int .i64 0] 33) := ⟨_, rfl⟩
  have R : Blk 33 W w.heap.size ⟨0, 0, 0, 0, 0, 0, 0, 0, 0, 0⟩ := by rw [hW]; exact blk_new 33 w 0 0 0 0 0 0 0 0 0 0
  have B : Below w.heap.size w W := by rw [hW]; exact below_box w _
  rw [← hW]
  clear hW
  have y := R.cells
  obtain ⟨q0, q1, q2, q3, q4, q5, q6, q7, q8, q9⟩ := y
  have g0 := R.free 0
  have g1 := R.free 1
  have g2 := R.free 2
  have g3 := R.free 3
  have g4 := R.free 4
  have g5 := R.free 5
  have g6 := R.free 6
  have g7 := R.free 7
  have g8 := R.free 8
  have g9 := R.free 9
  go_wp2
  exact bodyPost_ret (v := .tuple #[bv 0 0 0 0 0 0 0 0 0 0, .int .i64 2]) (by simp [results, Tryd.results17, go_sem, q0, q1, q2, q3, q4, q5, q6, q7, q8, q9]) rfl ⟨rfl, below_set10 B (Nat.le_refl _) _ _ _ _ _ _ _ _ _ _⟩

set_option maxHeartbeats 1000000 in
theorem rparse_e9a (s : ByteArray) (w : World) (hs : s.size ≤ maxLen) (h4 : 4 ≤ s.size) (hb0 : (s[0]'(by omega)).toNat = 0) (hb1 : (s[1]'(by omega)).toNat = 0) (hb3 : (s[3]'(by omega)).toNat = 2) (hb2 : (((s[2]'(by omega)).toNat : Nat) : Int) < 2) :
    Calls Tryd.prog 17 #[.string s] w (PPost w 0 0 0 0 0 0 0 0 0 0 9) := by
  unfold maxLen at hs
  go_enter Tryd.func17, Tryd.ntmps17
  go_upto_region 1 with (fail)
  obtain ⟨W, hW⟩ : ∃ W, W = w.alloc (.cells #[.int .i64 0, .int .i64 0, .int .u64 0, .int .u64 0, .int .u64 0, .int .u64 0, .int .i64 0, .int .i64 0, .int .i64 0, .int .i64 0] 33) := ⟨_, rfl⟩
  have R : Blk 33 W w.heap.size ⟨0, 0, 0, 0, 0, 0, 0, 0, 0, 0⟩ := by rw [hW]; exact blk_new 33 w 0 0 0 0 0 0 0 0 0 0
  have B : Below w.heap.size w W := by rw [hW]; exact below_box w _
  rw [← hW]
  clear hW
  have y := R.cells
  obtain ⟨q0, q1, q2, q3, q4, q5, q6, q7, q8, q9⟩ := y
  have g0 := R.free 0
  have g1 := R.free 1
  have g2 := R.free 2
  have g3 := R.free 3
  have g4 := R.free 4
  have g5 := R.free 5
  have g6 := R.free 6
  have g7 := R.free 7
  have g8 := R.free 8
  have g9 := R.free 9
  go_wp2
  exact bodyPost_ret (v := .tuple #[bv 0 0 0 0 0 0 0 0 0 0, .int .i64 9]) (by simp [results, Tryd.results17, go_sem, q0, q1, q2, q3, q4, q5, q6, q7, q8, q9]) rfl ⟨rfl, below_set10 B (Nat.le_refl _) _ _ _ _ _ _ _ _ _ _⟩

set_option maxHeartbeats 1000000 in
theorem rparse_e9b (s : ByteArray) (w : World) (hs : s.size ≤ maxLen) (h4 : 4 ≤ s.size) (hb0 : (s[0]'(by omega)).toNat = 0) (hb1 : (s[1]'(by omega)).toNat = 0) (h31 : ¬ (s[3]'(by omega)).toNat = 128) (h32 : ¬ (s[3]'(by omega)).toNat = 0) (h33 : ¬ (s[3]'(by omega)).toNat = 2) :
    Calls Tryd.prog 17 #[.string s] w (PPost w 0 0 0 0 0 0 0 0 0 0 9) := by
  have h31' : ((((s[3]'(by omega)).toNat : Nat) : Int) == 128) = false := by simp; omega
  have h32' : ((((s[3]'(by omega)).toNat : Nat) : Int) == 0) = false := by simp [h32]
  have h33' : ((((s[3]'(by omega)).toNat : Nat) : Int) == 2) = false := by simp; omega
  unfold maxLen at hs
  go_enter Tryd.func17, Tryd.ntmps17
  go_upto_region 1 with (fail)
  obtain ⟨W, hW⟩ : ∃ W, W = w.alloc (.cells #[.int .i64 0, .int .i64 0, .int .u64 0, .int .u64 0, .int .u64 0, .int .u64 0, .int .i64 0, .int .i64 0, .int .i64 0, .int .i64 0] 33) := ⟨_, rfl⟩
  have R : Blk 33 W w.heap.size ⟨0, 0, 0, 0, 0, 0, 0, 0, 0, 0⟩ := by rw [hW]; exact blk_new 33 w 0 0 0 0 0 0 0 0 0 0
  have B : Below w.heap.size w W := by rw [hW]; exact below_box w _
  rw [← hW]
  clear hW
  have y := R.cells
  obtain ⟨q0, q1, q2, q3, q4, q5, q6, q7, q8, q9⟩ := y
  have g0 := R.free 0
  have g1 := R.free 1
  have g2 := R.free 2
  have g3 := R.free 3
  have g4 := R.free 4
  have g5 := R.free 5
  have g6 := R.free 6
  have g7 := R.free 7
  have g8 := R.free 8
  have g9 := R.free 9
  go_wp2
  exact bodyPost_ret (v := .tuple #[bv 0 0 0 0 0 0 0 0 0 0, .int .i64 9]) (by simp [results, Tryd.results17, go_sem, q0, q1, q2, q3, q4, q5, q6, q7, q8, q9]) rfl ⟨rfl, below_set10 B (Nat.le_refl _) _ _ _ _ _ _ _ _ _ _⟩

set_option maxHeartbeats 1000000 in
theorem rparse_s1 (s : ByteArray) (w : World) (hs : s.size ≤ maxLen) (h4 : 4 ≤ s.size) (hb0 : (s[0]'(by omega)).toNat = 0) (hb1 : (s[1]'(by omega)).toNat = 0) (hb3 : (s[3]'(by omega)).toNat = 0) (hl : s.size < 35) :
    Calls Tryd.prog 17 #[.string s] w (PPost w 0 0 0 0 0 0 0 0 0 0 3) := by
  unfold maxLen at hs
  go_enter Tryd.func17, Tryd.ntmps17
  go_upto_region 1 with (fail)
  obtain ⟨W, hW⟩ : ∃ W, W = w.alloc (.cells #[.int .i64 0, .int .i64 0, .int .u64 0, .int .u64 0, .int .u64 0, .int .u64 0, .int .i64 0, .int .i64 0, .int .i64 0, .int .i64 0] 33) := ⟨_, rfl⟩
  have R : Blk 33 W w.heap.size ⟨0, 0, 0, 0, 0, 0, 0, 0, 0, 0⟩ := by rw [hW]; exact blk_new 33 w 0 0 0 0 0 0 0 0 0 0
  have B : Below w.heap.size w W := by rw [hW]; exact below_box w _
  rw [← hW]
  clear hW
  have y := R.cells
  obtain ⟨q0, q1, q2, q3, q4, q5, q6, q7, q8, q9⟩ := y
  have g0 := R.free 0
  have g1 := R.free 1
  have g2 := R.free 2
  have g3 := R.free 3
  have g4 := R.free 4
  have g5 := R.free 5
  have g6 := R.free 6
  have g7 := R.free 7
  have g8 := R.free 8
  have g9 := R.free 9
  go_wp2_with fail
  refine (rsize_w 1 35 _ (Lib.hid (by decide))).mono ?_
  rintro e w1 ⟨rfl, rfl⟩
  go_wp2
  exact bodyPost_ret (v := .tuple #[bv 0 0 0 0 0 0 0 0 0 0, .int .i64 3]) (by simp [results, Tryd.results17, go_sem, q0, q1, q2, q3, q4, q5, q6, q7, q8, q9]) rfl ⟨rfl, below_set10 B (Nat.le_refl _) _ _ _ _ _ _ _ _ _ _⟩

set_option maxHeartbeats 1000000 in
theorem rparse_s3 (s : ByteArray) (w : World) (hs : s.size ≤ maxLen) (h4 : 4 ≤ s.size) (hb0 : (s[0]'(by omega)).toNat = 0) (hb1 : (s[1]'(by omega)).toNat = 0) (hb3 : (s[3]'(by omega)).toNat = 2) (hb2 : 2 ≤ (((s[2]'(by omega)).toNat : Nat) : Int)) (hl : s.size < 36) :
    Calls Tryd.prog 17 #[.string s] w (PPost w 0 0 0 0 0 0 0 0 0 0 3) := by
  unfold maxLen at hs
  go_enter Tryd.func17, Tryd.ntmps17
  go_upto_region 1 with (fail)
  obtain ⟨W, hW⟩ : ∃ W, W = w.alloc (.cells #[.int .i64 0, .int .i64 0, .int .u64 0, .int .u64 0, .int .u64 0, .int .u64 0, .int .i64 0, .int .i64 0, .int .i64 0, .int .i64 0] 33) := ⟨_, rfl⟩
  have R : Blk 33 W w.heap.size ⟨0, 0, 0, 0, 0, 0, 0, 0, 0, 0⟩ := by rw [hW]; exact blk_new 33 w 0 0 0 0 0 0 0 0 0 0
  have B : Below w.heap.size w W := by rw [hW]; exact below_box w _
  rw [← hW]
  clear hW
  have y := R.cells
  obtain ⟨q0, q1, q2, q3, q4, q5, q6, q7, q8, q9⟩ := y
  have g0 := R.free 0
  have g1 := R.free 1
  have g2 := R.free 2
  have g3 := R.free 3
  have g4 := R.free 4
  have g5 := R.free 5
  have g6 := R.free 6
  have g7 := R.free 7
  have g8 := R.free 8
  have g9 := R.free 9
  go_wp2_with fail
  refine (rsize_w 3 36 _ (Lib.hid (by decide))).mono ?_
  rintro e w1 ⟨rfl, rfl⟩
  go_wp2
  exact bodyPost_ret (v := .tuple #[bv 0 0 0 0 0 0 0 0 0 0, .int .i64 3]) (by simp [results, Tryd.results17, go_sem, q0, q1, q2, q3, q4, q5, q6, q7, q8, q9]) rfl ⟨rfl, below_set10 B (Nat.le_refl _) _ _ _ _ _ _ _ _ _ _⟩

set_option maxHeartbeats 1000000 in
theorem rparse_2 (s : ByteArray) (w : World) (hs : s.size ≤ maxLen) (h4 : 4 ≤ s.size) (hb0 : (s[0]'(by omega)).toNat = 0) (hb1 : (s[1]'(by omega)).toNat = 0) (hb3 : (s[3]'(by omega)).toNat = 128) :
    Calls Tryd.prog 17 #[.string s] w (PPost w 2 0 0 0 0 0 0 0 0 0 0) := by
  unfold maxLen at hs
  go_enter Tryd.func17, Tryd.ntmps17
  go_upto_region 1 with (fail)
  obtain ⟨W, hW⟩ : ∃ W, W = w.alloc (.cells #[.int .i64 0, .int .i64 0, .int .u64 0, .int .u64 0, .int .u64 0, .int .u64 0, .int .i64 0, .int .i64 0, .int .i64 0, .int .i64 0] 33) := ⟨_, rfl⟩
  have R : Blk 33 W w.heap.size ⟨0, 0, 0, 0, 0, 0, 0, 0, 0, 0⟩ := by rw [hW]; exact blk_new 33 w 0 0 0 0 0 0 0 0 0 0
  have B : Below w.heap.size w W := by rw [hW]; exact below_box w _
  rw [← hW]
  clear hW
  have y := R.cells
  obtain ⟨q0, q1, q2, q3, q4, q5, q6, q7, q8, q9⟩ := y
  have g0 := R.free 0
  have g1 := R.free 1
  have g2 := R.free 2
  have g3 := R.free 3
  have g4 := R.free 4
  have g5 := R.free 5
  have g6 := R.free 6
  have g7 := R.free 7
  have g8 := R.free 8
  have g9 := R.free 9
  go_wp2_with fail
  refine (rsize_w 2 4 _ (Lib.hid (by decide))).mono ?_
  rintro e w1 ⟨rfl, rfl⟩
  go_wp2
  exact bodyPost_ret (v := .tuple #[bv 2 0 0 0 0 0 0 0 0 0, .int .i64 0]) (by simp [results, Tryd.results17, go_sem, q0, q1, q2, q3, q4, q5, q6, q7, q8, q9]) rfl ⟨rfl, below_set10 B (Nat.le_refl _) _ _ _ _ _ _ _ _ _ _⟩

set_option maxHeartbeats 4000000 in
theorem rparse_old (s : ByteArray) (N1 N2 N3 N4 N5 N6 N7 N8 N9 : Nat) (w : World) (hs : s.size ≤ maxLen) (hl : 35 ≤ s.size) (hb0 : (s[0]'(by omega)).toNat = 0) (hb1 : (s[1]'(by omega)).toNat = 0) (hb3 : (s[3]'(by omega)).toNat = 0) (h1 : (s[4]'(by omega)).toNat = N1) (h2 : Hid (num s 5 8 = N2)) (h3 : Hid (num s 13 4 = N3)) (h4 : Hid (num s 17 8 = N4)) (h5 : Hid (num s 25 2 = N5)) (h6 : Hid (num s 27 2 = N6)) (h7 : Hid (num s 29 2 = N7)) (h8 : Hid (num s 31 2 = N8)) (h9 : Hid (num s 33 2 = N9)) (ho : N7 ≤ N6) :
    Calls Tryd.prog 17 #[.string s] w (PPost w 0 0 0 0 0 0 0 0 0 0 1) := by
  have hs' := Lib.hid hs
  have d1 : N1 < 256 := by rw [← h1]; exact UInt8.toNat_lt _
  have d2 : N2 < 18446744073709551616 := num_bd h2.out
  have d3 : N3 < 4294967296 := num_bd h3.out
  have d4 : N4 < 18446744073709551616 := num_bd h4.out
  have d5 : N5 < 65536 := num_bd h5.out
  have d6 : N6 < 65536 := num_bd h6.out
  have d7 : N7 < 65536 := num_bd h7.out
  have d8 : N8 < 65536 := num_bd h8.out
  have d9 : N9 < 65536 := num_bd h9.out
  unfold maxLen at hs
  go_enter Tryd.func17, Tryd.ntmps17
  go_upto_region 1 with (fail)
  obtain ⟨W, hW⟩ : ∃ W, W = w.alloc (.cells #[.int .i64 0, .int .i64 0, .int .u64 0, .int .u64 0, .int .u64 0, .int .u64 0, .int .i64 0, .int .i64 0, .int .i64 0, .int .i64 0] 33) := ⟨_, rfl⟩
  have R : Blk 33 W w.heap.size ⟨0, 0, 0, 0, 0, 0, 0, 0, 0, 0⟩ := by rw [hW]; exact blk_new 33 w 0 0 0 0 0 0 0 0 0 0
  have B : Below w.heap.size w W := by rw [hW]; exact below_box w _
  rw [← hW]
  clear hW
  go_wp2_with fail
  refine (rsize_w 1 35 _ (Lib.hid (by decide))).mono ?_
  rintro e w1 ⟨rfl, rfl⟩
  go_wp2_with fail
  obtain ⟨nb, hnb⟩ : ∃ nb, nb = W.heap.size := ⟨_, rfl⟩
  have kb : Blk 33 (W.alloc (.cells #[.int .i64 1, .int .i64 N1, .int .u64 0, .int .u64 0, .int .u64 0, .int .u64 0, .int .i64 0, .int .i64 0, .int .i64 0, .int .i64 0] 33)) nb ⟨1, N1, 0, 0, 0, 0, 0, 0, 0, 0⟩ := by rw [hnb]; exact blk_new 33 W 1 N1 0 0 0 0 0 0 0 0
  have lR := R.lt
  have m4 : w.heap.size ≠ nb := by omega
  have m5 : w.heap.size ≤ nb := by omega
  clear lR
  replace R := R.next (below_box W (.cells #[.int .i64 1, .int .i64 N1, .int .u64 0, .int .u64 0, .int .u64 0, .int .u64 0, .int .i64 0, .int .i64 0, .int .i64 0, .int .i64 0] 33))
  replace B := bw_alloc B (.cells #[.int .i64 1, .int .i64 N1, .int .u64 0, .int .u64 0, .int .u64 0, .int .u64 0, .int .i64 0, .int .i64 0, .int .i64 0, .int .i64 0] 33)
  try rw [← hnb]
  clear hnb hb0 hb1 hb3 h1
  refine (rget_w s 5 8 N2 _ h2 (by omega) hs'.out (by omega)).mono ?_
  rintro e y2 ⟨rfl, rfl⟩
  go_wp2_with fail
  refine (rget_w s 13 4 N3 _ h3 (by omega) hs'.out (by omega)).mono ?_
  rintro e y3 ⟨rfl, rfl⟩
  go_wp2_with fail
  refine (rget_w s 17 8 N4 _ h4 (by omega) hs'.out (by omega)).mono ?_
  rintro e y4 ⟨rfl, rfl⟩
  go_wp2_with fail
  refine (rget_w s 25 2 N5 _ h5 (by omega) hs'.out (by omega)).mono ?_
  rintro e y5 ⟨rfl, rfl⟩
  have qf2 := kb.free 2
  have qf3 := kb.free 3
  have qf4 := kb.free 4
  have qf5 := kb.free 5
  have y := kb.cells
  obtain ⟨z0, z1, z2, z3, z4, z5, z6, z7, z8, z9⟩ := y
  go_wp2_with fail
  replace kb := kb.set2 N2
  replace R := R.other 2 (.int .u64 N2) m4
  replace B := B.setCell (p := ⟨nb, 2, none⟩) m5 (.int .u64 N2)
  replace kb := kb.set3 N3
  replace R := R.other 3 (.int .u64 N3) m4
  replace B := B.setCell (p := ⟨nb, 3, none⟩) m5 (.int .u64 N3)
  replace kb := kb.set4 N4
  replace R := R.other 4 (.int .u64 N4) m4
  replace B := B.setCell (p := ⟨nb, 4, none⟩) m5 (.int .u64 N4)
  replace kb := kb.set5 N5
  replace R := R.other 5 (.int .u64 N5) m4
  replace B := B.setCell (p := ⟨nb, 5, none⟩) m5 (.int .u64 N5)
  clear qf2 qf3 qf4 qf5 z0 z1 z2 z3 z4 z5 z6 z7 z8 z9
  obtain ⟨V, hV⟩ : ∃ V, V = (((((W.alloc (.cells #[.int .i64 1, .int .i64 N1, .int .u64 0, .int .u64 0, .int .u64 0, .int .u64 0, .int .i64 0, .int .i64 0, .int .i64 0, .int .i64 0] 33)).setCell ⟨nb, 2, none⟩ (.int .u64 N2)).setCell ⟨nb, 3, none⟩ (.int .u64 N3)).setCell ⟨nb, 4, none⟩ (.int .u64 N4)).setCell ⟨nb, 5, none⟩ (.int .u64 N5)) := ⟨_, rfl⟩
  rw [← hV] at kb R B
  rw [← hV]
  clear hV
  refine (rget_w s 27 2 N6 _ h6 (by omega) hs'.out (by omega)).mono ?_
  rintro e y6 ⟨rfl, rfl⟩
  have qc : _ = some (Value.int .i64 0) := (by have z := kb.cells; obtain ⟨z0, z1, z2, z3, z4, z5, z6, z7, z8, z9⟩ := z; exact z6)
  have qf := kb.free 6
  replace kb := kb.set6 N6
  replace R := R.other 6 (.int .i64 N6) m4
  replace B := B.setCell (p := ⟨nb, 6, none⟩) m5 (.int .i64 N6)
  go_wp2_with fail
  refine (rget_w s 29 2 N7 _ h7 (by omega) hs'.out (by omega)).mono ?_
  rintro e y7 ⟨rfl, rfl⟩
  clear qc qf
  have qc : _ = some (Value.int .i64 0) := (by have z := kb.cells; obtain ⟨z0, z1, z2, z3, z4, z5, z6, z7, z8, z9⟩ := z; exact z7)
  have qf := kb.free 7
  replace kb := kb.set7 N7
  replace R := R.other 7 (.int .i64 N7) m4
  replace B := B.setCell (p := ⟨nb, 7, none⟩) m5 (.int .i64 N7)
  go_wp2_with fail
  refine (rget_w s 31 2 N8 _ h8 (by omega) hs'.out (by omega)).mono ?_
  rintro e y8 ⟨rfl, rfl⟩
  clear qc qf
  have qc : _ = some (Value.int .i64 0) := (by have z := kb.cells; obtain ⟨z0, z1, z2, z3, z4, z5, z6, z7, z8, z9⟩ := z; exact z8)
  have qf := kb.free 8
  replace kb := kb.set8 N8
  replace R := R.other 8 (.int .i64 N8) m4
  replace B := B.setCell (p := ⟨nb, 8, none⟩) m5 (.int .i64 N8)
  go_wp2_with fail
  refine (rget_w s 33 2 N9 _ h9 (by omega) hs'.out (by omega)).mono ?_
  rintro e y9 ⟨rfl, rfl⟩
  clear qc qf
  have qc : _ = some (Value.int .i64 0) := (by have z := kb.cells; obtain ⟨z0, z1, z2, z3, z4, z5, z6, z7, z8, z9⟩ := z; exact z9)
  have qf := kb.free 9
  replace kb := kb.set9 N9
  replace R := R.other 9 (.int .i64 N9) m4
  replace B := B.setCell (p := ⟨nb, 9, none⟩) m5 (.int .i64 N9)
  go_upto_region 24 with (fail)
  obtain ⟨U, hU⟩ : ∃ U, U = ((((V.setCell ⟨nb, 6, none⟩ (.int .i64 N6)).setCell ⟨nb, 7, none⟩ (.int .i64 N7)).setCell ⟨nb, 8, none⟩ (.int .i64 N8)).setCell ⟨nb, 9, none⟩ (.int .i64 N9)) := ⟨_, rfl⟩
  rw [← hU] at kb R B
  rw [← hU]
  clear hU qc qf
  have y := kb.cells
  obtain ⟨z0, z1, z2, z3, z4, z5, z6, z7, z8, z9⟩ := y
  have y := R.cells
  obtain ⟨q0, q1, q2, q3, q4, q5, q6, q7, q8, q9⟩ := y
  have g0 := R.free 0
  have g1 := R.free 1
  have g2 := R.free 2
  have g3 := R.free 3
  have g4 := R.free 4
  have g5 := R.free 5
  have g6 := R.free 6
  have g7 := R.free 7
  have g8 := R.free 8
  have g9 := R.free 9
  have ho' : (N7 : Int) ≤ N6 := by omega
  go_wp2
  exact bodyPost_ret (v := .tuple #[bv 0 0 0 0 0 0 0 0 0 0, .int .i64 1]) (by simp [results, Tryd.results17, go_sem, q0, q1, q2, q3, q4, q5, q6, q7, q8, q9]) rfl ⟨rfl, below_set10 B (Nat.le_refl _) _ _ _ _ _ _ _ _ _ _⟩

set_option maxHeartbeats 4000000 in
theorem rparse_1 (s : ByteArray) (N1 N2 N3 N4 N5 N6 N7 N8 N9 : Nat) (w : World) (hs : s.size ≤ maxLen) (hl : 35 ≤ s.size) (hb0 : (s[0]'(by omega)).toNat = 0) (hb1 : (s[1]'(by omega)).toNat = 0) (hb3 : (s[3]'(by omega)).toNat = 0) (h1 : (s[4]'(by omega)).toNat = N1) (h2 : Hid (num s 5 8 = N2)) (h3 : Hid (num s 13 4 = N3)) (h4 : Hid (num s 17 8 = N4)) (h5 : Hid (num s 25 2 = N5)) (h6 : Hid (num s 27 2 = N6)) (h7 : Hid (num s 29 2 = N7)) (h8 : Hid (num s 31 2 = N8)) (h9 : Hid (num s 33 2 = N9)) (ho : N6 < N7) :
    Calls Tryd.prog 17 #[.string s] w (PPost w 1 N1 N2 N3 N4 N5 N6 N7 N8 N9 0) := by
  have hs' := Lib.hid hs
  have d1 : N1 < 256 := by rw [← h1]; exact UInt8.toNat_lt _
  have d2 : N2 < 18446744073709551616 := num_bd h2.out
  have d3 : N3 < 4294967296 := num_bd h3.out
  have d4 : N4 < 18446744073709551616 := num_bd h4.out
  have d5 : N5 < 65536 := num_bd h5.out
  have d6 : N6 < 65536 := num_bd h6.out
  have d7 : N7 < 65536 := num_bd h7.out
  have d8 : N8 < 65536 := num_bd h8.out
  have d9 : N9 < 65536 := num_bd h9.out
  unfold maxLen at hs
  go_enter Tryd.func17, Tryd.ntmps17
  go_upto_region 1 with (fail)
  obtain ⟨W, hW⟩ : ∃ W, W = w.alloc (.cells #[.int .i64 0, .int .i64 0, .int .u64 0, .int .u64 0, .int .u64 0, .int .u64 0, .int .i64 0, .int .i64 0, .int .i64 0, .int .i64 0] 33) := ⟨_, rfl⟩
  have R : Blk 33 W w.heap.size ⟨0, 0, 0, 0, 0, 0, 0, 0, 0, 0⟩ := by rw [hW]; exact blk_new 33 w 0 0 0 0 0 0 0 0 0 0
  have B : Below w.heap.size w W := by rw [hW]; exact below_box w _
  rw [← hW]
  clear hW
  go_wp2_with fail
  refine (rsize_w 1 35 _ (Lib.hid (by decide))).mono ?_
  rintro e w1 ⟨rfl, rfl⟩
  go_wp2_with fail
  obtain ⟨nb, hnb⟩ : ∃ nb, nb = W.heap.size := ⟨_, rfl⟩
  have kb : Blk 33 (W.alloc (.cells #[.int .i64 1, .int .i64 N1, .int .u64 0, .int .u64 0, .int .u64 0, .int .u64 0, .int .i64 0, .int .i64 0, .int .i64 0, .int .i64 0] 33)) nb ⟨1, N1, 0, 0, 0, 0, 0, 0, 0, 0⟩ := by rw [hnb]; exact blk_new 33 W 1 N1 0 0 0 0 0 0 0 0
  have lR := R.lt
  have m4 : w.heap.size ≠ nb := by omega
  have m5 : w.heap.size ≤ nb := by omega
  clear lR
  replace R := R.next (below_box W (.cells #[.int .i64 1, .int .i64 N1, .int .u64 0, .int .u64 0, .int .u64 0, .int .u64 0, .int .i64 0, .int .i64 0, .int .i64 0, .int .i64 0] 33))
  replace B := bw_alloc B (.cells #[.int .i64 1, .int .i64 N1, .int .u64 0, .int .u64 0, .int .u64 0, .int .u64 0, .int .i64 0, .int .i64 0, .int .i64 0, .int .i64 0] 33)
  try rw [← hnb]
  clear hnb hb0 hb1 hb3 h1
  refine (rget_w s 5 8 N2 _ h2 (by omega) hs'.out (by omega)).mono ?_
  rintro e y2 ⟨rfl, rfl⟩
  go_wp2_with fail
  refine (rget_w s 13 4 N3 _ h3 (by omega) hs'.out (by omega)).mono ?_
  rintro e y3 ⟨rfl, rfl⟩
  go_wp2_with fail
  refine (rget_w s 17 8 N4 _ h4 (by omega) hs'.out (by omega)).mono ?_
  rintro e y4 ⟨rfl, rfl⟩
  go_wp2_with fail
  refine (rget_w s 25 2 N5 _ h5 (by omega) hs'.out (by omega)).mono ?_
  rintro e y5 ⟨rfl, rfl⟩
  have qf2 := kb.free 2
  have qf3 := kb.free 3
  have qf4 := kb.free 4
  have qf5 := kb.free 5
  have y := kb.cells
  obtain ⟨z0, z1, z2, z3, z4, z5, z6, z7, z8, z9⟩ := y
  go_wp2_with fail
  replace kb := kb.set2 N2
  replace R := R.other 2 (.int .u64 N2) m4
  replace B := B.setCell (p := ⟨nb, 2, none⟩) m5 (.int .u64 N2)
  replace kb := kb.set3 N3
  replace R := R.other 3 (.int .u64 N3) m4
  replace B := B.setCell (p := ⟨nb, 3, none⟩) m5 (.int .u64 N3)
  replace kb := kb.set4 N4
  replace R := R.other 4 (.int .u64 N4) m4
  replace B := B.setCell (p := ⟨nb, 4, none⟩) m5 (.int .u64 N4)
  replace kb := kb.set5 N5
  replace R := R.other 5 (.int .u64 N5) m4
  replace B := B.setCell (p := ⟨nb, 5, none⟩) m5 (.int .u64 N5)
  clear qf2 qf3 qf4 qf5 z0 z1 z2 z3 z4 z5 z6 z7 z8 z9
  obtain ⟨V, hV⟩ : ∃ V, V = (((((W.alloc (.cells #[.int .i64 1, .int .i64 N1, .int .u64 0, .int .u64 0, .int .u64 0, .int .u64 0, .int .i64 0, .int .i64 0, .int .i64 0, .int .i64 0] 33)).setCell ⟨nb, 2, none⟩ (.int .u64 N2)).setCell ⟨nb, 3, none⟩ (.int .u64 N3)).setCell ⟨nb, 4, none⟩ (.int .u64 N4)).setCell ⟨nb, 5, none⟩ (.int .u64 N5)) := ⟨_, rfl⟩
  rw [← hV] at kb R B
  rw [← hV]
  clear hV
  refine (rget_w s 27 2 N6 _ h6 (by omega) hs'.out (by omega)).mono ?_
  rintro e y6 ⟨rfl, rfl⟩
  have qc : _ = some (Value.int .i64 0) := (by have z := kb.cells; obtain ⟨z0, z1, z2, z3, z4, z5, z6, z7, z8, z9⟩ := z; exact z6)
  have qf := kb.free 6
  replace kb := kb.set6 N6
  replace R := R.other 6 (.int .i64 N6) m4
  replace B := B.setCell (p := ⟨nb, 6, none⟩) m5 (.int .i64 N6)
  go_wp2_with fail
  refine (rget_w s 29 2 N7 _ h7 (by omega) hs'.out (by omega)).mono ?_
  rintro e y7 ⟨rfl, rfl⟩
  clear qc qf
  have qc : _ = some (Value.int .i64 0) := (by have z := kb.cells; obtain ⟨z0, z1, z2, z3, z4, z5, z6, z7, z8, z9⟩ := z; exact z7)
  have qf := kb.free 7
  replace kb := kb.set7 N7
  replace R := R.other 7 (.int .i64 N7) m4
  replace B := B.setCell (p := ⟨nb, 7, none⟩) m5 (.int .i64 N7)
  go_wp2_with fail
  refine (rget_w s 31 2 N8 _ h8 (by omega) hs'.out (by omega)).mono ?_
  rintro e y8 ⟨rfl, rfl⟩
  clear qc qf
  have qc : _ = some (Value.int .i64 0) := (by have z := kb.cells; obtain ⟨z0, z1, z2, z3, z4, z5, z6, z7, z8, z9⟩ := z; exact z8)
  have qf := kb.free 8
  replace kb := kb.set8 N8
  replace R := R.other 8 (.int .i64 N8) m4
  replace B := B.setCell (p := ⟨nb, 8, none⟩) m5 (.int .i64 N8)
  go_wp2_with fail
  refine (rget_w s 33 2 N9 _ h9 (by omega) hs'.out (by omega)).mono ?_
  rintro e y9 ⟨rfl, rfl⟩
  clear qc qf
  have qc : _ = some (Value.int .i64 0) := (by have z := kb.cells; obtain ⟨z0, z1, z2, z3, z4, z5, z6, z7, z8, z9⟩ := z; exact z9)
  have qf := kb.free 9
  replace kb := kb.set9 N9
  replace R := R.other 9 (.int .i64 N9) m4
  replace B := B.setCell (p := ⟨nb, 9, none⟩) m5 (.int .i64 N9)
  go_upto_region 24 with (fail)
  obtain ⟨U, hU⟩ : ∃ U, U = ((((V.setCell ⟨nb, 6, none⟩ (.int .i64 N6)).setCell ⟨nb, 7, none⟩ (.int .i64 N7)).setCell ⟨nb, 8, none⟩ (.int .i64 N8)).setCell ⟨nb, 9, none⟩ (.int .i64 N9)) := ⟨_, rfl⟩
  rw [← hU] at kb R B
  rw [← hU]
  clear hU qc qf
  have y := kb.cells
  obtain ⟨z0, z1, z2, z3, z4, z5, z6, z7, z8, z9⟩ := y
  have y := R.cells
  obtain ⟨q0, q1, q2, q3, q4, q5, q6, q7, q8, q9⟩ := y
  have g0 := R.free 0
  have g1 := R.free 1
  have g2 := R.free 2
  have g3 := R.free 3
  have g4 := R.free 4
  have g5 := R.free 5
  have g6 := R.free 6
  have g7 := R.free 7
  have g8 := R.free 8
  have g9 := R.free 9
  have ho' : (N6 : Int) < N7 := by omega
  go_wp2
  exact bodyPost_ret (v := .tuple #[bv 1 N1 N2 N3 N4 N5 N6 N7 N8 N9, .int .i64 0]) (by simp [results, Tryd.results17, go_sem, q0, q1, q2, q3, q4, q5, q6, q7, q8, q9]) rfl ⟨rfl, below_set10 B (Nat.le_refl _) _ _ _ _ _ _ _ _ _ _⟩

set_option maxHeartbeats 4000000 in
theorem rparse_3 (s : ByteArray) (N1 N2 N3 N4 N5 N6 N7 N8 N9 : Nat) (w : World) (hs : s.size ≤ maxLen) (hl : 36 ≤ s.size) (hb0 : (s[0]'(by omega)).toNat = 0) (hb1 : (s[1]'(by omega)).toNat = 0) (hb3 : (s[3]'(by omega)).toNat = 2) (hb2 : 2 ≤ (((s[2]'(by omega)).toNat : Nat) : Int)) (h1 : (s[4]'(by omega)).toNat = N1) (h2 : Hid (num s 5 8 = N2)) (h3 : Hid (num s 13 4 = N3)) (h4 : Hid (num s 17 8 = N4)) (h5 : Hid (num s 25 2 = N5)) (h6 : Hid (num s 27 2 = N6)) (h7 : Hid (num s 29 2 = N7)) (h8 : Hid (num s 31 2 = N8)) (h9 : Hid (num s 33 2 = N9)) :
    Calls Tryd.prog 17 #[.string s] w (PPost w 3 N1 N2 N3 N4 N5 N6 N7 N8 N9 0) := by
  have hs' := Lib.hid hs
  have d1 : N1 < 256 := by rw [← h1]; exact UInt8.toNat_lt _
  have d2 : N2 < 18446744073709551616 := num_bd h2.out
  have d3 : N3 < 4294967296 := num_bd h3.out
  have d4 : N4 < 18446744073709551616 := num_bd h4.out
  have d5 : N5 < 65536 := num_bd h5.out
  have d6 : N6 < 65536 := num_bd h6.out
  have d7 : N7 < 65536 := num_bd h7.out
  have d8 : N8 < 65536 := num_bd h8.out
  have d9 : N9 < 65536 := num_bd h9.out
  unfold maxLen at hs
  go_enter Tryd.func17, Tryd.ntmps17
  go_upto_region 1 with (fail)
  obtain ⟨W, hW⟩ : ∃ W, W = w.alloc (.cells #[.int .i64 0, .int .i64 0, .int .u64 0, .int .u64 0, .int .u64 0, .int .u64 0, .int .i64 0, .int .i64 0, .int .i64 0, .int .i64 0] 33) := ⟨_, rfl⟩
  have R : Blk 33 W w.heap.size ⟨0, 0, 0, 0, 0, 0, 0, 0, 0, 0⟩ := by rw [hW]; exact blk_new 33 w 0 0 0 0 0 0 0 0 0 0
  have B : Below w.heap.size w W := by rw [hW]; exact below_box w _
  rw [← hW]
  clear hW
  go_wp2_with fail
  refine (rsize_w 3 36 _ (Lib.hid (by decide))).mono ?_
  rintro e w1 ⟨rfl, rfl⟩
  go_wp2_with fail
  obtain ⟨nb, hnb⟩ : ∃ nb, nb = W.heap.size := ⟨_, rfl⟩
  have kb : Blk 33 (W.alloc (.cells #[.int .i64 3, .int .i64 N1, .int .u64 0, .int .u64 0, .int .u64 0, .int .u64 0, .int .i64 0, .int .i64 0, .int .i64 0, .int .i64 0] 33)) nb ⟨3, N1, 0, 0, 0, 0, 0, 0, 0, 0⟩ := by rw [hnb]; exact blk_new 33 W 3 N1 0 0 0 0 0 0 0 0
  have lR := R.lt
  have m4 : w.heap.size ≠ nb := by omega
  have m5 : w.heap.size ≤ nb := by omega
  clear lR
  replace R := R.next (below_box W (.cells #[.int .i64 3, .int .i64 N1, .int .u64 0, .int .u64 0, .int .u64 0, .int .u64 0, .int .i64 0, .int .i64 0, .int .i64 0, .int .i64 0] 33))
  replace B := bw_alloc B (.cells #[.int .i64 3, .int .i64 N1, .int .u64 0, .int .u64 0, .int .u64 0, .int .u64 0, .int .i64 0, .int .i64 0, .int .i64 0, .int .i64 0] 33)
  try rw [← hnb]
  clear hnb hb0 hb1 hb3 h1 hb2
  refine (rget_w s 5 8 N2 _ h2 (by omega) hs'.out (by omega)).mono ?_
  rintro e y2 ⟨rfl, rfl⟩
  go_wp2_with fail
  refine (rget_w s 13 4 N3 _ h3 (by omega) hs'.out (by omega)).mono ?_
  rintro e y3 ⟨rfl, rfl⟩
  go_wp2_with fail
  refine (rget_w s 17 8 N4 _ h4 (by omega) hs'.out (by omega)).mono ?_
  rintro e y4 ⟨rfl, rfl⟩
  go_wp2_with fail
  refine (rget_w s 25 2 N5 _ h5 (by omega) hs'.out (by omega)).mono ?_
  rintro e y5 ⟨rfl, rfl⟩
  have qf2 := kb.free 2
  have qf3 := kb.free 3
  have qf4 := kb.free 4
  have qf5 := kb.free 5
  have y := kb.cells
  obtain ⟨z0, z1, z2, z3, z4, z5, z6, z7, z8, z9⟩ := y
  go_wp2_with fail
  replace kb := kb.set2 N2
  replace R := R.other 2 (.int .u64 N2) m4
  replace B := B.setCell (p := ⟨nb, 2, none⟩) m5 (.int .u64 N2)
  replace kb := kb.set3 N3
  replace R := R.other 3 (.int .u64 N3) m4
  replace B := B.setCell (p := ⟨nb, 3, none⟩) m5 (.int .u64 N3)
  replace kb := kb.set4 N4
  replace R := R.other 4 (.int .u64 N4) m4
  replace B := B.setCell (p := ⟨nb, 4, none⟩) m5 (.int .u64 N4)
  replace kb := kb.set5 N5
  replace R := R.other 5 (.int .u64 N5) m4
  replace B := B.setCell (p := ⟨nb, 5, none⟩) m5 (.int .u64 N5)
  clear qf2 qf3 qf4 qf5 z0 z1 z2 z3 z4 z5 z6 z7 z8 z9
  obtain ⟨V, hV⟩ : ∃ V, V = (((((W.alloc (.cells #[.int .i64 3, .int .i64 N1, .int .u64 0, .int .u64 0, .int .u64 0, .int .u64 0, .int .i64 0, .int .i64 0, .int .i64 0, .int .i64 0] 33)).setCell ⟨nb, 2, none⟩ (.int .u64 N2)).setCell ⟨nb, 3, none⟩ (.int .u64 N3)).setCell ⟨nb, 4, none⟩ (.int .u64 N4)).setCell ⟨nb, 5, none⟩ (.int .u64 N5)) := ⟨_, rfl⟩
  rw [← hV] at kb R B
  rw [← hV]
  clear hV
  refine (rget_w s 27 2 N6 _ h6 (by omega) hs'.out (by omega)).mono ?_
  rintro e y6 ⟨rfl, rfl⟩
  have qc : _ = some (Value.int .i64 0) := (by have z := kb.cells; obtain ⟨z0, z1, z2, z3, z4, z5, z6, z7, z8, z9⟩ := z; exact z6)
  have qf := kb.free 6
  replace kb := kb.set6 N6
  replace R := R.other 6 (.int .i64 N6) m4
  replace B := B.setCell (p := ⟨nb, 6, none⟩) m5 (.int .i64 N6)
  go_wp2_with fail
  refine (rget_w s 29 2 N7 _ h7 (by omega) hs'.out (by omega)).mono ?_
  rintro e y7 ⟨rfl, rfl⟩
  clear qc qf
  have qc : _ = some (Value.int .i64 0) := (by have z := kb.cells; obtain ⟨z0, z1, z2, z3, z4, z5, z6, z7, z8, z9⟩ := z; exact z7)
  have qf := kb.free 7
  replace kb := kb.set7 N7
  replace R := R.other 7 (.int .i64 N7) m4
  replace B := B.setCell (p := ⟨nb, 7, none⟩) m5 (.int .i64 N7)
  go_wp2_with fail
  refine (rget_w s 31 2 N8 _ h8 (by omega) hs'.out (by omega)).mono ?_
  rintro e y8 ⟨rfl, rfl⟩
  clear qc qf
  have qc : _ = some (Value.int .i64 0) := (by have z := kb.cells; obtain ⟨z0, z1, z2, z3, z4, z5, z6, z7, z8, z9⟩ := z; exact z8)
  have qf := kb.free 8
  replace kb := kb.set8 N8
  replace R := R.other 8 (.int .i64 N8) m4
  replace B := B.setCell (p := ⟨nb, 8, none⟩) m5 (.int .i64 N8)
  go_wp2_with fail
  refine (rget_w s 33 2 N9 _ h9 (by omega) hs'.out (by omega)).mono ?_
  rintro e y9 ⟨rfl, rfl⟩
  clear qc qf
  have qc : _ = some (Value.int .i64 0) := (by have z := kb.cells; obtain ⟨z0, z1, z2, z3, z4, z5, z6, z7, z8, z9⟩ := z; exact z9)
  have qf := kb.free 9
  replace kb := kb.set9 N9
  replace R := R.other 9 (.int .i64 N9) m4
  replace B := B.setCell (p := ⟨nb, 9, none⟩) m5 (.int .i64 N9)
  go_upto_region 24 with (fail)
  obtain ⟨U, hU⟩ : ∃ U, U = ((((V.setCell ⟨nb, 6, none⟩ (.int .i64 N6)).setCell ⟨nb, 7, none⟩ (.int .i64 N7)).setCell ⟨nb, 8, none⟩ (.int .i64 N8)).setCell ⟨nb, 9, none⟩ (.int .i64 N9)) := ⟨_, rfl⟩
  rw [← hU] at kb R B
  rw [← hU]
  clear hU qc qf
  have y := kb.cells
  obtain ⟨z0, z1, z2, z3, z4, z5, z6, z7, z8, z9⟩ := y
  have y := R.cells
  obtain ⟨q0, q1, q2, q3, q4, q5, q6, q7, q8, q9⟩ := y
  have g0 := R.free 0
  have g1 := R.free 1
  have g2 := R.free 2
  have g3 := R.free 3
  have g4 := R.free 4
  have g5 := R.free 5
  have g6 := R.free 6
  have g7 := R.free 7
  have g8 := R.free 8
  have g9 := R.free 9
  skip
  go_wp2
  exact bodyPost_ret (v := .tuple #[bv 3 N1 N2 N3 N4 N5 N6 N7 N8 N9, .int .i64 0]) (by simp [results, Tryd.results17, go_sem, q0, q1, q2, q3, q4, q5, q6, q7, q8, q9]) rfl ⟨rfl, below_set10 B (Nat.le_refl _) _ _ _ _ _ _ _ _ _ _⟩

theorem num_one (s : ByteArray) (a : Nat) (h : a < s.size) : s[a].toNat = num s a 1 := by
  simp only [num, Nat.zero_mul, Nat.zero_add, Nat.add_zero]
  exact (byteN_get s a h).symm
theorem bget {s : ByteArray} {i N : Nat} (h : i < s.size) (hb : byteN s i = N) : s[i].toNat = N := (byteN_get s i h).symm.trans hb

/-- The document's Parse, of whatever bytes. -/
theorem rparse_w (s : ByteArray) (w : World) (k f r c b p a m h d E : Int) (hX : Hid (parseR s = (⟨k, f, r, c, b, p, a, m, h, d⟩, E))) (hs : s.size ≤ maxLen) :
    Calls Tryd.prog 17 #[.string s] w (PPost w k f r c b p a m h d E) := by
  have H := hX.out
  unfold parseR at H
  rcases kind_cases s with ⟨h0, he⟩ | ⟨he, h4, hk⟩
  · have hne : (kindR s).2 ≠ 0 := by omega
    rw [if_pos hne] at H
    simp only [zero, Prod.mk.injEq, Bp.mk.injEq] at H
    obtain ⟨⟨rfl, rfl, rfl, rfl, rfl, rfl, rfl, rfl, rfl, rfl⟩, rfl⟩ := H
    rcases he with he | he | he
    all_goals (have hp : kindR s = (0, _) := Prod.ext h0 he; rw [he])
    · exact rparse_e3 s w hs (kind_e3 hp)
    · obtain ⟨h4, hb⟩ := kind_e2 hp
      rw [byteN_get s 0 (by omega), byteN_get s 1 (by omega)] at hb
      by_cases hb0 : (s[0]'(by omega)).toNat = 0
      · exact rparse_e2b s w hs h4 hb0 (hb.resolve_left (fun h => h hb0))
      · exact rparse_e2a s w hs h4 hb0
    · obtain ⟨h4, hb0, hb1, h31, h32, h33⟩ := kind_e9 hp
      rw [byteN_get s 3 (by omega)] at h31 h32 h33
      rw [byteN_get s 2 (by omega)] at h33
      by_cases hb3 : (s[3]'(by omega)).toNat = 2
      · exact rparse_e9a s w hs h4 (bget (by omega) hb0) (bget (by omega) hb1) hb3 (by omega)
      · exact rparse_e9b s w hs h4 (bget (by omega) hb0) (bget (by omega) hb1) h31 h32 hb3
  · rw [if_neg (by omega)] at H
    unfold bodyR at H
    rcases hk with hk | hk | hk
    · have hp : kindR s = (1, 0) := Prod.ext hk he
      obtain ⟨_, hb0, hb1, hb3⟩ := kind_1 hp
      rw [hk] at H
      by_cases hl : s.size < 35
      · rw [if_pos (show s.size < sizeN 1 from hl)] at H
        simp only [zero, Prod.mk.injEq, Bp.mk.injEq] at H
        obtain ⟨⟨rfl, rfl, rfl, rfl, rfl, rfl, rfl, rfl, rfl, rfl⟩, rfl⟩ := H
        exact rparse_s1 s w hs h4 (bget (by omega) hb0) (bget (by omega) hb1) (bget (by omega) hb3) hl
      · rw [if_neg (show ¬ s.size < sizeN 1 from hl), if_neg (by decide)] at H
        by_cases ho : num s 29 2 ≤ num s 27 2
        · rw [if_pos ⟨rfl, by simp only [heardAt]; exact Int.ofNat_le.2 ho⟩] at H
          simp only [zero, Prod.mk.injEq, Bp.mk.injEq] at H
          obtain ⟨⟨rfl, rfl, rfl, rfl, rfl, rfl, rfl, rfl, rfl, rfl⟩, rfl⟩ := H
          exact rparse_old s _ _ _ _ _ _ _ _ _ w hs (by omega) (bget (by omega) hb0) (bget (by omega) hb1) (bget (by omega) hb3) (num_one s 4 (by omega)) rfl rfl rfl rfl rfl rfl rfl rfl ho
        · rw [if_neg (fun h => ho (by have := h.2; simp only [heardAt] at this; exact Int.ofNat_le.1 this))] at H
          simp only [heardAt, Prod.mk.injEq, Bp.mk.injEq] at H
          obtain ⟨⟨rfl, rfl, rfl, rfl, rfl, rfl, rfl, rfl, rfl, rfl⟩, rfl⟩ := H
          exact rparse_1 s _ _ _ _ _ _ _ _ _ w hs (by omega) (bget (by omega) hb0) (bget (by omega) hb1) (bget (by omega) hb3) (num_one s 4 (by omega)) rfl rfl rfl rfl rfl rfl rfl rfl (by show num s 27 2 < num s 29 2; omega)
    · have hp : kindR s = (2, 0) := Prod.ext hk he
      obtain ⟨_, hb0, hb1, hb3⟩ := kind_2 hp
      rw [hk, if_neg (show ¬ s.size < sizeN 2 by simp [sizeN]; omega), if_pos rfl] at H
      simp only [notice, Prod.mk.injEq, Bp.mk.injEq] at H
      obtain ⟨⟨rfl, rfl, rfl, rfl, rfl, rfl, rfl, rfl, rfl, rfl⟩, rfl⟩ := H
      exact rparse_2 s w hs h4 (bget (by omega) hb0) (bget (by omega) hb1) (bget (by omega) hb3)
    · have hp : kindR s = (3, 0) := Prod.ext hk he
      obtain ⟨_, hb0, hb1, hb3, hb2⟩ := kind_3 hp
      rw [byteN_get s 2 (by omega)] at hb2
      rw [hk] at H
      by_cases hl : s.size < 36
      · rw [if_pos (show s.size < sizeN 3 from hl)] at H
        simp only [zero, Prod.mk.injEq, Bp.mk.injEq] at H
        obtain ⟨⟨rfl, rfl, rfl, rfl, rfl, rfl, rfl, rfl, rfl, rfl⟩, rfl⟩ := H
        exact rparse_s3 s w hs h4 (bget (by omega) hb0) (bget (by omega) hb1) (bget (by omega) hb3) (by omega) hl
      · rw [if_neg (show ¬ s.size < sizeN 3 from hl), if_neg (by decide), if_neg (fun h => absurd h.1 (by decide))] at H
        simp only [heardAt, Prod.mk.injEq, Bp.mk.injEq] at H
        obtain ⟨⟨rfl, rfl, rfl, rfl, rfl, rfl, rfl, rfl, rfl, rfl⟩, rfl⟩ := H
        exact rparse_3 s _ _ _ _ _ _ _ _ _ w hs (by omega) (bget (by omega) hb0) (bget (by omega) hb1) (bget (by omega) hb3) (by omega) (num_one s 4 (by omega)) rfl rfl rfl rfl rfl rfl rfl rfl
end Go.Proofs.YtaifkepojfhgkaaDoor
