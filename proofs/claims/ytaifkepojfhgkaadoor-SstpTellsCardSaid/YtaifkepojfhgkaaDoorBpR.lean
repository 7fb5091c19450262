/-
  Walks of layer 3: Parse.
-/
import Derived.Test.YtaifkepojfhgkaaDoorBpN
namespace Go.Proofs.YtaifkepojfhgkaaDoor
set_option linter.unusedVariables false
set_option linter.unusedSimpArgs false
open Go.RowKit Bm

abbrev PPost (w : World) (k f r c b p a m h d E : Int) (e : Ending) (w' : World) : Prop := e = .returned (.tuple #[bv k f r c b p a m h d, .int .i64 E]) ∧ Below w.heap.size w w'

set_option maxHeartbeats 1000000 in
theorem parse_e3 (s : ByteArray) (w : World) (hK : Hid (kindR s = (0, 3))) (hs : s.size ≤ maxLen) :
    Calls Tryd.prog 13 #[.string s] w (PPost w 0 0 0 0 0 0 0 0 0 0 3) := by
  have hs' := Lib.hid hs; clear hs
  go_enter Tryd.func13, Tryd.ntmps13
  go_wp2_with fail
  refine (heardKind_w s _ _ _ hK hs'.out).mono ?_
  rintro e w1 ⟨rfl, rfl⟩
  obtain ⟨W, hW⟩ : ∃ W, W = w.alloc (.cells #[.int .i64 0, .int .i64 0, .int .u64 0, .int .u64 0, .int .u64 0, .int .u64 0, .int .i64 0, .int .i64 0, .int .i64 0, .int .i64 0] 26) := ⟨_, rfl⟩
  have R : Blk 26 W w.heap.size ⟨0, 0, 0, 0, 0, 0, 0, 0, 0, 0⟩ := by rw [hW]; exact blk_new 26 w 0 0 0 0 0 0 0 0 0 0
  have B : Below w.heap.size w W := by rw [hW]; exact below_box w _
  rw [← hW]
  clear hW
  have y := R.cells
  obtain ⟨q0, q1, q2, q3, q4, q5, q6, q7, q8, q9⟩ := y
  have g0 := R.free 0
  have g1 := R.free 1
  have g2 := R.free 2
  have g3 := R.free 3
  have g4 := R.free 4
  have g5 := R.free 5
  have g6 := R.free 6
  have g7 := R.free 7
  have g8 := R.free 8
  have g9 := R.free 9
  go_wp2
  exact bodyPost_ret (v := .tuple #[bv 0 0 0 0 0 0 0 0 0 0, .int .i64 3]) (by simp [results, Tryd.results13, go_sem, q0, q1, q2, q3, q4, q5, q6, q7, q8, q9]) rfl ⟨rfl, below_set10 B (Nat.le_refl _) _ _ _ _ _ _ _ _ _ _⟩

set_option maxHeartbeats 1000000 in
theorem parse_e2 (s : ByteArray) (w : World) (hK : Hid (kindR s = (0, 2))) (hs : s.size ≤ maxLen) :
    Calls Tryd.prog 13 #[.string s] w (PPost w 0 0 0 0 0 0 0 0 0 0 2) := by
  have hs' := Lib.hid hs; clear hs
  go_enter Tryd.func13, Tryd.ntmps13
  go_wp2_with fail
  refine (heardKind_w s _ _ _ hK hs'.out).mono ?_
  rintro e w1 ⟨rfl, rfl⟩
  obtain ⟨W, hW⟩ : ∃ W, W = w.alloc (.cells #[.int .i64 0, .int .i64 0, .int .u64 0, .int .u64 0, .int .u64 0, .int .u64 0, .int .i64 0, .int .i64 0, .int .i64 0, .int .i64 0] 26) := ⟨_, rfl⟩
  have R : Blk 26 W w.heap.size ⟨0, 0, 0, 0, 0, 0, 0, 0, 0, 0⟩ := by rw [hW]; exact blk_new 26 w 0 0 0 0 0 0 0 0 0 0
  have B : Below w.heap.size w W := by rw [hW]; exact below_box w _
  rw [← hW]
  clear hW
  have y := R.cells
  obtain ⟨q0, q1, q2, q3, q4, q5, q6, q7, q8, q9⟩ := y
  have g0 := R.free 0
  have g1 := R.free 1
  have g2 := R.free 2
  have g3 := R.free 3
  have g4 := R.free 4
  have g5 := R.free 5
  have g6 := R.free 6
  have g7 := R.free 7
  have g8 := R.free 8
  have g9 := R.free 9
  go_wp2
  exact bodyPost_ret (v := .tuple #[bv 0 0 0 0 0 0 0 0 0 0, .int .i64 2]) (by simp [results, Tryd.results13, go_sem, q0, q1, q2, q3, q4, q5, q6, q7, q8, q9]) rfl ⟨rfl, below_set10 B (Nat.le_refl _) _ _ _ _ _ _ _ _ _ _⟩

set_option maxHeartbeats 1000000 in
theorem parse_e9 (s : ByteArray) (w : World) (hK : Hid (kindR s = (0, 9))) (hs : s.size ≤ maxLen) :
    Calls Tryd.prog 13 #[.string s] w (PPost w 0 0 0 0 0 0 0 0 0 0 9) := by
  have hs' := Lib.hid hs; clear hs
  go_enter Tryd.func13, Tryd.ntmps13
  go_wp2_with fail
  refine (heardKind_w s _ _ _ hK hs'.out).mono ?_
  rintro e w1 ⟨rfl, rfl⟩
  obtain ⟨W, hW⟩ : ∃ W, W = w.alloc (.cells #[.int .i64 0, .int .i64 0, .int .u64 0, .int .u64 0, .int .u64 0, .int .u64 0, .int .i64 0, .int .i64 0, .int .i64 0, .int .i64 0] 26) := ⟨_, rfl⟩
  have R : Blk 26 W w.heap.size ⟨0, 0, 0, 0, 0, 0, 0, 0, 0, 0⟩ := by rw [hW]; exact blk_new 26 w 0 0 0 0 0 0 0 0 0 0
  have B : Below w.heap.size w W := by rw [hW]; exact below_box w _
  rw [← hW]
  clear hW
  have y := R.cells
  obtain ⟨q0, q1, q2, q3, q4, q5, q6, q7, q8, q9⟩ := y
  have g0 := R.free 0
  have g1 := R.free 1
  have g2 := R.free 2
  have g3 := R.free 3
  have g4 := R.free 4
  have g5 := R.free 5
  have g6 := R.free 6
  have g7 := R.free 7
  have g8 := R.free 8
  have g9 := R.free 9
  go_wp2
  exact bodyPost_ret (v := .tuple #[bv 0 0 0 0 0 0 0 0 0 0, .int .i64 9]) (by simp [results, Tryd.results13, go_sem, q0, q1, q2, q3, q4, q5, q6, q7, q8, q9]) rfl ⟨rfl, below_set10 B (Nat.le_refl _) _ _ _ _ _ _ _ _ _ _⟩

/-- The start of the ways on which a kind is heard. -/
def Start (w W : World) : Prop := Blk 26 W w.heap.size ⟨0, 0, 0, 0, 0, 0, 0, 0, 0, 0⟩ ∧ Below w.heap.size w W ∧ Sizes W
theorem start_new (w : World) (hS : Sizes w) : Start w (w.alloc (.cells #[.int .i64 0, .int .i64 0, .int .u64 0, .int .u64 0, .int .u64 0, .int .u64 0, .int .i64 0, .int .i64 0, .int .i64 0, .int .i64 0] 26)) :=
  ⟨blk_new 26 w 0 0 0 0 0 0 0 0 0 0, below_box w _, hS.next (below_box w _)⟩

set_option maxHeartbeats 1000000 in
theorem parse_s1 (s : ByteArray) (w : World) (hS : Sizes w) (hK : Hid (kindR s = (1, 0))) (hs : s.size ≤ maxLen) (hl : s.size < 35) :
    Calls Tryd.prog 13 #[.string s] w (PPost w 0 0 0 0 0 0 0 0 0 0 3) := by
  have hs' := Lib.hid hs
  unfold maxLen at hs
  go_enter Tryd.func13, Tryd.ntmps13
  go_wp2_with fail
  refine (heardKind_w s _ _ _ hK hs'.out).mono ?_
  rintro e w1 ⟨rfl, rfl⟩
  have hst := start_new w hS
  obtain ⟨W, hW⟩ : ∃ W, W = w.alloc (.cells #[.int .i64 0, .int .i64 0, .int .u64 0, .int .u64 0, .int .u64 0, .int .u64 0, .int .i64 0, .int .i64 0, .int .i64 0, .int .i64 0] 26) := ⟨_, rfl⟩
  rw [← hW] at hst
  rw [← hW]
  clear hW hS
  obtain ⟨R, B, S⟩ := hst
  have y := S
  obtain ⟨s0, s1, s2, s3⟩ := y
  have y := R.cells
  obtain ⟨q0, q1, q2, q3, q4, q5, q6, q7, q8, q9⟩ := y
  have g0 := R.free 0
  have g1 := R.free 1
  have g2 := R.free 2
  have g3 := R.free 3
  have g4 := R.free 4
  have g5 := R.free 5
  have g6 := R.free 6
  have g7 := R.free 7
  have g8 := R.free 8
  have g9 := R.free 9
  go_wp2
  exact bodyPost_ret (v := .tuple #[bv 0 0 0 0 0 0 0 0 0 0, .int .i64 3]) (by simp [results, Tryd.results13, go_sem, q0, q1, q2, q3, q4, q5, q6, q7, q8, q9]) rfl ⟨rfl, below_set10 B (Nat.le_refl _) _ _ _ _ _ _ _ _ _ _⟩

set_option maxHeartbeats 1000000 in
theorem parse_s3 (s : ByteArray) (w : World) (hS : Sizes w) (hK : Hid (kindR s = (3, 0))) (hs : s.size ≤ maxLen) (hl : s.size < 36) :
    Calls Tryd.prog 13 #[.string s] w (PPost w 0 0 0 0 0 0 0 0 0 0 3) := by
  have hs' := Lib.hid hs
  unfold maxLen at hs
  go_enter Tryd.func13, Tryd.ntmps13
  go_wp2_with fail
  refine (heardKind_w s _ _ _ hK hs'.out).mono ?_
  rintro e w1 ⟨rfl, rfl⟩
  have hst := start_new w hS
  obtain ⟨W, hW⟩ : ∃ W, W = w.alloc (.cells #[.int .i64 0, .int .i64 0, .int .u64 0, .int .u64 0, .int .u64 0, .int .u64 0, .int .i64 0, .int .i64 0, .int .i64 0, .int .i64 0] 26) := ⟨_, rfl⟩
  rw [← hW] at hst
  rw [← hW]
  clear hW hS
  obtain ⟨R, B, S⟩ := hst
  have y := S
  obtain ⟨s0, s1, s2, s3⟩ := y
  have y := R.cells
  obtain ⟨q0, q1, q2, q3, q4, q5, q6, q7, q8, q9⟩ := y
  have g0 := R.free 0
  have g1 := R.free 1
  have g2 := R.free 2
  have g3 := R.free 3
  have g4 := R.free 4
  have g5 := R.free 5
  have g6 := R.free 6
  have g7 := R.free 7
  have g8 := R.free 8
  have g9 := R.free 9
  go_wp2
  exact bodyPost_ret (v := .tuple #[bv 0 0 0 0 0 0 0 0 0 0, .int .i64 3]) (by simp [results, Tryd.results13, go_sem, q0, q1, q2, q3, q4, q5, q6, q7, q8, q9]) rfl ⟨rfl, below_set10 B (Nat.le_refl _) _ _ _ _ _ _ _ _ _ _⟩

set_option maxHeartbeats 1000000 in
theorem parse_2 (s : ByteArray) (w : World) (hS : Sizes w) (hK : Hid (kindR s = (2, 0))) (hs : s.size ≤ maxLen) (hl : 4 ≤ s.size) :
    Calls Tryd.prog 13 #[.string s] w (PPost w 2 0 0 0 0 0 0 0 0 0 0) := by
  have hs' := Lib.hid hs
  unfold maxLen at hs
  go_enter Tryd.func13, Tryd.ntmps13
  go_wp2_with fail
  refine (heardKind_w s _ _ _ hK hs'.out).mono ?_
  rintro e w1 ⟨rfl, rfl⟩
  have hst := start_new w hS
  obtain ⟨W, hW⟩ : ∃ W, W = w.alloc (.cells #[.int .i64 0, .int .i64 0, .int .u64 0, .int .u64 0, .int .u64 0, .int .u64 0, .int .i64 0, .int .i64 0, .int .i64 0, .int .i64 0] 26) := ⟨_, rfl⟩
  rw [← hW] at hst
  rw [← hW]
  clear hW hS
  obtain ⟨R, B, S⟩ := hst
  have y := S
  obtain ⟨s0, s1, s2, s3⟩ := y
  have y := R.cells
  obtain ⟨q0, q1, q2, q3, q4, q5, q6, q7, q8, q9⟩ := y
  have g0 := R.free 0
  have g1 := R.free 1
  have g2 := R.free 2
  have g3 := R.free 3
  have g4 := R.free 4
  have g5 := R.free 5
  have g6 := R.free 6
  have g7 := R.free 7
  have g8 := R.free 8
  have g9 := R.free 9
  go_wp2
  exact bodyPost_ret (v := .tuple #[bv 2 0 0 0 0 0 0 0 0 0, .int .i64 0]) (by simp [results, Tryd.results13, go_sem, q0, q1, q2, q3, q4, q5, q6, q7, q8, q9]) rfl ⟨rfl, below_set10 B (Nat.le_refl _) _ _ _ _ _ _ _ _ _ _⟩

set_option maxHeartbeats 2000000 in
theorem parse_old (s : ByteArray) (N1 N2 N3 N4 N5 N6 N7 N8 N9 : Nat) (w : World) (hS : Sizes w) (hK : Hid (kindR s = (1, 0))) (h1 : Hid (num s 4 1 = N1)) (h2 : Hid (num s 5 8 = N2)) (h3 : Hid (num s 13 4 = N3)) (h4 : Hid (num s 17 8 = N4)) (h5 : Hid (num s 25 2 = N5)) (h6 : Hid (num s 27 2 = N6)) (h7 : Hid (num s 29 2 = N7)) (h8 : Hid (num s 31 2 = N8)) (h9 : Hid (num s 33 2 = N9)) (hs : s.size ≤ maxLen) (hl : 35 ≤ s.size) (ho : N7 ≤ N6) :
    Calls Tryd.prog 13 #[.string s] w (PPost w 0 0 0 0 0 0 0 0 0 0 1) := by
  have x1 : Hid (num (s.extract 4 s.size) 0 1 = N1) := Lib.hid (by rw [extract_num s 4 0 1 (by omega)]; exact h1.out)
  have x2 : Hid (num (s.extract 4 s.size) 1 8 = N2) := Lib.hid (by rw [extract_num s 4 1 8 (by omega)]; exact h2.out)
  have x3 : Hid (num (s.extract 4 s.size) 9 4 = N3) := Lib.hid (by rw [extract_num s 4 9 4 (by omega)]; exact h3.out)
  have x4 : Hid (num (s.extract 4 s.size) 13 8 = N4) := Lib.hid (by rw [extract_num s 4 13 8 (by omega)]; exact h4.out)
  have x5 : Hid (num (s.extract 4 s.size) 21 2 = N5) := Lib.hid (by rw [extract_num s 4 21 2 (by omega)]; exact h5.out)
  have x6 : Hid (num (s.extract 4 s.size) 23 2 = N6) := Lib.hid (by rw [extract_num s 4 23 2 (by omega)]; exact h6.out)
  have x7 : Hid (num (s.extract 4 s.size) 25 2 = N7) := Lib.hid (by rw [extract_num s 4 25 2 (by omega)]; exact h7.out)
  have x8 : Hid (num (s.extract 4 s.size) 27 2 = N8) := Lib.hid (by rw [extract_num s 4 27 2 (by omega)]; exact h8.out)
  have x9 : Hid (num (s.extract 4 s.size) 29 2 = N9) := Lib.hid (by rw [extract_num s 4 29 2 (by omega)]; exact h9.out)
  have hx1 : (s.extract 4 s.size).size ≤ maxLen := by rw [ByteArray.size_extract]; omega
  have hx2 : 31 ≤ (s.extract 4 s.size).size := by rw [ByteArray.size_extract]; omega
  have X1 := Lib.hid hx1; clear hx1
  have X2 := Lib.hid hx2; clear hx2
  clear h1 h2 h3 h4 h5 h6 h7 h8 h9
  have hs' := Lib.hid hs
  unfold maxLen at hs
  go_enter Tryd.func13, Tryd.ntmps13
  go_wp2_with fail
  refine (heardKind_w s _ _ _ hK hs'.out).mono ?_
  rintro e w1 ⟨rfl, rfl⟩
  have hst := start_new w hS
  obtain ⟨W, hW⟩ : ∃ W, W = w.alloc (.cells #[.int .i64 0, .int .i64 0, .int .u64 0, .int .u64 0, .int .u64 0, .int .u64 0, .int .i64 0, .int .i64 0, .int .i64 0, .int .i64 0] 26) := ⟨_, rfl⟩
  rw [← hW] at hst
  rw [← hW]
  clear hW hS
  obtain ⟨R, B, S⟩ := hst
  have y := S
  obtain ⟨s0, s1, s2, s3⟩ := y
  go_wp2_with fail
  refine (heardNumbers_w 1 (s.extract 4 s.size) N1 N2 N3 N4 N5 N6 N7 N8 N9 _ x1 x2 x3 x4 x5 x6 x7 x8 x9 X1.out X2.out).mono ?_
  rintro e w2 ⟨rfl, hb2⟩
  have R2 := R.next hb2
  have B2 := bw_trans B hb2
  clear R B S s0 s1 s2 s3 hb2 x1 x2 x3 x4 x5 x6 x7 x8 x9
  go_upto_region 9 with (fail)
  obtain ⟨V, hV⟩ : ∃ V, V = w2.alloc (.cells #[.int .i64 1, .int .i64 N1, .int .u64 N2, .int .u64 N3, .int .u64 N4, .int .u64 N5, .int .i64 N6, .int .i64 N7, .int .i64 N8, .int .i64 N9] 26) := ⟨_, rfl⟩
  have kb : Blk 26 V w2.heap.size ⟨1, N1, N2, N3, N4, N5, N6, N7, N8, N9⟩ := by rw [hV]; exact blk_new 26 w2 1 N1 N2 N3 N4 N5 N6 N7 N8 N9
  have R : Blk 26 V w.heap.size ⟨0, 0, 0, 0, 0, 0, 0, 0, 0, 0⟩ := by rw [hV]; exact R2.next (below_box w2 _)
  have B : Below w.heap.size w V := by rw [hV]; exact bw_alloc B2 _
  rw [← hV]
  clear hV R2 B2
  have y := kb.cells
  obtain ⟨z0, z1, z2, z3, z4, z5, z6, z7, z8, z9⟩ := y
  have y := R.cells
  obtain ⟨q0, q1, q2, q3, q4, q5, q6, q7, q8, q9⟩ := y
  have g0 := R.free 0
  have g1 := R.free 1
  have g2 := R.free 2
  have g3 := R.free 3
  have g4 := R.free 4
  have g5 := R.free 5
  have g6 := R.free 6
  have g7 := R.free 7
  have g8 := R.free 8
  have g9 := R.free 9
  have ho' : (N7 : Int) ≤ N6 := by omega
  go_wp2
  exact bodyPost_ret (v := .tuple #[bv 0 0 0 0 0 0 0 0 0 0, .int .i64 1]) (by simp [results, Tryd.results13, go_sem, q0, q1, q2, q3, q4, q5, q6, q7, q8, q9]) rfl ⟨rfl, below_set10 B (Nat.le_refl _) _ _ _ _ _ _ _ _ _ _⟩

set_option maxHeartbeats 2000000 in
theorem parse_1 (s : ByteArray) (N1 N2 N3 N4 N5 N6 N7 N8 N9 : Nat) (w : World) (hS : Sizes w) (hK : Hid (kindR s = (1, 0))) (h1 : Hid (num s 4 1 = N1)) (h2 : Hid (num s 5 8 = N2)) (h3 : Hid (num s 13 4 = N3)) (h4 : Hid (num s 17 8 = N4)) (h5 : Hid (num s 25 2 = N5)) (h6 : Hid (num s 27 2 = N6)) (h7 : Hid (num s 29 2 = N7)) (h8 : Hid (num s 31 2 = N8)) (h9 : Hid (num s 33 2 = N9)) (hs : s.size ≤ maxLen) (hl : 35 ≤ s.size) (ho : N6 < N7) :
    Calls Tryd.prog 13 #[.string s] w (PPost w 1 N1 N2 N3 N4 N5 N6 N7 N8 N9 0) := by
  have x1 : Hid (num (s.extract 4 s.size) 0 1 = N1) := Lib.hid (by rw [extract_num s 4 0 1 (by omega)]; exact h1.out)
  have x2 : Hid (num (s.extract 4 s.size) 1 8 = N2) := Lib.hid (by rw [extract_num s 4 1 8 (by omega)]; exact h2.out)
  have x3 : Hid (num (s.extract 4 s.size) 9 4 = N3) := Lib.hid (by rw [extract_num s 4 9 4 (by omega)]; exact h3.out)
  have x4 : Hid (num (s.extract 4 s.size) 13 8 = N4) := Lib.hid (by rw [extract_num s 4 13 8 (by omega)]; exact h4.out)
  have x5 : Hid (num (s.extract 4 s.size) 21 2 = N5) := Lib.hid (by rw [extract_num s 4 21 2 (by omega)]; exact h5.out)
  have x6 : Hid (num (s.extract 4 s.size) 23 2 = N6) := Lib.hid (by rw [extract_num s 4 23 2 (by omega)]; exact h6.out)
  have x7 : Hid (num (s.extract 4 s.size) 25 2 = N7) := Lib.hid (by rw [extract_num s 4 25 2 (by omega)]; exact h7.out)
  have x8 : Hid (num (s.extract 4 s.size) 27 2 = N8) := Lib.hid (by rw [extract_num s 4 27 2 (by omega)]; exact h8.out)
  have x9 : Hid (num (s.extract 4 s.size) 29 2 = N9) := Lib.hid (by rw [extract_num s 4 29 2 (by omega)]; exact h9.out)
  have hx1 : (s.extract 4 s.size).size ≤ maxLen := by rw [ByteArray.size_extract]; omega
  have hx2 : 31 ≤ (s.extract 4 s.size).size := by rw [ByteArray.size_extract]; omega
  have X1 := Lib.hid hx1; clear hx1
  have X2 := Lib.hid hx2; clear hx2
  clear h1 h2 h3 h4 h5 h6 h7 h8 h9
  have hs' := Lib.hid hs
  unfold maxLen at hs
  go_enter Tryd.func13, Tryd.ntmps13
  go_wp2_with fail
  refine (heardKind_w s _ _ _ hK hs'.out).mono ?_
  rintro e w1 ⟨rfl, rfl⟩
  have hst := start_new w hS
  obtain ⟨W, hW⟩ : ∃ W, W = w.alloc (.cells #[.int .i64 0, .int .i64 0, .int .u64 0, .int .u64 0, .int .u64 0, .int .u64 0, .int .i64 0, .int .i64 0, .int .i64 0, .int .i64 0] 26) := ⟨_, rfl⟩
  rw [← hW] at hst
  rw [← hW]
  clear hW hS
  obtain ⟨R, B, S⟩ := hst
  have y := S
  obtain ⟨s0, s1, s2, s3⟩ := y
  go_wp2_with fail
  refine (heardNumbers_w 1 (s.extract 4 s.size) N1 N2 N3 N4 N5 N6 N7 N8 N9 _ x1 x2 x3 x4 x5 x6 x7 x8 x9 X1.out X2.out).mono ?_
  rintro e w2 ⟨rfl, hb2⟩
  have R2 := R.next hb2
  have B2 := bw_trans B hb2
  clear R B S s0 s1 s2 s3 hb2 x1 x2 x3 x4 x5 x6 x7 x8 x9
  go_upto_region 9 with (fail)
  obtain ⟨V, hV⟩ : ∃ V, V = w2.alloc (.cells #[.int .i64 1, .int .i64 N1, .int .u64 N2, .int .u64 N3, .int .u64 N4, .int .u64 N5, .int .i64 N6, .int .i64 N7, .int .i64 N8, .int .i64 N9] 26) := ⟨_, rfl⟩
  have kb : Blk 26 V w2.heap.size ⟨1, N1, N2, N3, N4, N5, N6, N7, N8, N9⟩ := by rw [hV]; exact blk_new 26 w2 1 N1 N2 N3 N4 N5 N6 N7 N8 N9
  have R : Blk 26 V w.heap.size ⟨0, 0, 0, 0, 0, 0, 0, 0, 0, 0⟩ := by rw [hV]; exact R2.next (below_box w2 _)
  have B : Below w.heap.size w V := by rw [hV]; exact bw_alloc B2 _
  rw [← hV]
  clear hV R2 B2
  have y := kb.cells
  obtain ⟨z0, z1, z2, z3, z4, z5, z6, z7, z8, z9⟩ := y
  have y := R.cells
  obtain ⟨q0, q1, q2, q3, q4, q5, q6, q7, q8, q9⟩ := y
  have g0 := R.free 0
  have g1 := R.free 1
  have g2 := R.free 2
  have g3 := R.free 3
  have g4 := R.free 4
  have g5 := R.free 5
  have g6 := R.free 6
  have g7 := R.free 7
  have g8 := R.free 8
  have g9 := R.free 9
  have ho' : (N6 : Int) < N7 := by omega
  go_wp2
  exact bodyPost_ret (v := .tuple #[bv 1 N1 N2 N3 N4 N5 N6 N7 N8 N9, .int .i64 0]) (by simp [results, Tryd.results13, go_sem, q0, q1, q2, q3, q4, q5, q6, q7, q8, q9]) rfl ⟨rfl, below_set10 B (Nat.le_refl _) _ _ _ _ _ _ _ _ _ _⟩

set_option maxHeartbeats 2000000 in
theorem parse_3 (s : ByteArray) (N1 N2 N3 N4 N5 N6 N7 N8 N9 : Nat) (w : World) (hS : Sizes w) (hK : Hid (kindR s = (3, 0))) (h1 : Hid (num s 4 1 = N1)) (h2 : Hid (num s 5 8 = N2)) (h3 : Hid (num s 13 4 = N3)) (h4 : Hid (num s 17 8 = N4)) (h5 : Hid (num s 25 2 = N5)) (h6 : Hid (num s 27 2 = N6)) (h7 : Hid (num s 29 2 = N7)) (h8 : Hid (num s 31 2 = N8)) (h9 : Hid (num s 33 2 = N9)) (hs : s.size ≤ maxLen) (hl : 36 ≤ s.size) :
    Calls Tryd.prog 13 #[.string s] w (PPost w 3 N1 N2 N3 N4 N5 N6 N7 N8 N9 0) := by
  have x1 : Hid (num (s.extract 4 s.size) 0 1 = N1) := Lib.hid (by rw [extract_num s 4 0 1 (by omega)]; exact h1.out)
  have x2 : Hid (num (s.extract 4 s.size) 1 8 = N2) := Lib.hid (by rw [extract_num s 4 1 8 (by omega)]; exact h2.out)
  have x3 : Hid (num (s.extract 4 s.size) 9 4 = N3) := Lib.hid (by rw [extract_num s 4 9 4 (by omega)]; exact h3.out)
  have x4 : Hid (num (s.extract 4 s.size) 13 8 = N4) := Lib.hid (by rw [extract_num s 4 13 8 (by omega)]; exact h4.out)
  have x5 : Hid (num (s.extract 4 s.size) 21 2 = N5) := Lib.hid (by rw [extract_num s 4 21 2 (by omega)]; exact h5.out)
  have x6 : Hid (num (s.extract 4 s.size) 23 2 = N6) := Lib.hid (by rw [extract_num s 4 23 2 (by omega)]; exact h6.out)
  have x7 : Hid (num (s.extract 4 s.size) 25 2 = N7) := Lib.hid (by rw [extract_num s 4 25 2 (by omega)]; exact h7.out)
  have x8 : Hid (num (s.extract 4 s.size) 27 2 = N8) := Lib.hid (by rw [extract_num s 4 27 2 (by omega)]; exact h8.out)
  have x9 : Hid (num (s.extract 4 s.size) 29 2 = N9) := Lib.hid (by rw [extract_num s 4 29 2 (by omega)]; exact h9.out)
  have hx1 : (s.extract 4 s.size).size ≤ maxLen := by rw [ByteArray.size_extract]; omega
  have hx2 : 31 ≤ (s.extract 4 s.size).size := by rw [ByteArray.size_extract]; omega
  have X1 := Lib.hid hx1; clear hx1
  have X2 := Lib.hid hx2; clear hx2
  clear h1 h2 h3 h4 h5 h6 h7 h8 h9
  have hs' := Lib.hid hs
  unfold maxLen at hs
  go_enter Tryd.func13, Tryd.ntmps13
  go_wp2_with fail
  refine (heardKind_w s _ _ _ hK hs'.out).mono ?_
  rintro e w1 ⟨rfl, rfl⟩
  have hst := start_new w hS
  obtain ⟨W, hW⟩ : ∃ W, W = w.alloc (.cells #[.int .i64 0, .int .i64 0, .int .u64 0, .int .u64 0, .int .u64 0, .int .u64 0, .int .i64 0, .int .i64 0, .int .i64 0, .int .i64 0] 26) := ⟨_, rfl⟩
  rw [← hW] at hst
  rw [← hW]
  clear hW hS
  obtain ⟨R, B, S⟩ := hst
  have y := S
  obtain ⟨s0, s1, s2, s3⟩ := y
  go_wp2_with fail
  refine (heardNumbers_w 3 (s.extract 4 s.size) N1 N2 N3 N4 N5 N6 N7 N8 N9 _ x1 x2 x3 x4 x5 x6 x7 x8 x9 X1.out X2.out).mono ?_
  rintro e w2 ⟨rfl, hb2⟩
  have R2 := R.next hb2
  have B2 := bw_trans B hb2
  clear R B S s0 s1 s2 s3 hb2 x1 x2 x3 x4 x5 x6 x7 x8 x9
  go_upto_region 9 with (fail)
  obtain ⟨V, hV⟩ : ∃ V, V = w2.alloc (.cells #[.int .i64 3, .int .i64 N1, .int .u64 N2, .int .u64 N3, .int .u64 N4, .int .u64 N5, .int .i64 N6, .int .i64 N7, .int .i64 N8, .int .i64 N9] 26) := ⟨_, rfl⟩
  have kb : Blk 26 V w2.heap.size ⟨3, N1, N2, N3, N4, N5, N6, N7, N8, N9⟩ := by rw [hV]; exact blk_new 26 w2 3 N1 N2 N3 N4 N5 N6 N7 N8 N9
  have R : Blk 26 V w.heap.size ⟨0, 0, 0, 0, 0, 0, 0, 0, 0, 0⟩ := by rw [hV]; exact R2.next (below_box w2 _)
  have B : Below w.heap.size w V := by rw [hV]; exact bw_alloc B2 _
  rw [← hV]
  clear hV R2 B2
  have y := kb.cells
  obtain ⟨z0, z1, z2, z3, z4, z5, z6, z7, z8, z9⟩ := y
  have y := R.cells
  obtain ⟨q0, q1, q2, q3, q4, q5, q6, q7, q8, q9⟩ := y
  have g0 := R.free 0
  have g1 := R.free 1
  have g2 := R.free 2
  have g3 := R.free 3
  have g4 := R.free 4
  have g5 := R.free 5
  have g6 := R.free 6
  have g7 := R.free 7
  have g8 := R.free 8
  have g9 := R.free 9
  skip
  go_wp2
  exact bodyPost_ret (v := .tuple #[bv 3 N1 N2 N3 N4 N5 N6 N7 N8 N9, .int .i64 0]) (by simp [results, Tryd.results13, go_sem, q0, q1, q2, q3, q4, q5, q6, q7, q8, q9]) rfl ⟨rfl, below_set10 B (Nat.le_refl _) _ _ _ _ _ _ _ _ _ _⟩

/-- Parse, of whatever bytes. -/
theorem parse_w (s : ByteArray) (w : World) (k f r c b p a m h d E : Int) (hX : Hid (parseR s = (⟨k, f, r, c, b, p, a, m, h, d⟩, E))) (hS : Sizes w) (hs : s.size ≤ maxLen) :
    Calls Tryd.prog 13 #[.string s] w (PPost w k f r c b p a m h d E) := by
  have H := hX.out
  unfold parseR at H
  rcases kind_cases s with ⟨h0, he⟩ | ⟨he, h4, hk⟩
  · have hne : (kindR s).2 ≠ 0 := by omega
    rw [if_pos hne] at H
    simp only [zero, Prod.mk.injEq, Bp.mk.injEq] at H
    obtain ⟨⟨rfl, rfl, rfl, rfl, rfl, rfl, rfl, rfl, rfl, rfl⟩, rfl⟩ := H
    rcases he with he | he | he
    all_goals (have hp : kindR s = (0, _) := Prod.ext h0 he; rw [he])
    · exact parse_e3 s w (Lib.hid hp) hs
    · exact parse_e2 s w (Lib.hid hp) hs
    · exact parse_e9 s w (Lib.hid hp) hs
  · rw [if_neg (by omega)] at H
    unfold bodyR at H
    rcases hk with hk | hk | hk
    · have hp : kindR s = (1, 0) := Prod.ext hk he
      rw [hk] at H
      by_cases hl : s.size < 35
      · rw [if_pos (show s.size < sizeN 1 from hl)] at H
        simp only [zero, Prod.mk.injEq, Bp.mk.injEq] at H
        obtain ⟨⟨rfl, rfl, rfl, rfl, rfl, rfl, rfl, rfl, rfl, rfl⟩, rfl⟩ := H
        exact parse_s1 s w hS (Lib.hid hp) hs hl
      · rw [if_neg (show ¬ s.size < sizeN 1 from hl), if_neg (by decide)] at H
        by_cases ho : num s 29 2 ≤ num s 27 2
        · rw [if_pos ⟨rfl, by simp only [heardAt]; exact Int.ofNat_le.2 ho⟩] at H
          simp only [zero, Prod.mk.injEq, Bp.mk.injEq] at H
          obtain ⟨⟨rfl, rfl, rfl, rfl, rfl, rfl, rfl, rfl, rfl, rfl⟩, rfl⟩ := H
          exact parse_old s _ _ _ _ _ _ _ _ _ w hS (Lib.hid hp) rfl rfl rfl rfl rfl rfl rfl rfl rfl hs (by omega) ho
        · rw [if_neg (fun h => ho (by have := h.2; simp only [heardAt] at this; exact Int.ofNat_le.1 this))] at H
          simp only [heardAt, Prod.mk.injEq, Bp.mk.injEq] at H
          obtain ⟨⟨rfl, rfl, rfl, rfl, rfl, rfl, rfl, rfl, rfl, rfl⟩, rfl⟩ := H
          exact parse_1 s _ _ _ _ _ _ _ _ _ w hS (Lib.hid hp) rfl rfl rfl rfl rfl rfl rfl rfl rfl hs (by omega) (by show num s 27 2 < num s 29 2; omega)
    · have hp : kindR s = (2, 0) := Prod.ext hk he
      rw [hk, if_neg (show ¬ s.size < sizeN 2 by simp [sizeN]; omega), if_pos rfl] at H
      simp only [notice, Prod.mk.injEq, Bp.mk.injEq] at H
      obtain ⟨⟨rfl, rfl, rfl, rfl, rfl, rfl, rfl, rfl, rfl, rfl⟩, rfl⟩ := H
      exact parse_2 s w hS (Lib.hid hp) hs h4
    · have hp : kindR s = (3, 0) := Prod.ext hk he
      rw [hk] at H
      by_cases hl : s.size < 36
      · rw [if_pos (show s.size < sizeN 3 from hl)] at H
        simp only [zero, Prod.mk.injEq, Bp.mk.injEq] at H
        obtain ⟨⟨rfl, rfl, rfl, rfl, rfl, rfl, rfl, rfl, rfl, rfl⟩, rfl⟩ := H
        exact parse_s3 s w hS (Lib.hid hp) hs hl
      · rw [if_neg (show ¬ s.size < sizeN 3 from hl), if_neg (by decide), if_neg (fun h => absurd h.1 (by decide))] at H
        simp only [heardAt, Prod.mk.injEq, Bp.mk.injEq] at H
        obtain ⟨⟨rfl, rfl, rfl, rfl, rfl, rfl, rfl, rfl, rfl, rfl⟩, rfl⟩ := H
        exact parse_3 s _ _ _ _ _ _ _ _ _ w hS (Lib.hid hp) rfl rfl rfl rfl rfl rfl rfl rfl rfl hs (by omega)
end Go.Proofs.YtaifkepojfhgkaaDoor
