/-
  Walks of layer 3: heardNumbers, Parse.
-/
import Derived.Test.YtaifkepojfhgkaaDoorBpH
namespace Go.Proofs.YtaifkepojfhgkaaDoor
set_option linter.unusedVariables false
set_option linter.unusedSimpArgs false
open Go.RowKit Bm

theorem Blk.set1 {T : TypeId} {w : World} {b : Nat} {k f r c br p a m h d : Int} (H : Blk T w b ⟨k, f, r, c, br, p, a, m, h, d⟩) (x : Int) : Blk T (w.setCell ⟨b, 1, none⟩ (.int .i64 x)) b ⟨k, x, r, c, br, p, a, m, h, d⟩ := blk_set (i := 1) (x := .int .i64 x) (cs' := #[.int .i64 k, .int .i64 x, .int .u64 r, .int .u64 c, .int .u64 br, .int .u64 p, .int .i64 a, .int .i64 m, .int .i64 h, .int .i64 d]) H rfl
theorem Blk.set2 {T : TypeId} {w : World} {b : Nat} {k f r c br p a m h d : Int} (H : Blk T w b ⟨k, f, r, c, br, p, a, m, h, d⟩) (x : Int) : Blk T (w.setCell ⟨b, 2, none⟩ (.int .u64 x)) b ⟨k, f, x, c, br, p, a, m, h, d⟩ := blk_set (i := 2) (x := .int .u64 x) (cs' := #[.int .i64 k, .int .i64 f, .int .u64 x, .int .u64 c, .int .u64 br, .int .u64 p, .int .i64 a, .int .i64 m, .int .i64 h, .int .i64 d]) H rfl
theorem Blk.set3 {T : TypeId} {w : World} {b : Nat} {k f r c br p a m h d : Int} (H : Blk T w b ⟨k, f, r, c, br, p, a, m, h, d⟩) (x : Int) : Blk T (w.setCell ⟨b, 3, none⟩ (.int .u64 x)) b ⟨k, f, r, x, br, p, a, m, h, d⟩ := blk_set (i := 3) (x := .int .u64 x) (cs' := #[.int .i64 k, .int .i64 f, .int .u64 r, .int .u64 x, .int .u64 br, .int .u64 p, .int .i64 a, .int .i64 m, .int .i64 h, .int .i64 d]) H rfl
theorem Blk.set4 {T : TypeId} {w : World} {b : Nat} {k f r c br p a m h d : Int} (H : Blk T w b ⟨k, f, r, c, br, p, a, m, h, d⟩) (x : Int) : Blk T (w.setCell ⟨b, 4, none⟩ (.int .u64 x)) b ⟨k, f, r, c, x, p, a, m, h, d⟩ := blk_set (i := 4) (x := .int .u64 x) (cs' := #[.int .i64 k, .int .i64 f, .int .u64 r, .int .u64 c, .int .u64 x, .int .u64 p, .int .i64 a, .int .i64 m, .int .i64 h, .int .i64 d]) H rfl
theorem Blk.set5 {T : TypeId} {w : World} {b : Nat} {k f r c br p a m h d : Int} (H : Blk T w b ⟨k, f, r, c, br, p, a, m, h, d⟩) (x : Int) : Blk T (w.setCell ⟨b, 5, none⟩ (.int .u64 x)) b ⟨k, f, r, c, br, x, a, m, h, d⟩ := blk_set (i := 5) (x := .int .u64 x) (cs' := #[.int .i64 k, .int .i64 f, .int .u64 r, .int .u64 c, .int .u64 br, .int .u64 x, .int .i64 a, .int .i64 m, .int .i64 h, .int .i64 d]) H rfl
theorem Blk.set6 {T : TypeId} {w : World} {b : Nat} {k f r c br p a m h d : Int} (H : Blk T w b ⟨k, f, r, c, br, p, a, m, h, d⟩) (x : Int) : Blk T (w.setCell ⟨b, 6, none⟩ (.int .i64 x)) b ⟨k, f, r, c, br, p, x, m, h, d⟩ := blk_set (i := 6) (x := .int .i64 x) (cs' := #[.int .i64 k, .int .i64 f, .int .u64 r, .int .u64 c, .int .u64 br, .int .u64 p, .int .i64 x, .int .i64 m, .int .i64 h, .int .i64 d]) H rfl
theorem Blk.set7 {T : TypeId} {w : World} {b : Nat} {k f r c br p a m h d : Int} (H : Blk T w b ⟨k, f, r, c, br, p, a, m, h, d⟩) (x : Int) : Blk T (w.setCell ⟨b, 7, none⟩ (.int .i64 x)) b ⟨k, f, r, c, br, p, a, x, h, d⟩ := blk_set (i := 7) (x := .int .i64 x) (cs' := #[.int .i64 k, .int .i64 f, .int .u64 r, .int .u64 c, .int .u64 br, .int .u64 p, .int .i64 a, .int .i64 x, .int .i64 h, .int .i64 d]) H rfl
theorem Blk.set8 {T : TypeId} {w : World} {b : Nat} {k f r c br p a m h d : Int} (H : Blk T w b ⟨k, f, r, c, br, p, a, m, h, d⟩) (x : Int) : Blk T (w.setCell ⟨b, 8, none⟩ (.int .i64 x)) b ⟨k, f, r, c, br, p, a, m, x, d⟩ := blk_set (i := 8) (x := .int .i64 x) (cs' := #[.int .i64 k, .int .i64 f, .int .u64 r, .int .u64 c, .int .u64 br, .int .u64 p, .int .i64 a, .int .i64 m, .int .i64 x, .int .i64 d]) H rfl
theorem Blk.set9 {T : TypeId} {w : World} {b : Nat} {k f r c br p a m h d : Int} (H : Blk T w b ⟨k, f, r, c, br, p, a, m, h, d⟩) (x : Int) : Blk T (w.setCell ⟨b, 9, none⟩ (.int .i64 x)) b ⟨k, f, r, c, br, p, a, m, h, x⟩ := blk_set (i := 9) (x := .int .i64 x) (cs' := #[.int .i64 k, .int .i64 f, .int .u64 r, .int .u64 c, .int .u64 br, .int .u64 p, .int .i64 a, .int .i64 m, .int .i64 h, .int .i64 x]) H rfl
theorem below_set10 {B b : Nat} {a w : World} (h : Below B a w) (hb : B ≤ b) (v0 v1 v2 v3 v4 v5 v6 v7 v8 v9 : Value) : Below B a ((((((((((w.setCell ⟨b, 0, none⟩ v0).setCell ⟨b, 1, none⟩ v1).setCell ⟨b, 2, none⟩ v2).setCell ⟨b, 3, none⟩ v3).setCell ⟨b, 4, none⟩ v4).setCell ⟨b, 5, none⟩ v5).setCell ⟨b, 6, none⟩ v6).setCell ⟨b, 7, none⟩ v7).setCell ⟨b, 8, none⟩ v8).setCell ⟨b, 9, none⟩ v9) :=
  ((((((((((h.setCell (p := ⟨b, 0, none⟩) hb v0).setCell (p := ⟨b, 1, none⟩) hb v1).setCell (p := ⟨b, 2, none⟩) hb v2).setCell (p := ⟨b, 3, none⟩) hb v3).setCell (p := ⟨b, 4, none⟩) hb v4).setCell (p := ⟨b, 5, none⟩) hb v5).setCell (p := ⟨b, 6, none⟩) hb v6).setCell (p := ⟨b, 7, none⟩) hb v7).setCell (p := ⟨b, 8, none⟩) hb v8).setCell (p := ⟨b, 9, none⟩) hb v9)

theorem taker_w (s : ByteArray) (w : World) :
    Calls Tryd.prog 30 #[.string s] w fun e w' => ∃ b1 b2 : Nat, e = .returned (.func (.func 31) #[] #[.pointer (some ⟨b1, 0, none⟩), .pointer (some ⟨b2, 0, none⟩)]) ∧ One 9 w' b1 (.string s) ∧ One 3 w' b2 (.int .i64 ((0 : Nat) : Int)) ∧ b1 ≠ b2 ∧ w.heap.size ≤ b1 ∧ w.heap.size ≤ b2 ∧ Below w.heap.size w w' :=
  (taker_any s w).mono fun e w' ⟨he, h1, h2, hb, _⟩ => ⟨w.heap.size, w.heap.size + 1, he, h1, h2, by omega, by omega, by omega, hb⟩
theorem take_w (s : ByteArray) (A k b1 b2 N : Nat) (w : World) (hN : Hid (num s A k = N)) (h1 : One 9 w b1 (.string s)) (h2 : One 3 w b2 (.int .i64 (A : Int))) (hne : b1 ≠ b2) (hk : k ≤ 8) (hs : s.size ≤ maxLen) (hA : A + k ≤ s.size) :
    Calls Tryd.prog 31 #[.int .i64 k, .pointer (some ⟨b1, 0, none⟩), .pointer (some ⟨b2, 0, none⟩)] w fun e w' => e = .returned (.int .u64 N) ∧ One 9 w' b1 (.string s) ∧ One 3 w' b2 (.int .i64 ((A + k : Nat) : Int)) ∧ w.grownBy w' (some b2) := by
  have H := take_any s A k b1 b2 w h1 h2 hne hk hs hA
  rw [hN.out] at H
  exact H
theorem num_bd {s : ByteArray} {A k N : Nat} (h : num s A k = N) : N < 256 ^ k := h ▸ num_lt s A k

set_option maxHeartbeats 2000000 in
theorem heardNumbers_w (k : Int) (s : ByteArray) (N1 N2 N3 N4 N5 N6 N7 N8 N9 : Nat) (w : World) (h1 : Hid (num s 0 1 = N1)) (h2 : Hid (num s 1 8 = N2)) (h3 : Hid (num s 9 4 = N3)) (h4 : Hid (num s 13 8 = N4)) (h5 : Hid (num s 21 2 = N5)) (h6 : Hid (num s 23 2 = N6)) (h7 : Hid (num s 25 2 = N7)) (h8 : Hid (num s 27 2 = N8)) (h9 : Hid (num s 29 2 = N9)) (hs : s.size ≤ maxLen) (hl : 31 ≤ s.size) :
    Calls Tryd.prog 24 #[.int .i64 k, .string s] w fun e w' => e = .returned (bv k N1 N2 N3 N4 N5 N6 N7 N8 N9) ∧ Below w.heap.size w w' := by
  have d1 : N1 < 256 := num_bd h1.out
  have d2 : N2 < 18446744073709551616 := num_bd h2.out
  have d3 : N3 < 4294967296 := num_bd h3.out
  have d4 : N4 < 18446744073709551616 := num_bd h4.out
  have d5 : N5 < 65536 := num_bd h5.out
  have d6 : N6 < 65536 := num_bd h6.out
  have d7 : N7 < 65536 := num_bd h7.out
  have d8 : N8 < 65536 := num_bd h8.out
  have d9 : N9 < 65536 := num_bd h9.out
  have hs' := Lib.hid hs; clear hs
  go_enter Tryd.func24, Tryd.ntmps24
  go_wp2_with fail
  refine (taker_w s _).mono ?_
  rintro e w1 ⟨b1, b2, rfl, o1, o2, hne, l1, l2, hb1⟩
  have R := (blk_new 26 w 0 0 0 0 0 0 0 0 0 0).next hb1
  have B := bw_trans (below_box w _) hb1
  simp at l1 l2
  have x1 := o1.lt
  have x2 := o2.lt
  clear hb1
  go_wp2_with fail
  obtain ⟨nb, hnb⟩ : ∃ nb, nb = w1.heap.size := ⟨_, rfl⟩
  have kb : Blk 26 (w1.alloc (.cells #[.int .i64 k, .int .i64 0, .int .u64 0, .int .u64 0, .int .u64 0, .int .u64 0, .int .i64 0, .int .i64 0, .int .i64 0, .int .i64 0] 26)) nb ⟨k, 0, 0, 0, 0, 0, 0, 0, 0, 0⟩ := by rw [hnb]; exact blk_new 26 w1 k 0 0 0 0 0 0 0 0 0
  replace R := R.next (below_box w1 (.cells #[.int .i64 k, .int .i64 0, .int .u64 0, .int .u64 0, .int .u64 0, .int .u64 0, .int .i64 0, .int .i64 0, .int .i64 0, .int .i64 0] 26))
  replace o1 := o1.below (below_box w1 (.cells #[.int .i64 k, .int .i64 0, .int .u64 0, .int .u64 0, .int .u64 0, .int .u64 0, .int .i64 0, .int .i64 0, .int .i64 0, .int .i64 0] 26)) x1
  replace o2 := o2.below (below_box w1 (.cells #[.int .i64 k, .int .i64 0, .int .u64 0, .int .u64 0, .int .u64 0, .int .u64 0, .int .i64 0, .int .i64 0, .int .i64 0, .int .i64 0] 26)) x2
  replace B := bw_alloc B (.cells #[.int .i64 k, .int .i64 0, .int .u64 0, .int .u64 0, .int .u64 0, .int .u64 0, .int .i64 0, .int .i64 0, .int .i64 0, .int .i64 0] 26)
  have m1 : b1 ≠ nb := by omega
  have m2 : nb ≠ b2 := by omega
  have m3 : w.heap.size ≠ b2 := by omega
  have m4 : w.heap.size ≠ nb := by have := R.lt; have := B.size; omega
  have m5 : w.heap.size ≤ nb := by have := B.size; omega
  have m6 : w.heap.size ≤ b2 := by omega
  rw [← hnb]
  clear hnb x1 x2 l1 l2
  refine (take_w s 0 1 b1 b2 N1 _ h1 o1 o2 hne (by omega) hs'.out (by omega)).mono ?_
  rintro e y1 ⟨rfl, o1', o2', hg⟩
  have kb' := kb.grown hg m2
  have R' := R.grown hg m3
  have B' := B.grown hg B.size (by rintro q hq; cases hq; exact m6)
  clear hg kb R B o1 o2
  have qc : y1.cell? ⟨nb, 1, none⟩ = some (.int .i64 0) := by have z := kb'.cells; obtain ⟨z0, z1, z2, z3, z4, z5, z6, z7, z8, z9⟩ := z; exact z1
  have qf := kb'.free 1
  have kb := kb'.set1 N1
  have R := R'.other 1 (.int .i64 N1) m4
  have o1 := o1'.other 1 (.int .i64 N1) m1
  have o2 := o2'.other 1 (.int .i64 N1) m2.symm
  have B := B'.setCell (p := ⟨nb, 1, none⟩) m5 (.int .i64 N1)
  clear kb' R' o1' o2' B'
  go_wp2_with fail
  refine (take_w s 1 8 b1 b2 N2 _ h2 o1 o2 hne (by omega) hs'.out (by omega)).mono ?_
  rintro e y2 ⟨rfl, o1', o2', hg⟩
  have kb' := kb.grown hg m2
  have R' := R.grown hg m3
  have B' := B.grown hg B.size (by rintro q hq; cases hq; exact m6)
  clear hg kb R B o1 o2 qc qf
  have qc : y2.cell? ⟨nb, 2, none⟩ = some (.int .u64 0) := by have z := kb'.cells; obtain ⟨z0, z1, z2, z3, z4, z5, z6, z7, z8, z9⟩ := z; exact z2
  have qf := kb'.free 2
  have kb := kb'.set2 N2
  have R := R'.other 2 (.int .u64 N2) m4
  have o1 := o1'.other 2 (.int .u64 N2) m1
  have o2 := o2'.other 2 (.int .u64 N2) m2.symm
  have B := B'.setCell (p := ⟨nb, 2, none⟩) m5 (.int .u64 N2)
  clear kb' R' o1' o2' B'
  go_wp2_with fail
  refine (take_w s 9 4 b1 b2 N3 _ h3 o1 o2 hne (by omega) hs'.out (by omega)).mono ?_
  rintro e y3 ⟨rfl, o1', o2', hg⟩
  have kb' := kb.grown hg m2
  have R' := R.grown hg m3
  have B' := B.grown hg B.size (by rintro q hq; cases hq; exact m6)
  clear hg kb R B o1 o2 qc qf
  have qc : y3.cell? ⟨nb, 3, none⟩ = some (.int .u64 0) := by have z := kb'.cells; obtain ⟨z0, z1, z2, z3, z4, z5, z6, z7, z8, z9⟩ := z; exact z3
  have qf := kb'.free 3
  have kb := kb'.set3 N3
  have R := R'.other 3 (.int .u64 N3) m4
  have o1 := o1'.other 3 (.int .u64 N3) m1
  have o2 := o2'.other 3 (.int .u64 N3) m2.symm
  have B := B'.setCell (p := ⟨nb, 3, none⟩) m5 (.int .u64 N3)
  clear kb' R' o1' o2' B'
  go_wp2_with fail
  refine (take_w s 13 8 b1 b2 N4 _ h4 o1 o2 hne (by omega) hs'.out (by omega)).mono ?_
  rintro e y4 ⟨rfl, o1', o2', hg⟩
  have kb' := kb.grown hg m2
  have R' := R.grown hg m3
  have B' := B.grown hg B.size (by rintro q hq; cases hq; exact m6)
  clear hg kb R B o1 o2 qc qf
  have qc : y4.cell? ⟨nb, 4, none⟩ = some (.int .u64 0) := by have z := kb'.cells; obtain ⟨z0, z1, z2, z3, z4, z5, z6, z7, z8, z9⟩ := z; exact z4
  have qf := kb'.free 4
  have kb := kb'.set4 N4
  have R := R'.other 4 (.int .u64 N4) m4
  have o1 := o1'.other 4 (.int .u64 N4) m1
  have o2 := o2'.other 4 (.int .u64 N4) m2.symm
  have B := B'.setCell (p := ⟨nb, 4, none⟩) m5 (.int .u64 N4)
  clear kb' R' o1' o2' B'
  go_wp2_with fail
  refine (take_w s 21 2 b1 b2 N5 _ h5 o1 o2 hne (by omega) hs'.out (by omega)).mono ?_
  rintro e y5 ⟨rfl, o1', o2', hg⟩
  have kb' := kb.grown hg m2
  have R' := R.grown hg m3
  have B' := B.grown hg B.size (by rintro q hq; cases hq; exact m6)
  clear hg kb R B o1 o2 qc qf
  have qc : y5.cell? ⟨nb, 5, none⟩ = some (.int .u64 0) := by have z := kb'.cells; obtain ⟨z0, z1, z2, z3, z4, z5, z6, z7, z8, z9⟩ := z; exact z5
  have qf := kb'.free 5
  have kb := kb'.set5 N5
  have R := R'.other 5 (.int .u64 N5) m4
  have o1 := o1'.other 5 (.int .u64 N5) m1
  have o2 := o2'.other 5 (.int .u64 N5) m2.symm
  have B := B'.setCell (p := ⟨nb, 5, none⟩) m5 (.int .u64 N5)
  clear kb' R' o1' o2' B'
  go_wp2_with fail
  refine (take_w s 23 2 b1 b2 N6 _ h6 o1 o2 hne (by omega) hs'.out (by omega)).mono ?_
  rintro e y6 ⟨rfl, o1', o2', hg⟩
  have kb' := kb.grown hg m2
  have R' := R.grown hg m3
  have B' := B.grown hg B.size (by rintro q hq; cases hq; exact m6)
  clear hg kb R B o1 o2 qc qf
  have qc : y6.cell? ⟨nb, 6, none⟩ = some (.int .i64 0) := by have z := kb'.cells; obtain ⟨z0, z1, z2, z3, z4, z5, z6, z7, z8, z9⟩ := z; exact z6
  have qf := kb'.free 6
  have kb := kb'.set6 N6
  have R := R'.other 6 (.int .i64 N6) m4
  have o1 := o1'.other 6 (.int .i64 N6) m1
  have o2 := o2'.other 6 (.int .i64 N6) m2.symm
  have B := B'.setCell (p := ⟨nb, 6, none⟩) m5 (.int .i64 N6)
  clear kb' R' o1' o2' B'
  go_wp2_with fail
  refine (take_w s 25 2 b1 b2 N7 _ h7 o1 o2 hne (by omega) hs'.out (by omega)).mono ?_
  rintro e y7 ⟨rfl, o1', o2', hg⟩
  have kb' := kb.grown hg m2
  have R' := R.grown hg m3
  have B' := B.grown hg B.size (by rintro q hq; cases hq; exact m6)
  clear hg kb R B o1 o2 qc qf
  have qc : y7.cell? ⟨nb, 7, none⟩ = some (.int .i64 0) := by have z := kb'.cells; obtain ⟨z0, z1, z2, z3, z4, z5, z6, z7, z8, z9⟩ := z; exact z7
  have qf := kb'.free 7
  have kb := kb'.set7 N7
  have R := R'.other 7 (.int .i64 N7) m4
  have o1 := o1'.other 7 (.int .i64 N7) m1
  have o2 := o2'.other 7 (.int .i64 N7) m2.symm
  have B := B'.setCell (p := ⟨nb, 7, none⟩) m5 (.int .i64 N7)
  clear kb' R' o1' o2' B'
  go_wp2_with fail
  refine (take_w s 27 2 b1 b2 N8 _ h8 o1 o2 hne (by omega) hs'.out (by omega)).mono ?_
  rintro e y8 ⟨rfl, o1', o2', hg⟩
  have kb' := kb.grown hg m2
  have R' := R.grown hg m3
  have B' := B.grown hg B.size (by rintro q hq; cases hq; exact m6)
  clear hg kb R B o1 o2 qc qf
  have qc : y8.cell? ⟨nb, 8, none⟩ = some (.int .i64 0) := by have z := kb'.cells; obtain ⟨z0, z1, z2, z3, z4, z5, z6, z7, z8, z9⟩ := z; exact z8
  have qf := kb'.free 8
  have kb := kb'.set8 N8
  have R := R'.other 8 (.int .i64 N8) m4
  have o1 := o1'.other 8 (.int .i64 N8) m1
  have o2 := o2'.other 8 (.int .i64 N8) m2.symm
  have B := B'.setCell (p := ⟨nb, 8, none⟩) m5 (.int .i64 N8)
  clear kb' R' o1' o2' B'
  go_wp2_with fail
  refine (take_w s 29 2 b1 b2 N9 _ h9 o1 o2 hne (by omega) hs'.out (by omega)).mono ?_
  rintro e y9 ⟨rfl, o1', o2', hg⟩
  have kb' := kb.grown hg m2
  have R' := R.grown hg m3
  have B' := B.grown hg B.size (by rintro q hq; cases hq; exact m6)
  clear hg kb R B o1 o2 qc qf
  have qc : y9.cell? ⟨nb, 9, none⟩ = some (.int .i64 0) := by have z := kb'.cells; obtain ⟨z0, z1, z2, z3, z4, z5, z6, z7, z8, z9⟩ := z; exact z9
  have qf := kb'.free 9
  have kb := kb'.set9 N9
  have R := R'.other 9 (.int .i64 N9) m4
  have o1 := o1'.other 9 (.int .i64 N9) m1
  have o2 := o2'.other 9 (.int .i64 N9) m2.symm
  have B := B'.setCell (p := ⟨nb, 9, none⟩) m5 (.int .i64 N9)
  clear kb' R' o1' o2' B'
  go_upto_region 12 with (fail)
  obtain ⟨W, hW⟩ : ∃ W, W = y9.setCell ⟨nb, 9, none⟩ (.int .i64 N9) := ⟨_, rfl⟩
  rw [← hW] at kb R B
  rw [← hW]
  clear hW o1 o2 qc qf
  have y := kb.cells
  obtain ⟨z0, z1, z2, z3, z4, z5, z6, z7, z8, z9⟩ := y
  have y := R.cells
  obtain ⟨q0, q1, q2, q3, q4, q5, q6, q7, q8, q9⟩ := y
  have g0 := R.free 0
  have g1 := R.free 1
  have g2 := R.free 2
  have g3 := R.free 3
  have g4 := R.free 4
  have g5 := R.free 5
  have g6 := R.free 6
  have g7 := R.free 7
  have g8 := R.free 8
  have g9 := R.free 9
  go_wp2
  exact bodyPost_ret (v := bv k N1 N2 N3 N4 N5 N6 N7 N8 N9) (by simp [results, Tryd.results24, go_sem, q0, q1, q2, q3, q4, q5, q6, q7, q8, q9]) rfl ⟨rfl, below_set10 B (Nat.le_refl _) _ _ _ _ _ _ _ _ _ _⟩
end Go.Proofs.YtaifkepojfhgkaaDoor
