/-
  Walks of layer 4: Parse.
-/
import Derived.Test.YtaifkepojfhgkaaDoorSsA
import Derived.Test.YtaifkepojfhgkaaDoorBpR
namespace Go.Proofs.YtaifkepojfhgkaaDoor
set_option linter.unusedVariables false
set_option linter.unusedSimpArgs false
open Go.RowKit Bm

abbrev SPost (w : World) (k f r c b p a m h d V E : Int) (e : Ending) (w' : World) : Prop := e = .returned (.tuple #[bv k f r c b p a m h d, .int .i64 V, .int .i64 E]) ∧ Below w.heap.size w w'
theorem size_w (k : Int) (N : Int) (w : World) (h : Hid ((sizeN k : Int) = N)) (hS : Sizes w) :
    Calls Tryd.prog 14 #[.int .i64 k] w fun e w' => e = .returned (.int .i64 N) ∧ w = w' := by
  have H := size_any k w hS
  rw [h.out] at H
  exact H

/-- The string's box, the answer's box; the table stands. -/
structure SInv (w : World) (s : ByteArray) (W : World) : Prop where
  o : One 9 W w.heap.size (.string s)
  r : Blk 26 W (w.heap.size + 1) ⟨0, 0, 0, 0, 0, 0, 0, 0, 0, 0⟩
  t : Sizes W
  b : Below w.heap.size w W
theorem SInv.next {w : World} {s : ByteArray} {W V : World} (h : SInv w s W) (hb : Below W.heap.size W V) : SInv w s V :=
  ⟨h.o.below hb h.o.lt, h.r.next hb, h.t.next hb, bw_trans h.b hb⟩

theorem sinv_new (w : World) (s : ByteArray) (hS : Sizes w) : SInv w s ((w.alloc (.cells #[.string s] 9)).alloc (.cells #[.int .i64 0, .int .i64 0, .int .u64 0, .int .u64 0, .int .u64 0, .int .u64 0, .int .i64 0, .int .i64 0, .int .i64 0, .int .i64 0] 26)) := by
  have o1 := one_new 9 w (.string s)
  have k1 := blk_new 26 (w.alloc (.cells #[.string s] 9)) 0 0 0 0 0 0 0 0 0 0
  have e : (w.alloc (.cells #[.string s] 9)).heap.size = w.heap.size + 1 := by simp
  rw [e] at k1
  exact ⟨o1.below (below_box _ _) o1.lt, k1, (hS.next (below_box w _)).next (below_box _ _), bw_alloc (below_box w _) _⟩

set_option maxHeartbeats 1000000 in
theorem sparse_e (s : ByteArray) (w : World) (k f r c b p a m h d E : Int) (hE : E ≠ 0) (hX : Hid (parseR s = (⟨k, f, r, c, b, p, a, m, h, d⟩, E))) (hS : Sizes w) (hs : s.size ≤ maxLen) :
    Calls Tryd.prog 8 #[.string s] w (SPost w 0 0 0 0 0 0 0 0 0 0 0 E) := by
  have HS := Lib.hid hs
  unfold maxLen at hs
  go_enter Tryd.func8, Tryd.ntmps8
  go_wp2_with fail
  have I0 := sinv_new w s hS
  refine (parse_w s _ k f r c b p a m h d E hX I0.t HS.out).mono ?_
  rintro e w1 ⟨rfl, hb1⟩
  have I1 := I0.next hb1
  clear hb1 I0 hS hX
  go_upto_region 2 with (fail)
  obtain ⟨W, hW⟩ : ∃ W, W = w1.alloc (.cells #[.int .i64 k, .int .i64 f, .int .u64 r, .int .u64 c, .int .u64 b, .int .u64 p, .int .i64 a, .int .i64 m, .int .i64 h, .int .i64 d] 26) := ⟨_, rfl⟩
  have I2 : SInv w s W := by rw [hW]; exact I1.next (below_box w1 _)
  have x2 : Blk 26 W w1.heap.size ⟨k, f, r, c, b, p, a, m, h, d⟩ := by rw [hW]; exact blk_new 26 w1 k f r c b p a m h d
  have l2 := x2.lt
  rw [← hW]
  clear hW I1
  have y := I2.r.cells
  obtain ⟨q0, q1, q2, q3, q4, q5, q6, q7, q8, q9⟩ := y
  have g0 := I2.r.free 0
  have g1 := I2.r.free 1
  have g2 := I2.r.free 2
  have g3 := I2.r.free 3
  have g4 := I2.r.free 4
  have g5 := I2.r.free 5
  have g6 := I2.r.free 6
  have g7 := I2.r.free 7
  have g8 := I2.r.free 8
  have g9 := I2.r.free 9
  go_wp2
  exact bodyPost_ret (v := .tuple #[bv 0 0 0 0 0 0 0 0 0 0, .int .i64 0, .int .i64 E]) (by simp [results, Tryd.results8, go_sem, q0, q1, q2, q3, q4, q5, q6, q7, q8, q9]) rfl ⟨rfl, below_set10 I2.b (by omega) _ _ _ _ _ _ _ _ _ _⟩

set_option maxHeartbeats 1000000 in
theorem sparse_2 (s : ByteArray) (w : World) (k f r c b p a m h d : Int) (HK : Hid (k = 2)) (hX : Hid (parseR s = (⟨k, f, r, c, b, p, a, m, h, d⟩, 0))) (hS : Sizes w) (hs : s.size ≤ maxLen) :
    Calls Tryd.prog 8 #[.string s] w (SPost w 0 0 0 0 0 0 0 0 0 0 0 9) := by
  have HS := Lib.hid hs
  unfold maxLen at hs
  go_enter Tryd.func8, Tryd.ntmps8
  go_wp2_with fail
  have I0 := sinv_new w s hS
  refine (parse_w s _ k f r c b p a m h d 0 hX I0.t HS.out).mono ?_
  rintro e w1 ⟨rfl, hb1⟩
  have I1 := I0.next hb1
  clear hb1 I0 hS hX
  go_upto_region 2 with (fail)
  obtain ⟨W, hW⟩ : ∃ W, W = w1.alloc (.cells #[.int .i64 k, .int .i64 f, .int .u64 r, .int .u64 c, .int .u64 b, .int .u64 p, .int .i64 a, .int .i64 m, .int .i64 h, .int .i64 d] 26) := ⟨_, rfl⟩
  have I2 : SInv w s W := by rw [hW]; exact I1.next (below_box w1 _)
  have x2 : Blk 26 W w1.heap.size ⟨k, f, r, c, b, p, a, m, h, d⟩ := by rw [hW]; exact blk_new 26 w1 k f r c b p a m h d
  have l2 := x2.lt
  rw [← hW]
  clear hW I1
  have hk := HK.out
  have y := x2.cells
  obtain ⟨z0, z1, z2, z3, z4, z5, z6, z7, z8, z9⟩ := y
  have y := I2.r.cells
  obtain ⟨q0, q1, q2, q3, q4, q5, q6, q7, q8, q9⟩ := y
  have g0 := I2.r.free 0
  have g1 := I2.r.free 1
  have g2 := I2.r.free 2
  have g3 := I2.r.free 3
  have g4 := I2.r.free 4
  have g5 := I2.r.free 5
  have g6 := I2.r.free 6
  have g7 := I2.r.free 7
  have g8 := I2.r.free 8
  have g9 := I2.r.free 9
  go_wp2
  exact bodyPost_ret (v := .tuple #[bv 0 0 0 0 0 0 0 0 0 0, .int .i64 0, .int .i64 9]) (by simp [results, Tryd.results8, go_sem, q0, q1, q2, q3, q4, q5, q6, q7, q8, q9]) rfl ⟨rfl, below_set10 I2.b (by omega) _ _ _ _ _ _ _ _ _ _⟩

set_option maxHeartbeats 1000000 in
theorem sparse_b (s : ByteArray) (w : World) (k f r c b p a m h d V E : Int) (n : Nat) (hn : n ≤ 36) (HN : Hid ((sizeN k : Int) = (n : Int))) (hk : ¬ k = 2) (hE : E ≠ 0) (hV : Hid (behindR s n = (V, E))) (hX : Hid (parseR s = (⟨k, f, r, c, b, p, a, m, h, d⟩, 0))) (hS : Sizes w) (hs : s.size ≤ maxLen) :
    Calls Tryd.prog 8 #[.string s] w (SPost w 0 0 0 0 0 0 0 0 0 0 0 E) := by
  have HS := Lib.hid hs
  unfold maxLen at hs
  go_enter Tryd.func8, Tryd.ntmps8
  go_wp2_with fail
  have I0 := sinv_new w s hS
  have hmf : ∀ (fn : Fn) (first cap : Array Value) (w : World), (Instr.makeFunc fn first cap).run Tryd.prog w = .ok (.func fn first cap) w := fun _ _ _ _ => rfl
  refine (parse_w s _ k f r c b p a m h d 0 hX I0.t HS.out).mono ?_
  rintro e w1 ⟨rfl, hb1⟩
  have I1 := I0.next hb1
  clear hb1 I0 hS hX
  go_upto_region 2 with (fail)
  obtain ⟨W, hW⟩ : ∃ W, W = w1.alloc (.cells #[.int .i64 k, .int .i64 f, .int .u64 r, .int .u64 c, .int .u64 b, .int .u64 p, .int .i64 a, .int .i64 m, .int .i64 h, .int .i64 d] 26) := ⟨_, rfl⟩
  have I2 : SInv w s W := by rw [hW]; exact I1.next (below_box w1 _)
  have x2 : Blk 26 W w1.heap.size ⟨k, f, r, c, b, p, a, m, h, d⟩ := by rw [hW]; exact blk_new 26 w1 k f r c b p a m h d
  have l2 := x2.lt
  rw [← hW]
  clear hW I1
  have y := x2.cells
  obtain ⟨z0, z1, z2, z3, z4, z5, z6, z7, z8, z9⟩ := y
  go_wp2_with fail
  refine (size_w k n _ HN I2.t).mono ?_
  rintro e w3 ⟨rfl, rfl⟩
  have I3 := I2.next (below_box W (.cells #[.int .i64 n] 3))
  have x3 := x2.next (below_box W (.cells #[.int .i64 n] 3))
  have o3 := one_new 3 W (.int .i64 n)
  have c1 := I3.o.cell
  have c2 := o3.cell
  clear z0 z1 z2 z3 z4 z5 z6 z7 z8 z9
  go_wp2_with fail
  refine (heardVlan_w s n w.heap.size W.heap.size _ V E _ hV rfl I3.o o3 HS.out hn).mono ?_
  rintro e w4 ⟨rfl, hb4⟩
  have I4 := I3.next hb4
  have x4 := x3.next hb4
  clear hb4 I3 x3 o3 c1 c2 I2 x2 HN hV
  have y := x4.cells
  obtain ⟨z0, z1, z2, z3, z4, z5, z6, z7, z8, z9⟩ := y
  have y := I4.r.cells
  obtain ⟨q0, q1, q2, q3, q4, q5, q6, q7, q8, q9⟩ := y
  have g0 := I4.r.free 0
  have g1 := I4.r.free 1
  have g2 := I4.r.free 2
  have g3 := I4.r.free 3
  have g4 := I4.r.free 4
  have g5 := I4.r.free 5
  have g6 := I4.r.free 6
  have g7 := I4.r.free 7
  have g8 := I4.r.free 8
  have g9 := I4.r.free 9
  go_wp2
  exact bodyPost_ret (v := .tuple #[bv 0 0 0 0 0 0 0 0 0 0, .int .i64 0, .int .i64 E]) (by simp [results, Tryd.results8, go_sem, q0, q1, q2, q3, q4, q5, q6, q7, q8, q9]) rfl ⟨rfl, below_set10 I4.b (by omega) _ _ _ _ _ _ _ _ _ _⟩

set_option maxHeartbeats 1000000 in
theorem sparse_ok (s : ByteArray) (w : World) (k f r c b p a m h d V : Int) (n : Nat) (hn : n ≤ 36) (HN : Hid ((sizeN k : Int) = (n : Int))) (hk : ¬ k = 2) (hV : Hid (behindR s n = (V, 0))) (hX : Hid (parseR s = (⟨k, f, r, c, b, p, a, m, h, d⟩, 0))) (hS : Sizes w) (hs : s.size ≤ maxLen) :
    Calls Tryd.prog 8 #[.string s] w (SPost w k f r c b p a m h d V 0) := by
  have HS := Lib.hid hs
  unfold maxLen at hs
  go_enter Tryd.func8, Tryd.ntmps8
  go_wp2_with fail
  have I0 := sinv_new w s hS
  have hmf : ∀ (fn : Fn) (first cap : Array Value) (w : World), (Instr.makeFunc fn first cap).run Tryd.prog w = .ok (.func fn first cap) w := fun _ _ _ _ => rfl
  refine (parse_w s _ k f r c b p a m h d 0 hX I0.t HS.out).mono ?_
  rintro e w1 ⟨rfl, hb1⟩
  have I1 := I0.next hb1
  clear hb1 I0 hS hX
  go_upto_region 2 with (fail)
  obtain ⟨W, hW⟩ : ∃ W, W = w1.alloc (.cells #[.int .i64 k, .int .i64 f, .int .u64 r, .int .u64 c, .int .u64 b, .int .u64 p, .int .i64 a, .int .i64 m, .int .i64 h, .int .i64 d] 26) := ⟨_, rfl⟩
  have I2 : SInv w s W := by rw [hW]; exact I1.next (below_box w1 _)
  have x2 : Blk 26 W w1.heap.size ⟨k, f, r, c, b, p, a, m, h, d⟩ := by rw [hW]; exact blk_new 26 w1 k f r c b p a m h d
  have l2 := x2.lt
  rw [← hW]
  clear hW I1
  have y := x2.cells
  obtain ⟨z0, z1, z2, z3, z4, z5, z6, z7, z8, z9⟩ := y
  go_wp2_with fail
  refine (size_w k n _ HN I2.t).mono ?_
  rintro e w3 ⟨rfl, rfl⟩
  have I3 := I2.next (below_box W (.cells #[.int .i64 n] 3))
  have x3 := x2.next (below_box W (.cells #[.int .i64 n] 3))
  have o3 := one_new 3 W (.int .i64 n)
  have c1 := I3.o.cell
  have c2 := o3.cell
  clear z0 z1 z2 z3 z4 z5 z6 z7 z8 z9
  go_wp2_with fail
  refine (heardVlan_w s n w.heap.size W.heap.size _ V 0 _ hV rfl I3.o o3 HS.out hn).mono ?_
  rintro e w4 ⟨rfl, hb4⟩
  have I4 := I3.next hb4
  have x4 := x3.next hb4
  clear hb4 I3 x3 o3 c1 c2 I2 x2 HN hV
  have y := x4.cells
  obtain ⟨z0, z1, z2, z3, z4, z5, z6, z7, z8, z9⟩ := y
  have y := I4.r.cells
  obtain ⟨q0, q1, q2, q3, q4, q5, q6, q7, q8, q9⟩ := y
  have g0 := I4.r.free 0
  have g1 := I4.r.free 1
  have g2 := I4.r.free 2
  have g3 := I4.r.free 3
  have g4 := I4.r.free 4
  have g5 := I4.r.free 5
  have g6 := I4.r.free 6
  have g7 := I4.r.free 7
  have g8 := I4.r.free 8
  have g9 := I4.r.free 9
  go_wp2
  exact bodyPost_ret (v := .tuple #[bv k f r c b p a m h d, .int .i64 V, .int .i64 0]) (by simp [results, Tryd.results8, go_sem, q0, q1, q2, q3, q4, q5, q6, q7, q8, q9]) rfl ⟨rfl, below_set10 I4.b (by omega) _ _ _ _ _ _ _ _ _ _⟩

theorem sizeN_le (k : Int) : sizeN k ≤ 36 := by
  unfold sizeN; repeat' split
  all_goals omega
theorem sparse_w (s : ByteArray) (w : World) (k f r c b p a m h d V E : Int) (hX : Hid (sparseR s = (⟨k, f, r, c, b, p, a, m, h, d⟩, V, E))) (hS : Sizes w) (hs : s.size ≤ maxLen) :
    Calls Tryd.prog 8 #[.string s] w (SPost w k f r c b p a m h d V E) := by
  have H := hX.out
  clear hX
  unfold sparseR at H
  obtain ⟨⟨⟨x0, x1, x2, x3, x4, x5, x6, x7, x8, x9⟩, F⟩, hP⟩ : ∃ q, parseR s = q := ⟨_, rfl⟩
  rw [hP] at H
  simp only at H
  by_cases hF : F = 0
  · subst hF
    rw [if_neg (by simp)] at H
    by_cases hk : x0 = 2
    · rw [if_pos hk] at H
      simp only [zero, Prod.mk.injEq, Bp.mk.injEq] at H
      obtain ⟨⟨rfl, rfl, rfl, rfl, rfl, rfl, rfl, rfl, rfl, rfl⟩, rfl, rfl⟩ := H
      exact sparse_2 s w x0 x1 x2 x3 x4 x5 x6 x7 x8 x9 (Lib.hid hk) (Lib.hid hP) hS hs
    · rw [if_neg hk] at H
      obtain ⟨⟨U, G⟩, hV⟩ : ∃ q, behindR s (sizeN x0) = q := ⟨_, rfl⟩
      rw [hV] at H
      simp only at H
      by_cases hG : G = 0
      · subst hG
        rw [if_neg (by simp)] at H
        simp only [Prod.mk.injEq, Bp.mk.injEq] at H
        obtain ⟨⟨rfl, rfl, rfl, rfl, rfl, rfl, rfl, rfl, rfl, rfl⟩, rfl, rfl⟩ := H
        exact sparse_ok s w x0 x1 x2 x3 x4 x5 x6 x7 x8 x9 U (sizeN x0) (sizeN_le x0) (Lib.hid rfl) hk (Lib.hid hV) (Lib.hid hP) hS hs
      · rw [if_pos hG] at H
        simp only [zero, Prod.mk.injEq, Bp.mk.injEq] at H
        obtain ⟨⟨rfl, rfl, rfl, rfl, rfl, rfl, rfl, rfl, rfl, rfl⟩, rfl, rfl⟩ := H
        exact sparse_b s w x0 x1 x2 x3 x4 x5 x6 x7 x8 x9 U G (sizeN x0) (sizeN_le x0) (Lib.hid rfl) hk hG (Lib.hid hV) (Lib.hid hP) hS hs
  · rw [if_pos hF] at H
    simp only [zero, Prod.mk.injEq, Bp.mk.injEq] at H
    obtain ⟨⟨rfl, rfl, rfl, rfl, rfl, rfl, rfl, rfl, rfl, rfl⟩, rfl, rfl⟩ := H
    exact sparse_e s w x0 x1 x2 x3 x4 x5 x6 x7 x8 x9 F hF (Lib.hid hP) hS hs
end Go.Proofs.YtaifkepojfhgkaaDoor
