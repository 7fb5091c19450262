/-
  Walks of layer 3: Print.
-/
import Derived.Test.YtaifkepojfhgkaaDoorBpP
namespace Go.Proofs.YtaifkepojfhgkaaDoor
set_option linter.unusedVariables false
set_option linter.unusedSimpArgs false
open Go.RowKit Bm

theorem right_w (k f r c b p a m h d : Int) (w : World) (R : Bool) (hR : Hid (rightB ⟨k, f, r, c, b, p, a, m, h, d⟩ = R)) :
    Calls Tryd.prog 19 #[bv k f r c b p a m h d] w fun e w' => e = .returned (.bool R) ∧ Below w.heap.size w w' := by
  have H := right_any k f r c b p a m h d w
  rw [hR.out] at H
  exact H

set_option maxHeartbeats 400000 in
theorem print_no (k f r c b p a m h d : Int) (w : World) (hr : rightB ⟨k, f, r, c, b, p, a, m, h, d⟩ = false) :
    Calls Tryd.prog 10 #[bv k f r c b p a m h d] w fun e w' => e = .returned (.tuple #[.string ⟨#[]⟩, .int .i64 2]) ∧ Below w.heap.size w w' := by
  go_enter Tryd.func10, Tryd.ntmps10
  go_wp2_with (go_at_call 19; refine (right_w _ _ _ _ _ _ _ _ _ _ _ _ (Lib.hid hr)).mono ?_; rintro e w' ⟨rfl, hb1⟩)
  go_ret2
  exact ⟨rfl, bw_trans (below_box _ _) hb1⟩

/-- A row of four bytes that was just laid, appended to nothing. -/
theorem four_cells (x0 x1 x2 x3 : UInt8) : [Value.int .u8 (x0.toNat : Int), Value.int .u8 (x1.toNat : Int), Value.int .u8 (x2.toNat : Int), Value.int .u8 (x3.toNat : Int)] = Lib.strCells ⟨#[x0, x1, x2, x3]⟩ := rfl

theorem nums_size (x : Bp) : (numsOf x).size = 31 := by
  simp only [numsOf, ByteArray.size_append, be_size]

set_option maxHeartbeats 2000000 in
theorem print_2 (w : World) (hS : Sizes w) :
    Calls Tryd.prog 10 #[bv 2 0 0 0 0 0 0 0 0 0] w fun e w' => e = .returned (.tuple #[.string (bytesOf ⟨2, 0, 0, 0, 0, 0, 0, 0, 0, 0⟩), .int .i64 0]) ∧ Below w.heap.size w w' := by
  obtain ⟨i0, hi, hz0, hz1, hz2⟩ := info_parts infoU8
  have HR := Lib.hid (show rightB ⟨2, 0, 0, 0, 0, 0, 0, 0, 0, 0⟩ = true by decide)
  go_enter Tryd.func10, Tryd.ntmps10
  go_wp2_with fail
  refine (right_w _ _ _ _ _ _ _ _ _ _ _ true HR).mono ?_
  rintro e w1 ⟨rfl, hb1⟩
  have k1 := (blk_new 26 w 2 0 0 0 0 0 0 0 0 0).below hb1 (by simp)
  have S1 := (hS.next (below_box w _)).next hb1
  have B1 := bw_trans (below_box w _) hb1
  clear hb1 hS
  have y := k1.cells
  obtain ⟨cc0, cc1, cc2, cc3, cc4, cc5, cc6, cc7, cc8, cc9⟩ := y
  have y := S1
  obtain ⟨s0, s1, s2, s3⟩ := y
  go_wp2_with (at_make; refine wpList_make_own _ rfl _ _ 43 rfl w1.heap.size 5 i0 (.int .u8 0) 1 Tryd.underlying43 hi hz0 hz1 _ _ _ 4 rfl rfl (by omega) ?c1 ?c2 ?c3 ?_)
  case c1 => rw [hz2]; omega
  case c2 => unfold maxLen; omega
  case c3 => exact Nat.le_refl _
  intro w2 hown2 hgr2
  have B2 : Below w1.heap.size w1 w2 := (Below.refl _ _).grown hgr2 (Nat.le_refl _) (by simp)
  have b2 : Buf w2 w1.heap.size (.slice (some ⟨w1.heap.size, 0, none⟩) 0 4) ⟨#[]⟩ := hown2
  have z2 : w1.heap.size ≤ w2.heap.size := B2.size
  have k2 := k1.next B2
  have BB2 := bw_trans B1 B2
  have l1 := k1.lt
  clear hown2 hgr2 B2 k1 B1 S1 cc0 cc1 cc2 cc3 cc4 cc5 cc6 cc7 cc8 cc9 s0 s1 s2 s3
  have y := k2.cells
  obtain ⟨cc0, cc1, cc2, cc3, cc4, cc5, cc6, cc7, cc8, cc9⟩ := y
  go_wp2_with (at_builtin; refine wpList_append_own _ rfl _ _ 43 rfl w1.heap.size 5 i0 (.int .u8 0) 1 1 Tryd.underlying43 hi hz0 hz1 hz2 rfl (by decide) _ _ _ rfl (b2.alloc _) ⟨w2.heap.size, 0, none⟩ 4 4 [.int .u8 0, .int .u8 0, .int .u8 0, .int .u8 128] rfl rfl ?d1 ?d2 ?d3 ?d4 ?d5 ?_)
  case d1 =>
    intro j u hj
    match j, hj with
    | 0, hj => simp at hj; subst hj; simp [Addr.add]
    | 1, hj => simp at hj; subst hj; simp [Addr.add]
    | 2, hj => simp at hj; subst hj; simp [Addr.add]
    | 3, hj => simp at hj; subst hj; simp [Addr.add]
  case d2 => intro u hu; simp at hu; repeat' (rcases hu with rfl | hu)
             all_goals (first | rfl | (subst hu; rfl))
  case d3 => show 0 + 4 ≤ maxLen; unfold maxLen; omega
  case d4 => show 0 + 4 ≤ _; omega
  case d5 => simp; omega
  intro v3 w3 ho3 hg3 _
  have R := buf_step (t := ⟨#[0, 0, 0, 128]⟩) rfl (b2.alloc _) ho3 hg3 (by simp; omega)
  rw [nil_app] at R
  have K3 := (kept_alloc w2 _).trans (kept_grown (b2.alloc _) hg3)
  have b3 := R.1
  have B3 : Below w.heap.size w w3 := BB2.trans ((((Below.refl w1.heap.size w2).alloc z2 _).trans R.2).mono (by omega))
  have z3 : w1.heap.size ≤ w3.heap.size := Nat.le_trans (by simp; omega) R.2.size
  have k3 := K3 _ _ _ (by decide) k2
  clear R ho3 hg3 K3 k2 b2 z2 BB2 cc0 cc1 cc2 cc3 cc4 cc5 cc6 cc7 cc8 cc9
  have q3 := buf_string b3
  go_wp2
  go_ret2
  exact ⟨rfl, B3⟩

set_option maxHeartbeats 2000000 in
theorem print_1 (f r c b p a m h d : Int) (w : World) (hS : Sizes w) (hr : numsB ⟨1, f, r, c, b, p, a, m, h, d⟩ = true) (hok : Bp.ok ⟨1, f, r, c, b, p, a, m, h, d⟩) :
    Calls Tryd.prog 10 #[bv 1 f r c b p a m h d] w fun e w' => e = .returned (.tuple #[.string (bytesOf ⟨1, f, r, c, b, p, a, m, h, d⟩), .int .i64 0]) ∧ Below w.heap.size w w' := by
  obtain ⟨i0, hi, hz0, hz1, hz2⟩ := info_parts infoU8
  have HR := Lib.hid (show rightB ⟨1, f, r, c, b, p, a, m, h, d⟩ = true by simp [rightB, hr])
  go_enter Tryd.func10, Tryd.ntmps10
  go_wp2_with fail
  refine (right_w _ _ _ _ _ _ _ _ _ _ _ true HR).mono ?_
  rintro e w1 ⟨rfl, hb1⟩
  have k1 := (blk_new 26 w 1 f r c b p a m h d).below hb1 (by simp)
  have S1 := (hS.next (below_box w _)).next hb1
  have B1 := bw_trans (below_box w _) hb1
  clear hb1 hS
  have y := k1.cells
  obtain ⟨cc0, cc1, cc2, cc3, cc4, cc5, cc6, cc7, cc8, cc9⟩ := y
  have y := S1
  obtain ⟨s0, s1, s2, s3⟩ := y
  go_wp2_with (at_make; refine wpList_make_own _ rfl _ _ 43 rfl w1.heap.size 5 i0 (.int .u8 0) 1 Tryd.underlying43 hi hz0 hz1 _ _ _ 35 rfl rfl (by omega) ?c1 ?c2 ?c3 ?_)
  case c1 => rw [hz2]; omega
  case c2 => unfold maxLen; omega
  case c3 => exact Nat.le_refl _
  intro w2 hown2 hgr2
  have B2 : Below w1.heap.size w1 w2 := (Below.refl _ _).grown hgr2 (Nat.le_refl _) (by simp)
  have b2 : Buf w2 w1.heap.size (.slice (some ⟨w1.heap.size, 0, none⟩) 0 35) ⟨#[]⟩ := hown2
  have z2 : w1.heap.size ≤ w2.heap.size := B2.size
  have k2 := k1.next B2
  have BB2 := bw_trans B1 B2
  have l1 := k1.lt
  clear hown2 hgr2 B2 k1 B1 S1 cc0 cc1 cc2 cc3 cc4 cc5 cc6 cc7 cc8 cc9 s0 s1 s2 s3
  have y := k2.cells
  obtain ⟨cc0, cc1, cc2, cc3, cc4, cc5, cc6, cc7, cc8, cc9⟩ := y
  go_wp2_with (at_builtin; refine wpList_append_own _ rfl _ _ 43 rfl w1.heap.size 5 i0 (.int .u8 0) 1 1 Tryd.underlying43 hi hz0 hz1 hz2 rfl (by decide) _ _ _ rfl (b2.alloc _) ⟨w2.heap.size, 0, none⟩ 4 4 [.int .u8 0, .int .u8 0, .int .u8 0, .int .u8 0] rfl rfl ?d1 ?d2 ?d3 ?d4 ?d5 ?_)
  case d1 =>
    intro j u hj
    match j, hj with
    | 0, hj => simp at hj; subst hj; simp [Addr.add]
    | 1, hj => simp at hj; subst hj; simp [Addr.add]
    | 2, hj => simp at hj; subst hj; simp [Addr.add]
    | 3, hj => simp at hj; subst hj; simp [Addr.add]
  case d2 => intro u hu; simp at hu; repeat' (rcases hu with rfl | hu)
             all_goals (first | rfl | (subst hu; rfl))
  case d3 => show 0 + 4 ≤ maxLen; unfold maxLen; omega
  case d4 => show 0 + 4 ≤ _; omega
  case d5 => simp; omega
  intro v3 w3 ho3 hg3 _
  have R := buf_step (t := ⟨#[0, 0, 0, 0]⟩) rfl (b2.alloc _) ho3 hg3 (by simp; omega)
  rw [nil_app] at R
  have K3 := (kept_alloc w2 _).trans (kept_grown (b2.alloc _) hg3)
  have b3 := R.1
  have B3 : Below w.heap.size w w3 := BB2.trans ((((Below.refl w1.heap.size w2).alloc z2 _).trans R.2).mono (by omega))
  have z3 : w1.heap.size ≤ w3.heap.size := Nat.le_trans (by simp; omega) R.2.size
  have k3 := K3 _ _ _ (by decide) k2
  clear R ho3 hg3 K3 k2 b2 z2 BB2 cc0 cc1 cc2 cc3 cc4 cc5 cc6 cc7 cc8 cc9
  have y := k3.cells
  obtain ⟨cc0, cc1, cc2, cc3, cc4, cc5, cc6, cc7, cc8, cc9⟩ := y
  go_wp2_with fail
  refine (appendNumbers_any w1.heap.size _ ⟨#[0, 0, 0, 0]⟩ 1 f r c b p a m h d _ hr hok b3 z3 (by decide)).mono ?_
  rintro e w4 hgw
  obtain ⟨v4, a4, rfl, H4, n4, b4, B4', z4, K4⟩ := grew_be (N := 35) hgw z3 (by rw [nums_size]; decide)
  have k4 := K4 _ _ _ (by decide) k3
  have B4 := B3.trans (B4'.mono (by omega))
  clear hgw K4 k3 b3 B3 B4' z3 cc0 cc1 cc2 cc3 cc4 cc5 cc6 cc7 cc8 cc9
  have q4 := buf_string b4
  go_wp2
  go_ret2
  refine ⟨?_, B4⟩
  have e : bytesOf ⟨1, f, r, c, b, p, a, m, h, d⟩ = a4 := by rw [H4.out]; simp [bytesOf, headOf, tailOf, app_nil]
  rw [e]
  rfl

set_option maxHeartbeats 2000000 in
theorem print_3 (f r c b p a m h d : Int) (w : World) (hS : Sizes w) (hr : numsB ⟨3, f, r, c, b, p, a, m, h, d⟩ = true) (hok : Bp.ok ⟨3, f, r, c, b, p, a, m, h, d⟩) :
    Calls Tryd.prog 10 #[bv 3 f r c b p a m h d] w fun e w' => e = .returned (.tuple #[.string (bytesOf ⟨3, f, r, c, b, p, a, m, h, d⟩), .int .i64 0]) ∧ Below w.heap.size w w' := by
  obtain ⟨i0, hi, hz0, hz1, hz2⟩ := info_parts infoU8
  have HR := Lib.hid (show rightB ⟨3, f, r, c, b, p, a, m, h, d⟩ = true by simp [rightB, hr])
  go_enter Tryd.func10, Tryd.ntmps10
  go_wp2_with fail
  refine (right_w _ _ _ _ _ _ _ _ _ _ _ true HR).mono ?_
  rintro e w1 ⟨rfl, hb1⟩
  have k1 := (blk_new 26 w 3 f r c b p a m h d).below hb1 (by simp)
  have S1 := (hS.next (below_box w _)).next hb1
  have B1 := bw_trans (below_box w _) hb1
  clear hb1 hS
  have y := k1.cells
  obtain ⟨cc0, cc1, cc2, cc3, cc4, cc5, cc6, cc7, cc8, cc9⟩ := y
  have y := S1
  obtain ⟨s0, s1, s2, s3⟩ := y
  go_wp2_with (at_make; refine wpList_make_own _ rfl _ _ 43 rfl w1.heap.size 5 i0 (.int .u8 0) 1 Tryd.underlying43 hi hz0 hz1 _ _ _ 36 rfl rfl (by omega) ?c1 ?c2 ?c3 ?_)
  case c1 => rw [hz2]; omega
  case c2 => unfold maxLen; omega
  case c3 => exact Nat.le_refl _
  intro w2 hown2 hgr2
  have B2 : Below w1.heap.size w1 w2 := (Below.refl _ _).grown hgr2 (Nat.le_refl _) (by simp)
  have b2 : Buf w2 w1.heap.size (.slice (some ⟨w1.heap.size, 0, none⟩) 0 36) ⟨#[]⟩ := hown2
  have z2 : w1.heap.size ≤ w2.heap.size := B2.size
  have k2 := k1.next B2
  have BB2 := bw_trans B1 B2
  have l1 := k1.lt
  clear hown2 hgr2 B2 k1 B1 S1 cc0 cc1 cc2 cc3 cc4 cc5 cc6 cc7 cc8 cc9 s0 s1 s2 s3
  have y := k2.cells
  obtain ⟨cc0, cc1, cc2, cc3, cc4, cc5, cc6, cc7, cc8, cc9⟩ := y
  go_wp2_with (at_builtin; refine wpList_append_own _ rfl _ _ 43 rfl w1.heap.size 5 i0 (.int .u8 0) 1 1 Tryd.underlying43 hi hz0 hz1 hz2 rfl (by decide) _ _ _ rfl (b2.alloc _) ⟨w2.heap.size, 0, none⟩ 4 4 [.int .u8 0, .int .u8 0, .int .u8 2, .int .u8 2] rfl rfl ?d1 ?d2 ?d3 ?d4 ?d5 ?_)
  case d1 =>
    intro j u hj
    match j, hj with
    | 0, hj => simp at hj; subst hj; simp [Addr.add]
    | 1, hj => simp at hj; subst hj; simp [Addr.add]
    | 2, hj => simp at hj; subst hj; simp [Addr.add]
    | 3, hj => simp at hj; subst hj; simp [Addr.add]
  case d2 => intro u hu; simp at hu; repeat' (rcases hu with rfl | hu)
             all_goals (first | rfl | (subst hu; rfl))
  case d3 => show 0 + 4 ≤ maxLen; unfold maxLen; omega
  case d4 => show 0 + 4 ≤ _; omega
  case d5 => simp; omega
  intro v3 w3 ho3 hg3 _
  have R := buf_step (t := ⟨#[0, 0, 2, 2]⟩) rfl (b2.alloc _) ho3 hg3 (by simp; omega)
  rw [nil_app] at R
  have K3 := (kept_alloc w2 _).trans (kept_grown (b2.alloc _) hg3)
  have b3 := R.1
  have B3 : Below w.heap.size w w3 := BB2.trans ((((Below.refl w1.heap.size w2).alloc z2 _).trans R.2).mono (by omega))
  have z3 : w1.heap.size ≤ w3.heap.size := Nat.le_trans (by simp; omega) R.2.size
  have k3 := K3 _ _ _ (by decide) k2
  clear R ho3 hg3 K3 k2 b2 z2 BB2 cc0 cc1 cc2 cc3 cc4 cc5 cc6 cc7 cc8 cc9
  have y := k3.cells
  obtain ⟨cc0, cc1, cc2, cc3, cc4, cc5, cc6, cc7, cc8, cc9⟩ := y
  go_wp2_with fail
  refine (appendNumbers_any w1.heap.size _ ⟨#[0, 0, 2, 2]⟩ 3 f r c b p a m h d _ hr hok b3 z3 (by decide)).mono ?_
  rintro e w4 hgw
  obtain ⟨v4, a4, rfl, H4, n4, b4, B4', z4, K4⟩ := grew_be (N := 35) hgw z3 (by rw [nums_size]; decide)
  have k4 := K4 _ _ _ (by decide) k3
  have B4 := B3.trans (B4'.mono (by omega))
  clear hgw K4 k3 b3 B3 B4' z3 cc0 cc1 cc2 cc3 cc4 cc5 cc6 cc7 cc8 cc9
  go_wp2_with (at_builtin; refine wpList_append_own _ rfl _ _ 43 rfl w1.heap.size 5 i0 (.int .u8 0) 1 1 Tryd.underlying43 hi hz0 hz1 hz2 rfl (by decide) _ _ _ rfl (b4.alloc _) ⟨w4.heap.size, 0, none⟩ 1 1 [.int .u8 0] rfl rfl ?e1 ?e2 ?e3 ?e4 ?e5 ?_)
  case e1 =>
    intro j u hj
    match j, hj with
    | 0, hj => simp at hj; subst hj; simp [Addr.add]
  case e2 => intro u hu; simp at hu; subst hu; rfl
  case e3 => unfold maxLen; omega
  case e4 => omega
  case e5 => simp; omega
  intro v5 w5 ho5 hg5 _
  have R := buf_step (t := ⟨#[0]⟩) rfl (b4.alloc _) ho5 hg5 (by simp; omega)
  obtain ⟨A5, hA5⟩ : ∃ A5, a4 ++ ⟨#[0]⟩ = A5 := ⟨_, rfl⟩
  rw [hA5] at R
  have HA := Lib.hid hA5; clear hA5
  have q5 := buf_string R.1
  have B5 : Below w.heap.size w w5 := B4.trans ((((Below.refl w1.heap.size w4).alloc z4 _).trans R.2).mono (by omega))
  clear R ho5 hg5 B4 k4 b4
  go_wp2
  go_ret2
  refine ⟨?_, B5⟩
  have e : bytesOf ⟨3, f, r, c, b, p, a, m, h, d⟩ = A5 := by rw [← HA.out, H4.out]; simp [bytesOf, headOf, tailOf, app_assoc]
  rw [e]
  rfl

/-- Print, of whatever BPDU. -/
theorem print_w (k f r c b p a m h d : Int) (w : World) (X : ByteArray) (E : Int) (hX : Hid (printR ⟨k, f, r, c, b, p, a, m, h, d⟩ = (X, E))) (hS : Sizes w) (hok : Bp.ok ⟨k, f, r, c, b, p, a, m, h, d⟩) :
    Calls Tryd.prog 10 #[bv k f r c b p a m h d] w fun e w' => e = .returned (.tuple #[.string X, .int .i64 E]) ∧ Below w.heap.size w w' := by
  have H := hX.out
  unfold printR at H
  cases hr : rightB ⟨k, f, r, c, b, p, a, m, h, d⟩ with
  | false =>
    rw [hr] at H
    simp at H
    obtain ⟨rfl, rfl⟩ := H
    exact print_no k f r c b p a m h d w hr
  | true =>
    rw [hr] at H
    simp at H
    obtain ⟨rfl, rfl⟩ := H
    have hr' := hr
    unfold rightB at hr'
    simp only at hr'
    by_cases h2 : k = 2
    · rw [if_pos h2, bpEq_true] at hr'
      injection hr' with e0 e1 e2 e3 e4 e5 e6 e7 e8 e9
      subst e0 e1 e2 e3 e4 e5 e6 e7 e8 e9
      exact print_2 w hS
    · rw [if_neg h2] at hr'
      by_cases h13 : k = 1 ∨ k = 3
      · rw [if_pos h13] at hr'
        rcases h13 with rfl | rfl
        · exact print_1 f r c b p a m h d w hS hr' hok
        · exact print_3 f r c b p a m h d w hS hr' hok
      · rw [if_neg h13] at hr'
        cases hr'
end Go.Proofs.YtaifkepojfhgkaaDoor
