/-
  Layer 2's 'awake': answers that the document fixes.
-/
import Derived.Test.YtledabmmomgkoaaDoorL2M
namespace Go.Proofs.YtledabmmomgkoaaDoor
set_option linter.unusedVariables false
set_option linter.unusedSimpArgs false
open Go.RowKit Fm

namespace Fm
abbrev ks : ByteArray := ⟨#[2, 97, 97, 97, 97, 97]⟩
abbrev kx : ByteArray := ⟨#[120, 121]⟩
abbrev kp1 : ByteArray := ⟨#[66, 66, 3, 120, 121]⟩
abbrev kp2 : ByteArray := ⟨#[170, 170, 3, 0, 0, 12, 1, 11, 120, 121]⟩
abbrev korg : ByteArray := ⟨#[97, 98, 99]⟩
abbrev kin : ByteArray := ⟨#[120]⟩
abbrev kout : ByteArray := ⟨#[170, 170, 3, 97, 98, 99, 1, 2, 120]⟩
theorem k_raw1 : rawF g1 b1 ks kx = ⟨g1, ks, false, 0, 0, 5, kp1⟩ := by
  have e : b1 ++ kx = kp1 := by decide +kernel
  unfold rawF; rw [e]; rfl
theorem k_raw2 : rawF g2 b2 ks kx = ⟨g2, ks, false, 0, 0, 10, kp2⟩ := by
  have e : b2 ++ kx = kp2 := by decide +kernel
  unfold rawF; rw [e]; rfl
theorem k_right1 : rightB ⟨g1, ks, false, 0, 0, 5, kp1⟩ = true := by decide +kernel
theorem k_right2 : rightB ⟨g2, ks, false, 0, 0, 10, kp2⟩ = true := by decide +kernel
theorem k_made1 : madeR g1 b1 ks kx = (⟨g1, ks, false, 0, 0, 5, kp1⟩, 0) := by
  unfold madeR; rw [if_neg (by decide), k_raw1, if_pos k_right1]
theorem k_made2 : madeR g2 b2 ks kx = (⟨g2, ks, false, 0, 0, 10, kp2⟩, 0) := by
  unfold madeR; rw [if_neg (by decide), k_raw2, if_pos k_right2]
theorem k_kind1 : kindN ⟨g1, ks, false, 0, 0, 5, kp1⟩ = 1 := by decide +kernel
theorem k_kind2 : kindN ⟨g2, ks, false, 0, 0, 10, kp2⟩ = 2 := by decide +kernel
theorem k_kind0 : kindN zero = 0 := by decide +kernel
theorem k_inner1 : innerR ⟨g1, ks, false, 0, 0, 5, kp1⟩ = (kx, 0) := by
  unfold innerR; rw [if_pos k_kind1]; show (kp1.extract 3 5, (0 : Int)) = _; rw [show kp1.extract 3 5 = kx by decide +kernel]
theorem k_inner2 : innerR ⟨g2, ks, false, 0, 0, 10, kp2⟩ = (kx, 0) := by
  unfold innerR; rw [if_neg (by rw [k_kind2]; decide), if_pos k_kind2]; show (kp2.extract 8 10, (0 : Int)) = _; rw [show kp2.extract 8 10 = kx by decide +kernel]
theorem k_inner0 : innerR zero = (⟨#[]⟩, 9) := by
  unfold innerR; rw [if_neg (by rw [k_kind0]; decide), if_neg (by rw [k_kind0]; decide)]
theorem k_snap : snapR korg 258 kin = (kout, 0) := by
  unfold snapR; rw [if_neg (by decide), if_neg (by decide)]; rw [show (⟨#[170, 170, 3]⟩ ++ korg ++ w16 258 ++ kin : ByteArray) = kout by decide +kernel]
end Fm

theorem awake_any (w : World) (hH : Heads w) : Calls Tryd.prog 5 #[] w fun e w' => e = .returned (.bool true) ∧ Below w.heap.size w w' := by
  go_enter Tryd.func5, Tryd.ntmps5
  go_wp2_with fail
  refine (ieee_w ks kx _ _ _ _ _ _ _ _ _ (Lib.hid k_made1) hH (by decide) (by decide)).mono ?_
  rintro e w1 ⟨rfl, hb1⟩
  have H1 := hH.next hb1
  have B1 := hb1
  have H2 := H1.next (below_box w1 (.cells #[.string g1, .string ks, .bool false, .int .i64 0, .int .i64 0, .int .i64 5, .string kp1] 23))
  have k2 := blk_new w1 g1 ks false 0 0 5 kp1
  have B2 := bw_alloc B1 (.cells #[.string g1, .string ks, .bool false, .int .i64 0, .int .i64 0, .int .i64 5, .string kp1] 23)
  clear hb1 hH H1 B1
  go_wp2_with fail
  refine (sstp_w ks kx _ _ _ _ _ _ _ _ _ (Lib.hid k_made2) H2 (by decide) (by decide)).mono ?_
  rintro e w3 ⟨rfl, hb3⟩
  have H3 := H2.next hb3
  have k3 := k2.below hb3 k2.lt
  have B3 := bw_trans B2 hb3
  have H4 := H3.next (below_box w3 (.cells #[.string g2, .string ks, .bool false, .int .i64 0, .int .i64 0, .int .i64 10, .string kp2] 23))
  have k4 := k3.below (below_box w3 (.cells #[.string g2, .string ks, .bool false, .int .i64 0, .int .i64 0, .int .i64 10, .string kp2] 23)) k3.lt
  have n4 := blk_new w3 g2 ks false 0 0 10 kp2
  have B4 := bw_alloc B3 (.cells #[.string g2, .string ks, .bool false, .int .i64 0, .int .i64 0, .int .i64 10, .string kp2] 23)
  clear hb3 H2 k2 B2 H3 k3 B3
  have y := k4.cells
  obtain ⟨c0, c1, c2, c3, c4, c5, c6⟩ := y
  go_wp2_with fail
  refine (inner_w _ _ _ _ _ _ _ _ _ _ (Lib.hid k_inner1) H4 (by decide) (by decide) (by decide)).mono ?_
  rintro e w5 ⟨rfl, hb5⟩
  have H5 := H4.next hb5
  have k5 := k4.below hb5 k4.lt
  have n5 := n4.below hb5 n4.lt
  have B5 := bw_trans B4 hb5
  clear hb5 H4 k4 n4 B4 c0 c1 c2 c3 c4 c5 c6
  have y := n5.cells
  obtain ⟨c0, c1, c2, c3, c4, c5, c6⟩ := y
  go_wp2_with fail
  refine (inner_w _ _ _ _ _ _ _ _ _ _ (Lib.hid k_inner2) H5 (by decide) (by decide) (by decide)).mono ?_
  rintro e w6 ⟨rfl, hb6⟩
  have H6 := H5.next hb6
  have k6 := k5.below hb6 k5.lt
  have n6 := n5.below hb6 n5.lt
  have B6 := bw_trans B5 hb6
  clear hb6 H5 k5 n5 B5 c0 c1 c2 c3 c4 c5 c6
  go_wp2_with fail
  refine (inner_w _ _ _ _ _ _ _ _ _ _ (Lib.hid k_inner0) H6 (by decide) (by decide) (by decide)).mono ?_
  rintro e w7 ⟨rfl, hb7⟩
  have H7 := H6.next hb7
  have k7 := k6.below hb7 k6.lt
  have n7 := n6.below hb7 n6.lt
  have B7 := bw_trans B6 hb7
  clear hb7 H6 k6 n6 B6
  go_wp2_with fail
  refine (snap_w korg 258 kin _ _ _ (Lib.hid k_snap) (by decide) (by decide)).mono ?_
  rintro e w8 ⟨rfl, hb8⟩
  have H8 := H7.next hb8
  have k8 := k7.below hb8 k7.lt
  have n8 := n7.below hb8 n7.lt
  have B8 := bw_trans B7 hb8
  clear hb8 H7 k7 n7 B7
  have y := k8.cells
  obtain ⟨c0, c1, c2, c3, c4, c5, c6⟩ := y
  go_wp2_with fail
  refine (kind_w _ _ _ _ _ _ _ _ _ (Lib.hid k_kind1) H8 (by decide) (by decide) (by decide)).mono ?_
  rintro e w9 ⟨rfl, hb9⟩
  have H9 := H8.next hb9
  have n9 := n8.below hb9 n8.lt
  have B9 := bw_trans B8 hb9
  clear hb9 H8 k8 n8 B8 c0 c1 c2 c3 c4 c5 c6
  have y := n9.cells
  obtain ⟨c0, c1, c2, c3, c4, c5, c6⟩ := y
  go_wp2_with fail
  refine (kind_w _ _ _ _ _ _ _ _ _ (Lib.hid k_kind2) H9 (by decide) (by decide) (by decide)).mono ?_
  rintro e w10 ⟨rfl, hb10⟩
  have B10 := bw_trans B9 hb10
  clear hb10 H9 n9 B9 c0 c1 c2 c3 c4 c5 c6
  go_wp2
  go_ret
  exact ⟨rfl, B10⟩
end Go.Proofs.YtledabmmomgkoaaDoor
