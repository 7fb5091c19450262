/-
  Walks of layer 3's statements: awake.
-/
import Derived.Test.YtikldkhmcmgbeaaDoorBpR
import Derived.Test.YtikldkhmcmgbeaaDoorBpBk
namespace Go.Proofs.YtikldkhmcmgbeaaDoor
set_option linter.unusedVariables false
set_option linter.unusedSimpArgs false
open Go.RowKit Bm

abbrev b0 : Bp := ⟨3, 60, 1, 2, 3, 4, 0, 5120, 512, 3840⟩
theorem b0_right : rightB b0 = true := by decide
theorem b0_ok : b0.ok := by simp [Bp.ok, u64B]
theorem print_b0 : ∃ S : ByteArray, printR b0 = (S, 0) ∧ S.size = 36 ∧ parseR (S ++ ⟨#[109, 111, 114, 101]⟩) = (b0, 0) := by
  refine ⟨bytesOf b0, ?_, ?_, ?_⟩
  · unfold printR; rw [if_pos b0_right]
  · exact bytes_size b0 b0_right
  · rw [back_parse b0 b0_right b0_ok, if_neg (by decide)]
theorem print_notice : printR notice = (⟨#[0, 0, 0, 128]⟩, 0) := by decide
theorem parse_seven : parseR ⟨#[0, 0, 0, 7]⟩ = (zero, 9) := by rfl
theorem role_w (n R : Int) (w : World) (h : Hid (n / 4 % 4 = R)) :
    Calls Tryd.prog 14 #[.int .i64 n] w fun e w' => e = .returned (.int .i64 R) ∧ w = w' := by
  have H := role_any n w
  rw [h.out] at H
  exact H
theorem size_w (k : Int) (N : Int) (w : World) (h : Hid ((sizeN k : Int) = N)) (hS : Sizes w) :
    Calls Tryd.prog 12 #[.int .i64 k] w fun e w' => e = .returned (.int .i64 N) ∧ w = w' := by
  have H := size_any k w hS
  rw [h.out] at H
  exact H

set_option maxHeartbeats 2000000 in
theorem awake_any (w : World) (hS : Sizes w) :
    Calls Tryd.prog 5 #[] w fun e w' => e = .returned (.bool true) ∧ Below w.heap.size w w' := by
  obtain ⟨S, hp, hsz, hq⟩ := print_b0
  have HP := Lib.hid hp; clear hp
  have HQ := Lib.hid hq; clear hq
  go_enter Tryd.func5, Tryd.ntmps5
  go_wp2_with fail
  refine (print_w 3 60 1 2 3 4 0 5120 512 3840 _ S 0 HP (hS.next (below_box w _)) b0_ok).mono ?_
  rintro e w1 ⟨rfl, hb1⟩
  have k1 := (blk_new 26 w 3 60 1 2 3 4 0 5120 512 3840).next hb1
  have S1 := (hS.next (below_box w _)).next hb1
  have B1 := bw_trans (below_box w _) hb1
  clear hb1 hS HP
  go_wp2_with fail
  have hm : (S ++ ⟨#[109, 111, 114, 101]⟩ : ByteArray).size ≤ maxLen := by
    rw [ByteArray.size_append, hsz]
    have : (⟨#[109, 111, 114, 101]⟩ : ByteArray).size = 4 := rfl
    rw [this]
    unfold maxLen; omega
  have hpw := parse_w (S ++ ⟨#[109, 111, 114, 101]⟩) w1 3 60 1 2 3 4 0 5120 512 3840 0 HQ S1 hm
  refine hpw.mono ?_
  clear hpw hm
  rintro e w2 ⟨rfl, hb2⟩
  have k2 := (k1.next hb2).next (below_box w2 (.cells #[.int .i64 3, .int .i64 60, .int .u64 1, .int .u64 2, .int .u64 3, .int .u64 4, .int .i64 0, .int .i64 5120, .int .i64 512, .int .i64 3840] 26))
  have m2 := blk_new 26 w2 3 60 1 2 3 4 0 5120 512 3840
  have S2 := (S1.next hb2).next (below_box w2 (.cells #[.int .i64 3, .int .i64 60, .int .u64 1, .int .u64 2, .int .u64 3, .int .u64 4, .int .i64 0, .int .i64 5120, .int .i64 512, .int .i64 3840] 26))
  have B2 := bw_alloc (bw_trans B1 hb2) (.cells #[.int .i64 3, .int .i64 60, .int .u64 1, .int .u64 2, .int .u64 3, .int .u64 4, .int .i64 0, .int .i64 5120, .int .i64 512, .int .i64 3840] 26)
  clear hb2 k1 S1 B1 HQ
  go_wp2_with fail
  have hpw := print_w 2 0 0 0 0 0 0 0 0 0 _ ⟨#[0, 0, 0, 128]⟩ 0 (Lib.hid print_notice) S2 (by simp [Bp.ok, u64B])
  refine hpw.mono ?_
  clear hpw
  rintro e w3 ⟨rfl, hb3⟩
  have k3 := k2.next hb3
  have m3 := m2.next hb3
  have S3 := S2.next hb3
  have B3 := bw_trans B2 hb3
  clear hb3 k2 m2 S2 B2
  go_wp2_with fail
  have hpw := parse_w ⟨#[0, 0, 0, 7]⟩ w3 0 0 0 0 0 0 0 0 0 0 9 (Lib.hid parse_seven) S3 (by decide)
  refine hpw.mono ?_
  clear hpw
  rintro e w4 ⟨rfl, hb4⟩
  obtain ⟨W, hW⟩ : ∃ W, W = w4.alloc (.cells #[.int .i64 0, .int .i64 0, .int .u64 0, .int .u64 0, .int .u64 0, .int .u64 0, .int .i64 0, .int .i64 0, .int .i64 0, .int .i64 0] 26) := ⟨_, rfl⟩
  have k4 : Blk 26 W w.heap.size b0 := by rw [hW]; exact (k3.next hb4).next (below_box w4 _)
  have m4 : Blk 26 W w2.heap.size b0 := by rw [hW]; exact (m3.next hb4).next (below_box w4 _)
  have S4 : Sizes W := by rw [hW]; exact (S3.next hb4).next (below_box w4 _)
  have B4 : Below w.heap.size w W := by rw [hW]; exact bw_alloc (bw_trans B3 hb4) _
  clear hb4 k3 m3 S3 B3
  go_upto_region 6 with (fail)
  rw [← hW]
  clear hW
  have y := k4.cells
  obtain ⟨c0, c1, c2, c3, c4, c5, c6, c7, c8, c9⟩ := y
  have y := m4.cells
  obtain ⟨d0, d1, d2, d3, d4, d5, d6, d7, d8, d9⟩ := y
  have hq := run_bpEq 3 60 1 2 3 4 0 5120 512 3840 3 60 1 2 3 4 0 5120 512 3840
  have hqt : bpEq ⟨3, 60, 1, 2, 3, 4, 0, 5120, 512, 3840⟩ ⟨3, 60, 1, 2, 3, 4, 0, 5120, 512, 3840⟩ = true := by decide
  have hsz' : (S.size : Int) = 36 := by omega
  go_wp2_with (first
    | (go_at_call 14; refine (role_w _ 3 _ (Lib.hid (by decide))).mono ?_; rintro e w' ⟨rfl, rfl⟩)
    | (go_at_call 12; refine (size_w _ 35 _ (Lib.hid (by decide)) S4).mono ?_; rintro e w' ⟨rfl, rfl⟩)
    | (go_at_call 10; refine (right_w _ _ _ _ _ _ _ _ _ _ _ true (Lib.hid b0_right)).mono ?_; rintro e w5 ⟨rfl, hb5⟩))
  all_goals go_ret
  exact ⟨rfl, bw_trans B4 hb5⟩
end Go.Proofs.YtikldkhmcmgbeaaDoor
