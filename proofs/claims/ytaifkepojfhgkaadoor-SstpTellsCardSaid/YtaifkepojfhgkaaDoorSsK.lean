/-
  Walks of layer 4's statements: awake.
-/
import Derived.Test.YtaifkepojfhgkaaDoorSsR
namespace Go.Proofs.YtaifkepojfhgkaaDoor
set_option linter.unusedVariables false
set_option linter.unusedSimpArgs false
open Go.RowKit Bm

abbrev b0 : Bp := ⟨3, 0, 0, 0, 0, 0, 0, 5120, 512, 3840⟩
theorem b0_right : rightB b0 = true := by decide
theorem b0_ok : b0.ok := by simp [Bp.ok, u64B]
theorem print_b0 : ∃ S : ByteArray, sprintR b0 258 = (S, 0) ∧ S.size = 43 ∧ S.extract 36 43 = ⟨#[0, 0, 0, 0, 2, 1, 2]⟩ ∧ sparseR S = (b0, 258, 0) := by
  have hz : (bytesOf b0).size = 36 := bytes_size b0 b0_right
  refine ⟨bytesOf b0 ++ tagOf 258, ?_, ?_, ?_, ?_⟩
  · unfold sprintR
    rw [if_neg (by rw [b0_right]; decide), if_neg (by decide)]
  · rw [ByteArray.size_append, tag_size, hz]
  · have h : (bytesOf b0 ++ tagOf 258).extract 36 43 = tagOf 258 := by
      apply bytes_ext
      have h' : (bytesOf b0).data.size = 36 := hz
      simp [h']
      rfl
    rw [h]
    rfl
  · have h := sback_parse b0 258 b0_right b0_ok (by decide) (by decide) ⟨#[]⟩
    rw [if_neg (by decide)] at h
    have e : bytesOf b0 ++ tagOf 258 ++ (⟨#[]⟩ : ByteArray) = bytesOf b0 ++ tagOf 258 := ByteArray.append_empty
    rw [e] at h
    exact h
theorem parse_notice : sparseR ⟨#[0, 0, 0, 128]⟩ = (zero, 0, 9) := by rfl
theorem print_zero : sprintR b0 0 = (⟨#[]⟩, 1) := by decide

set_option maxHeartbeats 2000000 in
theorem awake_any (w : World) (hS : Sizes w) :
    Calls Tryd.prog 5 #[] w fun e w' => e = .returned (.bool true) ∧ Below w.heap.size w w' := by
  obtain ⟨S, hp, hsz, hxt, hq⟩ := print_b0
  have HP := Lib.hid hp; clear hp
  have HQ := Lib.hid hq; clear hq
  have HX := Lib.hid hxt; clear hxt
  have hm : S.size ≤ maxLen := by rw [hsz]; unfold maxLen; omega
  have HM := Lib.hid hm; clear hm
  go_enter Tryd.func5, Tryd.ntmps5
  go_wp2_with fail
  refine (sprint_w 3 0 0 0 0 0 0 5120 512 3840 258 _ S 0 HP (hS.next (below_box w _)) b0_ok).mono ?_
  rintro e w1 ⟨rfl, hb1⟩
  have k1 := (blk_new 26 w 3 0 0 0 0 0 0 5120 512 3840).next hb1
  have S1 := (hS.next (below_box w _)).next hb1
  have B1 := bw_trans (below_box w _) hb1
  clear hb1 hS HP
  go_wp2_with fail
  have hpw := sparse_w S w1 3 0 0 0 0 0 0 5120 512 3840 258 0 HQ S1 HM.out
  refine hpw.mono ?_
  clear hpw HM
  rintro e w2 ⟨rfl, hb2⟩
  have k2 := (k1.next hb2).next (below_box w2 (.cells #[.int .i64 3, .int .i64 0, .int .u64 0, .int .u64 0, .int .u64 0, .int .u64 0, .int .i64 0, .int .i64 5120, .int .i64 512, .int .i64 3840] 26))
  have m2 := blk_new 26 w2 3 0 0 0 0 0 0 5120 512 3840
  have S2 := (S1.next hb2).next (below_box w2 (.cells #[.int .i64 3, .int .i64 0, .int .u64 0, .int .u64 0, .int .u64 0, .int .u64 0, .int .i64 0, .int .i64 5120, .int .i64 512, .int .i64 3840] 26))
  have B2 := bw_alloc (bw_trans B1 hb2) (.cells #[.int .i64 3, .int .i64 0, .int .u64 0, .int .u64 0, .int .u64 0, .int .u64 0, .int .i64 0, .int .i64 5120, .int .i64 512, .int .i64 3840] 26)
  clear hb2 k1 S1 B1 HQ
  go_wp2_with fail
  have hpw := sparse_w ⟨#[0, 0, 0, 128]⟩ _ 0 0 0 0 0 0 0 0 0 0 0 9 (Lib.hid parse_notice) S2 (by decide)
  refine hpw.mono ?_
  clear hpw
  rintro e w4 ⟨rfl, hb4⟩
  obtain ⟨W, hW⟩ : ∃ W, W = w4.alloc (.cells #[.int .i64 0, .int .i64 0, .int .u64 0, .int .u64 0, .int .u64 0, .int .u64 0, .int .i64 0, .int .i64 0, .int .i64 0, .int .i64 0] 26) := ⟨_, rfl⟩
  have k4 : Blk 26 W w.heap.size b0 := by rw [hW]; exact (k2.next hb4).next (below_box w4 _)
  have m4 : Blk 26 W w2.heap.size b0 := by rw [hW]; exact (m2.next hb4).next (below_box w4 _)
  have S4 : Sizes W := by rw [hW]; exact (S2.next hb4).next (below_box w4 _)
  have B4 : Below w.heap.size w W := by rw [hW]; exact bw_alloc (bw_trans B2 hb4) _
  clear hb4 k2 m2 S2 B2
  go_upto_region 5 with (fail)
  rw [← hW]
  clear hW
  have y := k4.cells
  obtain ⟨c0, c1, c2, c3, c4, c5, c6, c7, c8, c9⟩ := y
  go_wp2_with fail
  have hpw := sprint_w 3 0 0 0 0 0 0 5120 512 3840 0 _ ⟨#[]⟩ 1 (Lib.hid print_zero) S4 b0_ok
  refine hpw.mono ?_
  clear hpw
  rintro e w5 ⟨rfl, hb5⟩
  have k5 := k4.next hb5
  have m5 := m4.next hb5
  have B5 := bw_trans B4 hb5
  clear c0 c1 c2 c3 c4 c5 c6 c7 c8 c9 hb5 k4 m4 S4 B4
  have y := k5.cells
  obtain ⟨c0, c1, c2, c3, c4, c5, c6, c7, c8, c9⟩ := y
  have y := m5.cells
  obtain ⟨d0, d1, d2, d3, d4, d5, d6, d7, d8, d9⟩ := y
  have hq := run_bpEq 3 0 0 0 0 0 0 5120 512 3840 3 0 0 0 0 0 0 5120 512 3840
  have hqt : bpEq ⟨3, 0, 0, 0, 0, 0, 0, 5120, 512, 3840⟩ ⟨3, 0, 0, 0, 0, 0, 0, 5120, 512, 3840⟩ = true := by decide
  have hsz' : (S.size : Int) = 43 := by omega
  have hte : (S.extract 36 43).toList = [0, 0, 0, 0, 2, 1, 2] := by rw [HX.out, ByteArray.toList_eq]
  go_wp2
  all_goals go_ret
  exact ⟨rfl, B5⟩
end Go.Proofs.YtaifkepojfhgkaaDoor
