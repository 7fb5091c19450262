/-
  For any BPDU, VLAN, bytes and number: what sstp prints is heard, of its VLAN, whatever stands behind it, but a configuration that is too old; cut off it isn't; the BPDU's own bytes stand ahead (the walk of the statement SstpBack).
-/
import Derived.Test.YtaifkepojfhgkaaDoorSsK
namespace Go.Proofs.YtaifkepojfhgkaaDoor.sstpBack
set_option linter.unusedVariables false
set_option linter.unusedSimpArgs false
open Go.ChangeShapes Go.WideShapes Go.ChangeAt Go.RowKit Bm

/-- The BPDU lies where it came in, the table of sizes stands, nothing that was there has turned. -/
structure LInv (w : World) (x : Bp) (wx : World) : Prop where
  f0 : Blk 26 wx w.heap.size x
  hs : Sizes wx
  be : Below w.heap.size w wx
theorem LInv.next {w : World} {x : Bp} {wx wy : World} (h : LInv w x wx) (hb : Below wx.heap.size wx wy) : LInv w x wy :=
  ⟨h.f0.next hb, h.hs.next hb, bw_trans h.be hb⟩

set_option maxHeartbeats 8000000 in
set_option maxRecDepth 100000 in
theorem walk (bk bf br bc bb bp ba bm bh bd v : Int) (more : ByteArray) (cut : Int) (w : World) (hS : Sizes w) (okb : Bp.ok ⟨bk, bf, br, bc, bb, bp, ba, bm, bh, bd⟩) (hmore : more.size ≤ maxLen) :
    Calls Tryd.prog 4 #[bv bk bf br bc bb bp ba bm bh bd, .int .i64 v, .string more, .int .i64 cut] w fun e w' => e = .returned (.bool true) ∧ Below w.heap.size w w' := by
  unfold maxLen at hmore
  have OB := Lib.hid okb; clear okb
  unfold bv
  go_enter Tryd.func4, Tryd.ntmps4
  go_wp2_with fail
  have I0 : LInv w ⟨bk, bf, br, bc, bb, bp, ba, bm, bh, bd⟩ (w.alloc (.cells #[.int .i64 bk, .int .i64 bf, .int .u64 br, .int .u64 bc, .int .u64 bb, .int .u64 bp, .int .i64 ba, .int .i64 bm, .int .i64 bh, .int .i64 bd] 26)) :=
    ⟨blk_new 26 w bk bf br bc bb bp ba bm bh bd, hS.next (below_box w _), below_box w _⟩
  refine (awake_any _ I0.hs).mono ?_
  rintro e w1 ⟨rfl, hb1⟩
  have I1 := I0.next hb1
  clear hb1 I0 hS
  by_cases g1 : 500 < more.size
  · go_wp2
    go_ret
    exact ⟨rfl, I1.be⟩
  by_cases g3 : cut < 0
  · go_wp2
    go_ret
    exact ⟨rfl, I1.be⟩
  have lm : more.size ≤ 500 := by omega
  have lc : 0 ≤ cut := by omega
  clear hmore g1 g3
  obtain ⟨⟨X, E⟩, hX⟩ : ∃ r, sprintR ⟨bk, bf, br, bc, bb, bp, ba, bm, bh, bd⟩ v = r := ⟨_, rfl⟩
  have HX := Lib.hid hX; clear hX
  have y := I1.f0.cells
  obtain ⟨c0, c1, c2, c3, c4, c5, c6, c7, c8, c9⟩ := y
  go_wp2_with fail
  have hpw := sprint_w bk bf br bc bb bp ba bm bh bd v w1 X E HX I1.hs OB.out
  refine hpw.mono ?_
  clear hpw
  rintro e w2 ⟨rfl, hb2⟩
  have I2 := I1.next hb2
  clear hb2 I1 c0 c1 c2 c3 c4 c5 c6 c7 c8 c9
  rcases sprint_cases HX.out with ⟨rfl, rfl, _⟩ | ⟨_, _, _, rfl, rfl⟩ | ⟨hr, hk, hv, rfl, hXe⟩
  · clear HX
    go_wp2
    go_ret
    exact ⟨rfl, I2.be⟩
  · clear HX
    go_wp2
    go_ret
    exact ⟨rfl, I2.be⟩
  · clear HX
    obtain ⟨TB, hTB⟩ : ∃ T, bytesOf ⟨bk, bf, br, bc, bb, bp, ba, bm, bh, bd⟩ = T := ⟨_, rfl⟩
    have HB : Hid (printR ⟨bk, bf, br, bc, bb, bp, ba, bm, bh, bd⟩ = (TB, 0)) := by unfold printR; rw [hr, hTB]; rfl
    have hz : TB.size = sizeN bk := by rw [← hTB]; exact bytes_size _ hr
    have hz1 : TB.size ≤ 36 := by rw [hz]; exact sizeN_le bk
    clear hz
    have hXs : X.size = TB.size + 7 := by rw [hXe, ByteArray.size_append, tag_size, hTB]
    have hz2 : 0 < X.size := by omega
    have hz3 : X.size ≤ 43 := by omega
    have hXt : X.extract 0 TB.size = TB := by rw [hXe, hTB]; exact extract_whole _ _
    obtain ⟨C, hC, hCl, EC, hCp, hE0, hE3⟩ : ∃ C : Nat, cut % (X.size : Int) = C ∧ C < X.size ∧ ∃ E, sparseR (X.extract 0 C) = (zero, 0, E) ∧ E ≠ 0 ∧ (¬ (bk = 1 ∧ bm ≤ ba) → E = 3) := by
      have h1 := Int.emod_nonneg cut (show (X.size : Int) ≠ 0 by omega)
      have h2 := Int.emod_lt_of_pos cut (show (0 : Int) < X.size by omega)
      refine ⟨(cut % (X.size : Int)).toNat, by omega, by omega, ?_⟩
      have h3 : (cut % (X.size : Int)).toNat < X.size := by omega
      generalize (cut % (X.size : Int)).toNat = c at h3 ⊢
      rw [hXe] at h3 ⊢
      exact scut _ v hr OB.out hk hv c h3
    have hM := sback_parse ⟨bk, bf, br, bc, bb, bp, ba, bm, bh, bd⟩ v hr OB.out hk hv more
    rw [← hXe] at hM
    have HM0 := Lib.hid hM; clear hM
    have HXT := Lib.hid hXt; clear hXt
    have HCp := Lib.hid hCp; clear hCp
    have hmm : (X ++ more).size ≤ maxLen := by rw [ByteArray.size_append]; unfold maxLen; omega
    have hcm : (X.extract 0 C).size ≤ maxLen := by rw [ByteArray.size_extract]; unfold maxLen; omega
    have HMM := Lib.hid hmm; clear hmm
    have HCM := Lib.hid hcm; clear hcm
    have hxs : TB.size ≤ X.size := by omega
    clear hTB hXe hr hk hv hXs
    have y := I2.f0.cells
    obtain ⟨c0, c1, c2, c3, c4, c5, c6, c7, c8, c9⟩ := y
    go_wp2_with fail
    have hpw := print_w bk bf br bc bb bp ba bm bh bd _ TB 0 HB I2.hs OB.out
    refine hpw.mono ?_
    clear hpw
    rintro e w3 ⟨rfl, hb3⟩
    have I3 := I2.next hb3
    clear hb3 I2 c0 c1 c2 c3 c4 c5 c6 c7 c8 c9 HB
    by_cases hold : bk = 1 ∧ bm ≤ ba
    · skip
      have HM : Hid (sparseR (X ++ more) = (⟨0, 0, 0, 0, 0, 0, 0, 0, 0, 0⟩, 0, 1)) := by
        have h := HM0.out
        rw [if_pos hold] at h
        exact Lib.hid h
      clear HM0
      go_wp2_with fail
      have hpw := sparse_w (X ++ more) w3 0 0 0 0 0 0 0 0 0 0 0 1 HM I3.hs HMM.out
      refine hpw.mono ?_
      clear hpw
      rintro e w4 ⟨rfl, h4⟩
      have n4 := blk_new 26 w4 0 0 0 0 0 0 0 0 0 0
      have I4 := (I3.next h4).next (below_box w4 (.cells #[.int .i64 0, .int .i64 0, .int .u64 0, .int .u64 0, .int .u64 0, .int .u64 0, .int .i64 0, .int .i64 0, .int .i64 0, .int .i64 0] 26))
      clear h4 I3 HM HMM
      go_wp2_with fail
      have hpw := sparse_w (X.extract 0 C) _ 0 0 0 0 0 0 0 0 0 0 0 EC HCp I4.hs HCM.out
      refine hpw.mono ?_
      clear hpw
      rintro e w5 ⟨rfl, h5⟩
      obtain ⟨V, hV⟩ : ∃ V, V = w5.alloc (.cells #[.int .i64 0, .int .i64 0, .int .u64 0, .int .u64 0, .int .u64 0, .int .u64 0, .int .i64 0, .int .i64 0, .int .i64 0, .int .i64 0] 26) := ⟨_, rfl⟩
      have n5 : Blk 26 V w4.heap.size ⟨0, 0, 0, 0, 0, 0, 0, 0, 0, 0⟩ := by rw [hV]; exact (n4.next h5).next (below_box w5 _)
      have I5 : LInv w ⟨bk, bf, br, bc, bb, bp, ba, bm, bh, bd⟩ V := by rw [hV]; exact (I4.next h5).next (below_box w5 _)
      clear h5 I4 n4 HCp HCM hC
      go_upto_region 11 with (fail)
      rw [← hV]
      clear hV
      have y := I5.f0.cells
      obtain ⟨c0, c1, c2, c3, c4, c5, c6, c7, c8, c9⟩ := y
      have y := n5.cells
      obtain ⟨d0, d1, d2, d3, d4, d5, d6, d7, d8, d9⟩ := y
      have hq2 := run_bpEq bk bf br bc bb bp ba bm bh bd bk bf br bc bb bp ba bm bh bd
      have hqs := bpEq_self ⟨bk, bf, br, bc, bb, bp, ba, bm, bh, bd⟩
      have hxt : (X.extract 0 TB.size).toList = TB.toList := by rw [HXT.out]
      obtain ⟨rfl, hold2⟩ := hold
      clear hE3 hCl
      go_wp2
      go_ret
      exact ⟨rfl, I5.be⟩
    · skip
      have HM : Hid (sparseR (X ++ more) = (⟨bk, bf, br, bc, bb, bp, ba, bm, bh, bd⟩, v, 0)) := by
        have h := HM0.out
        rw [if_neg hold] at h
        exact Lib.hid h
      clear HM0
      go_wp2_with fail
      have hpw := sparse_w (X ++ more) w3 bk bf br bc bb bp ba bm bh bd v 0 HM I3.hs HMM.out
      refine hpw.mono ?_
      clear hpw
      rintro e w4 ⟨rfl, h4⟩
      have n4 := blk_new 26 w4 bk bf br bc bb bp ba bm bh bd
      have I4 := (I3.next h4).next (below_box w4 (.cells #[.int .i64 bk, .int .i64 bf, .int .u64 br, .int .u64 bc, .int .u64 bb, .int .u64 bp, .int .i64 ba, .int .i64 bm, .int .i64 bh, .int .i64 bd] 26))
      clear h4 I3 HM HMM
      go_wp2_with fail
      have hpw := sparse_w (X.extract 0 C) _ 0 0 0 0 0 0 0 0 0 0 0 EC HCp I4.hs HCM.out
      refine hpw.mono ?_
      clear hpw
      rintro e w5 ⟨rfl, h5⟩
      obtain ⟨V, hV⟩ : ∃ V, V = w5.alloc (.cells #[.int .i64 0, .int .i64 0, .int .u64 0, .int .u64 0, .int .u64 0, .int .u64 0, .int .i64 0, .int .i64 0, .int .i64 0, .int .i64 0] 26) := ⟨_, rfl⟩
      have n5 : Blk 26 V w4.heap.size ⟨bk, bf, br, bc, bb, bp, ba, bm, bh, bd⟩ := by rw [hV]; exact (n4.next h5).next (below_box w5 _)
      have I5 : LInv w ⟨bk, bf, br, bc, bb, bp, ba, bm, bh, bd⟩ V := by rw [hV]; exact (I4.next h5).next (below_box w5 _)
      clear h5 I4 n4 HCp HCM hC
      go_upto_region 11 with (fail)
      rw [← hV]
      clear hV
      have y := I5.f0.cells
      obtain ⟨c0, c1, c2, c3, c4, c5, c6, c7, c8, c9⟩ := y
      have y := n5.cells
      obtain ⟨d0, d1, d2, d3, d4, d5, d6, d7, d8, d9⟩ := y
      have hq2 := run_bpEq bk bf br bc bb bp ba bm bh bd bk bf br bc bb bp ba bm bh bd
      have hqs := bpEq_self ⟨bk, bf, br, bc, bb, bp, ba, bm, bh, bd⟩
      have hxt : (X.extract 0 TB.size).toList = TB.toList := by rw [HXT.out]
      obtain rfl := hE3 hold
      clear hE3 hE0 hCl
      by_cases hk1 : bk = 1
      · have hlt : ba < bm := by omega
        subst hk1
        go_wp2
        go_ret
        exact ⟨rfl, I5.be⟩
      · have hk2 : (bk == 1) = false := by simp [hk1]
        go_wp2
        go_ret
        exact ⟨rfl, I5.be⟩
end Go.Proofs.YtaifkepojfhgkaaDoor.sstpBack
