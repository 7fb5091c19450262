/-
  For any two BPDUs, bytes and numbers: what bpdu prints is heard, whatever stands behind it, but a configuration that is too old; cut off it ends too early; what is heard is right, and printed again heard as it was; unlike BPDUs have unlike bytes (the walk of the statement BpduBack).
-/
import Derived.Test.YtikldkhmcmgbeaaDoorBpK
namespace Go.Proofs.YtikldkhmcmgbeaaDoor.bpduBack
set_option linter.unusedVariables false
set_option linter.unusedSimpArgs false
open Go.ChangeShapes Go.WideShapes Go.ChangeAt Go.RowKit Bm

/-- The two BPDUs lie where they came in, the table of sizes stands, nothing that was there has turned. -/
structure LInv (w : World) (x y : Bp) (wx : World) : Prop where
  f0 : Blk 26 wx w.heap.size x
  f1 : Blk 26 wx (w.heap.size + 1) y
  hs : Sizes wx
  be : Below w.heap.size w wx
theorem LInv.next {w : World} {x y : Bp} {wx wy : World} (h : LInv w x y wx) (hb : Below wx.heap.size wx wy) : LInv w x y wy :=
  ⟨h.f0.next hb, h.f1.next hb, h.hs.next hb, bw_trans h.be hb⟩
theorem sizeN_le (k : Int) : sizeN k ≤ 36 := by
  unfold sizeN; repeat' split
  all_goals omega

set_option maxHeartbeats 16000000 in
set_option maxRecDepth 100000 in
theorem walk (bk bf br bc bb bp ba bm bh bd ck cf cr cc cb cp ca cm ch cd : Int) (more s : ByteArray) (cut : Int) (w : World) (hS : Sizes w) (okb : Bp.ok ⟨bk, bf, br, bc, bb, bp, ba, bm, bh, bd⟩) (okc : Bp.ok ⟨ck, cf, cr, cc, cb, cp, ca, cm, ch, cd⟩) (hmore : more.size ≤ maxLen) (hs : s.size ≤ maxLen) :
    Calls Tryd.prog 4 #[bv bk bf br bc bb bp ba bm bh bd, bv ck cf cr cc cb cp ca cm ch cd, .string more, .string s, .int .i64 cut] w fun e w' => e = .returned (.bool true) ∧ Below w.heap.size w w' := by
  unfold maxLen at hmore hs
  have OB := Lib.hid okb; clear okb
  have OC := Lib.hid okc; clear okc
  unfold bv
  go_enter Tryd.func4, Tryd.ntmps4
  go_wp2_with fail
  have I0 : LInv w ⟨bk, bf, br, bc, bb, bp, ba, bm, bh, bd⟩ ⟨ck, cf, cr, cc, cb, cp, ca, cm, ch, cd⟩ ((w.alloc (.cells #[.int .i64 bk, .int .i64 bf, .int .u64 br, .int .u64 bc, .int .u64 bb, .int .u64 bp, .int .i64 ba, .int .i64 bm, .int .i64 bh, .int .i64 bd] 26)).alloc (.cells #[.int .i64 ck, .int .i64 cf, .int .u64 cr, .int .u64 cc, .int .u64 cb, .int .u64 cp, .int .i64 ca, .int .i64 cm, .int .i64 ch, .int .i64 cd] 26)) := by
    have k0 := blk_new 26 w bk bf br bc bb bp ba bm bh bd
    have k1 := blk_new 26 (w.alloc (.cells #[.int .i64 bk, .int .i64 bf, .int .u64 br, .int .u64 bc, .int .u64 bb, .int .u64 bp, .int .i64 ba, .int .i64 bm, .int .i64 bh, .int .i64 bd] 26)) ck cf cr cc cb cp ca cm ch cd
    have e : (w.alloc (.cells #[.int .i64 bk, .int .i64 bf, .int .u64 br, .int .u64 bc, .int .u64 bb, .int .u64 bp, .int .i64 ba, .int .i64 bm, .int .i64 bh, .int .i64 bd] 26)).heap.size = w.heap.size + 1 := by simp
    rw [e] at k1
    exact ⟨k0.next (below_box _ _), k1, (hS.next (below_box w _)).next (below_box _ _), bw_alloc (below_box w _) _⟩
  refine (awake_any _ I0.hs).mono ?_
  rintro e w1 ⟨rfl, hb1⟩
  have I1 := I0.next hb1
  clear hb1 I0 hS
  by_cases g1 : 500 < more.size
  · go_wp2
    go_ret
    exact ⟨rfl, I1.be⟩
  by_cases g2 : 1600 < s.size
  · go_wp2
    go_ret
    exact ⟨rfl, I1.be⟩
  by_cases g3 : cut < 0
  · go_wp2
    go_ret
    exact ⟨rfl, I1.be⟩
  have lm : more.size ≤ 500 := by omega
  have ls : s.size ≤ 1600 := by omega
  have lc : 0 ≤ cut := by omega
  clear hmore hs g1 g2 g3
  obtain ⟨⟨⟨x0, x1, x2, x3, x4, x5, x6, x7, x8, x9⟩, E⟩, hX⟩ : ∃ r, parseR s = r := ⟨_, rfl⟩
  have HX := Lib.hid hX; clear hX
  go_wp2_with fail
  have hpw := parse_w s w1 x0 x1 x2 x3 x4 x5 x6 x7 x8 x9 E HX I1.hs (by unfold maxLen; omega)
  refine hpw.mono ?_
  clear hpw
  rintro e w2 ⟨rfl, hb2⟩
  have m2 := blk_new 26 w2 x0 x1 x2 x3 x4 x5 x6 x7 x8 x9
  have I2 := (I1.next hb2).next (below_box w2 (.cells #[.int .i64 x0, .int .i64 x1, .int .u64 x2, .int .u64 x3, .int .u64 x4, .int .u64 x5, .int .i64 x6, .int .i64 x7, .int .i64 x8, .int .i64 x9] 26))
  clear hb2 I1
  by_cases hE : E = 0
  · subst hE
    obtain ⟨hr, ho, hn⟩ := heard_right HX.out
    obtain ⟨T, hT⟩ : ∃ T, bytesOf ⟨x0, x1, x2, x3, x4, x5, x6, x7, x8, x9⟩ = T := ⟨_, rfl⟩
    have HP : Hid (printR ⟨x0, x1, x2, x3, x4, x5, x6, x7, x8, x9⟩ = (T, 0)) := by unfold printR; rw [if_pos hr, hT]; rfl
    have HQ : Hid (parseR T = (⟨x0, x1, x2, x3, x4, x5, x6, x7, x8, x9⟩, 0)) := by rw [← hT]; exact back_again hr ho hn
    have hz : T.size = sizeN x0 := by rw [← hT]; exact bytes_size _ hr
    have hz1 : T.size ≤ 36 := by rw [hz]; exact sizeN_le x0
    have HZ : Hid ((sizeN x0 : Int) = (T.size : Int)) := by rw [hz]; rfl
    have HR0 := Lib.hid hr
    have HO0 := Lib.hid ho
    clear hr ho hn hT hz HX
    have y := m2.cells
    obtain ⟨c0, c1, c2, c3, c4, c5, c6, c7, c8, c9⟩ := y
    go_wp2_with fail
    have hpw := print_w x0 x1 x2 x3 x4 x5 x6 x7 x8 x9 _ T 0 HP I2.hs HO0.out
    refine hpw.mono ?_
    clear hpw
    rintro e w3 ⟨rfl, hb3⟩
    have m3 := m2.next hb3
    have I3 := I2.next hb3
    clear hb3 m2 I2 c0 c1 c2 c3 c4 c5 c6 c7 c8 c9 HP
    go_wp2_with fail
    have hpw := parse_w T w3 x0 x1 x2 x3 x4 x5 x6 x7 x8 x9 0 HQ I3.hs (by unfold maxLen; omega)
    refine hpw.mono ?_
    clear hpw
    rintro e w4 ⟨rfl, hb4⟩
    have m4 := (m3.next hb4).next (below_box w4 (.cells #[.int .i64 x0, .int .i64 x1, .int .u64 x2, .int .u64 x3, .int .u64 x4, .int .u64 x5, .int .i64 x6, .int .i64 x7, .int .i64 x8, .int .i64 x9] 26))
    have n4 := blk_new 26 w4 x0 x1 x2 x3 x4 x5 x6 x7 x8 x9
    have I4 := (I3.next hb4).next (below_box w4 (.cells #[.int .i64 x0, .int .i64 x1, .int .u64 x2, .int .u64 x3, .int .u64 x4, .int .u64 x5, .int .i64 x6, .int .i64 x7, .int .i64 x8, .int .i64 x9] 26))
    clear hb4 m3 I3 HQ
    have y := m4.cells
    obtain ⟨c0, c1, c2, c3, c4, c5, c6, c7, c8, c9⟩ := y
    go_wp2_with fail
    refine (right_w x0 x1 x2 x3 x4 x5 x6 x7 x8 x9 _ true HR0).mono ?_
    rintro e w5 ⟨rfl, hb5⟩
    have m5 := m4.next hb5
    have n5 := n4.next hb5
    have I5 := I4.next hb5
    clear hb5 m4 n4 I4 c0 c1 c2 c3 c4 c5 c6 c7 c8 c9
    have y := m5.cells
    obtain ⟨c0, c1, c2, c3, c4, c5, c6, c7, c8, c9⟩ := y
    have y := n5.cells
    obtain ⟨d0, d1, d2, d3, d4, d5, d6, d7, d8, d9⟩ := y
    have hqn := run_bpNe x0 x1 x2 x3 x4 x5 x6 x7 x8 x9 x0 x1 x2 x3 x4 x5 x6 x7 x8 x9
    have hqs := bpEq_self ⟨x0, x1, x2, x3, x4, x5, x6, x7, x8, x9⟩
    go_wp2_with fail
    refine (size_w x0 T.size _ HZ I5.hs).mono ?_
    rintro e w6 ⟨rfl, rfl⟩
    clear c0 c1 c2 c3 c4 c5 c6 c7 c8 c9 d0 d1 d2 d3 d4 d5 d6 d7 d8 d9 hqn hqs HR0 HO0 HZ m5 n5
    have y := I5.f0.cells
    obtain ⟨c0, c1, c2, c3, c4, c5, c6, c7, c8, c9⟩ := y
    obtain ⟨⟨TC, EC⟩, hC⟩ : ∃ r, printR ⟨ck, cf, cr, cc, cb, cp, ca, cm, ch, cd⟩ = r := ⟨_, rfl⟩
    have HC := Lib.hid hC; clear hC
    cases hrb : rightB ⟨bk, bf, br, bc, bb, bp, ba, bm, bh, bd⟩ with
    | false =>
      have HB : Hid (printR ⟨bk, bf, br, bc, bb, bp, ba, bm, bh, bd⟩ = (⟨#[]⟩, 2)) := by unfold printR; rw [hrb]; rfl
      have HR := Lib.hid hrb; clear hrb
      go_wp2_with fail
      have hpw := print_w bk bf br bc bb bp ba bm bh bd _ ⟨#[]⟩ 2 HB I5.hs OB.out
      refine hpw.mono ?_
      clear hpw
      rintro e v1 ⟨rfl, h1⟩
      have J1 := I5.next h1
      clear h1 I5 c0 c1 c2 c3 c4 c5 c6 c7 c8 c9
      have y := J1.f1.cells
      obtain ⟨c0, c1, c2, c3, c4, c5, c6, c7, c8, c9⟩ := y
      go_wp2_with fail
      have hpw := print_w ck cf cr cc cb cp ca cm ch cd _ TC EC HC J1.hs OC.out
      refine hpw.mono ?_
      clear hpw
      rintro e v2 ⟨rfl, h2⟩
      have J2 := J1.next h2
      clear h2 J1 c0 c1 c2 c3 c4 c5 c6 c7 c8 c9
      have y := J2.f0.cells
      obtain ⟨c0, c1, c2, c3, c4, c5, c6, c7, c8, c9⟩ := y
      go_wp2_with fail
      refine (right_w bk bf br bc bb bp ba bm bh bd _ false HR).mono ?_
      rintro e v3 ⟨rfl, h3⟩
      go_wp2
      go_ret
      exact ⟨rfl, (J2.next h3).be⟩
    | true =>
      obtain ⟨TB, hTB⟩ : ∃ T, bytesOf ⟨bk, bf, br, bc, bb, bp, ba, bm, bh, bd⟩ = T := ⟨_, rfl⟩
      have HB : Hid (printR ⟨bk, bf, br, bc, bb, bp, ba, bm, bh, bd⟩ = (TB, 0)) := by unfold printR; rw [hrb, hTB]; rfl
      have hz : TB.size = sizeN bk := by rw [← hTB]; exact bytes_size _ hrb
      have hz1 : TB.size ≤ 36 := by rw [hz]; exact sizeN_le bk
      have hz2 : 0 < TB.size := by rw [hz]; exact size_pos hrb
      clear hz
      have HT := Lib.hid hTB; clear hTB
      have HR := Lib.hid hrb; clear hrb
      go_wp2_with fail
      have hpw := print_w bk bf br bc bb bp ba bm bh bd _ TB 0 HB I5.hs OB.out
      refine hpw.mono ?_
      clear hpw
      rintro e v1 ⟨rfl, h1⟩
      have J1 := I5.next h1
      clear h1 I5 c0 c1 c2 c3 c4 c5 c6 c7 c8 c9
      have y := J1.f1.cells
      obtain ⟨c0, c1, c2, c3, c4, c5, c6, c7, c8, c9⟩ := y
      go_wp2_with fail
      have hpw := print_w ck cf cr cc cb cp ca cm ch cd _ TC EC HC J1.hs OC.out
      refine hpw.mono ?_
      clear hpw
      rintro e v2 ⟨rfl, h2⟩
      have J2 := J1.next h2
      clear h2 J1 c0 c1 c2 c3 c4 c5 c6 c7 c8 c9 HB
      obtain ⟨C, hC, hCl, hCp⟩ : ∃ C : Nat, cut % (TB.size : Int) = C ∧ C < TB.size ∧ parseR (TB.extract 0 C) = (zero, 3) := by
        have h1 := Int.emod_nonneg cut (show (TB.size : Int) ≠ 0 by omega)
        have h2 := Int.emod_lt_of_pos cut (show (0 : Int) < TB.size by omega)
        refine ⟨(cut % (TB.size : Int)).toNat, by omega, by omega, ?_⟩
        rw [← HT.out]
        exact cut_short _ HR.out OB.out _ (by rw [HT.out]; omega)
      have HCp := Lib.hid hCp; clear hCp
      have hmm : (TB ++ more).size ≤ maxLen := by rw [ByteArray.size_append]; unfold maxLen; omega
      have hcm : (TB.extract 0 C).size ≤ maxLen := by rw [ByteArray.size_extract]; unfold maxLen; omega
      have HMM := Lib.hid hmm; clear hmm
      have HCM := Lib.hid hcm; clear hcm
      by_cases hold : bk = 1 ∧ bm ≤ ba
      · skip
        have HM : Hid (parseR (TB ++ more) = (⟨0, 0, 0, 0, 0, 0, 0, 0, 0, 0⟩, 1)) := by
          have h := back_parse _ HR.out OB.out more
          rw [if_pos hold, HT.out] at h
          exact h
        go_wp2_with fail
        have hpw := parse_w (TB ++ more) v2 0 0 0 0 0 0 0 0 0 0 1 HM J2.hs HMM.out
        refine hpw.mono ?_
        clear hpw
        rintro e v3 ⟨rfl, h3⟩
        have n3 := blk_new 26 v3 0 0 0 0 0 0 0 0 0 0
        have J3 := (J2.next h3).next (below_box v3 (.cells #[.int .i64 0, .int .i64 0, .int .u64 0, .int .u64 0, .int .u64 0, .int .u64 0, .int .i64 0, .int .i64 0, .int .i64 0, .int .i64 0] 26))
        clear h3 J2 HM
        go_wp2_with fail
        have hpw := parse_w (TB.extract 0 C) _ 0 0 0 0 0 0 0 0 0 0 3 HCp J3.hs HCM.out
        refine hpw.mono ?_
        clear hpw
        rintro e v4 ⟨rfl, h4⟩
        obtain ⟨V, hV⟩ : ∃ V, V = v4.alloc (.cells #[.int .i64 0, .int .i64 0, .int .u64 0, .int .u64 0, .int .u64 0, .int .u64 0, .int .i64 0, .int .i64 0, .int .i64 0, .int .i64 0] 26) := ⟨_, rfl⟩
        have n4 : Blk 26 V v3.heap.size ⟨0, 0, 0, 0, 0, 0, 0, 0, 0, 0⟩ := by rw [hV]; exact (n3.next h4).next (below_box v4 _)
        have J4 : LInv w ⟨bk, bf, br, bc, bb, bp, ba, bm, bh, bd⟩ ⟨ck, cf, cr, cc, cb, cp, ca, cm, ch, cd⟩ V := by rw [hV]; exact (J3.next h4).next (below_box v4 _)
        clear h4 J3 n3
        go_upto_region 17 with (fail)
        rw [← hV]
        clear hV
        have y := J4.f0.cells
        obtain ⟨c0, c1, c2, c3, c4, c5, c6, c7, c8, c9⟩ := y
        have y := J4.f1.cells
        obtain ⟨e0, e1, e2, e3, e4, e5, e6, e7, e8, e9⟩ := y
        have y := n4.cells
        obtain ⟨d0, d1, d2, d3, d4, d5, d6, d7, d8, d9⟩ := y
        have hq := run_bpEq bk bf br bc bb bp ba bm bh bd ck cf cr cc cb cp ca cm ch cd
        obtain ⟨rfl, hold2⟩ := hold
        cases hrc : rightB ⟨ck, cf, cr, cc, cb, cp, ca, cm, ch, cd⟩ with
        | false =>
          obtain ⟨rfl, rfl⟩ : TC = ⟨#[]⟩ ∧ EC = 2 := by
            have h := HC.out
            unfold printR at h
            rw [hrc] at h
            simp at h
            exact ⟨h.1.symm, h.2.symm⟩
          clear hrc HC
          go_wp2
          go_ret
          exact ⟨rfl, J4.be⟩
        | true =>
          obtain rfl : EC = 0 := by
            have h := HC.out
            unfold printR at h
            rw [hrc] at h
            simp at h
            exact h.2.symm
          have hsame : (TB.toList == TC.toList) = bpEq ⟨1, bf, br, bc, bb, bp, ba, bm, bh, bd⟩ ⟨ck, cf, cr, cc, cb, cp, ca, cm, ch, cd⟩ := by
            have h := HC.out
            unfold printR at h
            rw [hrc] at h
            simp at h
            rw [← h, ← HT.out]
            exact bytes_same _ _ HR.out hrc OB.out OC.out
          clear hrc HC
          go_wp2
          go_ret
          exact ⟨rfl, J4.be⟩
      · skip
        have HM : Hid (parseR (TB ++ more) = (⟨bk, bf, br, bc, bb, bp, ba, bm, bh, bd⟩, 0)) := by
          have h := back_parse _ HR.out OB.out more
          rw [if_neg hold, HT.out] at h
          exact h
        go_wp2_with fail
        have hpw := parse_w (TB ++ more) v2 bk bf br bc bb bp ba bm bh bd 0 HM J2.hs HMM.out
        refine hpw.mono ?_
        clear hpw
        rintro e v3 ⟨rfl, h3⟩
        have n3 := blk_new 26 v3 bk bf br bc bb bp ba bm bh bd
        have J3 := (J2.next h3).next (below_box v3 (.cells #[.int .i64 bk, .int .i64 bf, .int .u64 br, .int .u64 bc, .int .u64 bb, .int .u64 bp, .int .i64 ba, .int .i64 bm, .int .i64 bh, .int .i64 bd] 26))
        clear h3 J2 HM
        go_wp2_with fail
        have hpw := parse_w (TB.extract 0 C) _ 0 0 0 0 0 0 0 0 0 0 3 HCp J3.hs HCM.out
        refine hpw.mono ?_
        clear hpw
        rintro e v4 ⟨rfl, h4⟩
        obtain ⟨V, hV⟩ : ∃ V, V = v4.alloc (.cells #[.int .i64 0, .int .i64 0, .int .u64 0, .int .u64 0, .int .u64 0, .int .u64 0, .int .i64 0, .int .i64 0, .int .i64 0, .int .i64 0] 26) := ⟨_, rfl⟩
        have n4 : Blk 26 V v3.heap.size ⟨bk, bf, br, bc, bb, bp, ba, bm, bh, bd⟩ := by rw [hV]; exact (n3.next h4).next (below_box v4 _)
        have J4 : LInv w ⟨bk, bf, br, bc, bb, bp, ba, bm, bh, bd⟩ ⟨ck, cf, cr, cc, cb, cp, ca, cm, ch, cd⟩ V := by rw [hV]; exact (J3.next h4).next (below_box v4 _)
        clear h4 J3 n3
        go_upto_region 17 with (fail)
        rw [← hV]
        clear hV
        have y := J4.f0.cells
        obtain ⟨c0, c1, c2, c3, c4, c5, c6, c7, c8, c9⟩ := y
        have y := J4.f1.cells
        obtain ⟨e0, e1, e2, e3, e4, e5, e6, e7, e8, e9⟩ := y
        have y := n4.cells
        obtain ⟨d0, d1, d2, d3, d4, d5, d6, d7, d8, d9⟩ := y
        have hq := run_bpEq bk bf br bc bb bp ba bm bh bd ck cf cr cc cb cp ca cm ch cd
        have hq2 := run_bpEq bk bf br bc bb bp ba bm bh bd bk bf br bc bb bp ba bm bh bd
        have hqs := bpEq_self ⟨bk, bf, br, bc, bb, bp, ba, bm, bh, bd⟩
        cases hrc : rightB ⟨ck, cf, cr, cc, cb, cp, ca, cm, ch, cd⟩ with
        | false =>
          obtain ⟨rfl, rfl⟩ : TC = ⟨#[]⟩ ∧ EC = 2 := by
            have h := HC.out
            unfold printR at h
            rw [hrc] at h
            simp at h
            exact ⟨h.1.symm, h.2.symm⟩
          clear hrc HC
          by_cases hk1 : bk = 1
          · have hlt : ba < bm := by omega
            subst hk1
            go_wp2
            go_ret
            exact ⟨rfl, J4.be⟩
          · have hk2 : (bk == 1) = false := by simp [hk1]
            go_wp2
            go_ret
            exact ⟨rfl, J4.be⟩
        | true =>
          obtain rfl : EC = 0 := by
            have h := HC.out
            unfold printR at h
            rw [hrc] at h
            simp at h
            exact h.2.symm
          have hsame : (TB.toList == TC.toList) = bpEq ⟨bk, bf, br, bc, bb, bp, ba, bm, bh, bd⟩ ⟨ck, cf, cr, cc, cb, cp, ca, cm, ch, cd⟩ := by
            have h := HC.out
            unfold printR at h
            rw [hrc] at h
            simp at h
            rw [← h, ← HT.out]
            exact bytes_same _ _ HR.out hrc OB.out OC.out
          clear hrc HC
          by_cases hk1 : bk = 1
          · have hlt : ba < bm := by omega
            subst hk1
            go_wp2
            go_ret
            exact ⟨rfl, J4.be⟩
          · have hk2 : (bk == 1) = false := by simp [hk1]
            go_wp2
            go_ret
            exact ⟨rfl, J4.be⟩
  · have hE' : (E == 0) = false := by simp [hE]
    clear HX m2
    have y := I2.f0.cells
    obtain ⟨c0, c1, c2, c3, c4, c5, c6, c7, c8, c9⟩ := y
    obtain ⟨⟨TC, EC⟩, hC⟩ : ∃ r, printR ⟨ck, cf, cr, cc, cb, cp, ca, cm, ch, cd⟩ = r := ⟨_, rfl⟩
    have HC := Lib.hid hC; clear hC
    cases hrb : rightB ⟨bk, bf, br, bc, bb, bp, ba, bm, bh, bd⟩ with
    | false =>
      have HB : Hid (printR ⟨bk, bf, br, bc, bb, bp, ba, bm, bh, bd⟩ = (⟨#[]⟩, 2)) := by unfold printR; rw [hrb]; rfl
      have HR := Lib.hid hrb; clear hrb
      go_wp2_with fail
      have hpw := print_w bk bf br bc bb bp ba bm bh bd _ ⟨#[]⟩ 2 HB I2.hs OB.out
      refine hpw.mono ?_
      clear hpw
      rintro e v1 ⟨rfl, h1⟩
      have J1 := I2.next h1
      clear h1 I2 c0 c1 c2 c3 c4 c5 c6 c7 c8 c9
      have y := J1.f1.cells
      obtain ⟨c0, c1, c2, c3, c4, c5, c6, c7, c8, c9⟩ := y
      go_wp2_with fail
      have hpw := print_w ck cf cr cc cb cp ca cm ch cd _ TC EC HC J1.hs OC.out
      refine hpw.mono ?_
      clear hpw
      rintro e v2 ⟨rfl, h2⟩
      have J2 := J1.next h2
      clear h2 J1 c0 c1 c2 c3 c4 c5 c6 c7 c8 c9
      have y := J2.f0.cells
      obtain ⟨c0, c1, c2, c3, c4, c5, c6, c7, c8, c9⟩ := y
      go_wp2_with fail
      refine (right_w bk bf br bc bb bp ba bm bh bd _ false HR).mono ?_
      rintro e v3 ⟨rfl, h3⟩
      go_wp2
      go_ret
      exact ⟨rfl, (J2.next h3).be⟩
    | true =>
      obtain ⟨TB, hTB⟩ : ∃ T, bytesOf ⟨bk, bf, br, bc, bb, bp, ba, bm, bh, bd⟩ = T := ⟨_, rfl⟩
      have HB : Hid (printR ⟨bk, bf, br, bc, bb, bp, ba, bm, bh, bd⟩ = (TB, 0)) := by unfold printR; rw [hrb, hTB]; rfl
      have hz : TB.size = sizeN bk := by rw [← hTB]; exact bytes_size _ hrb
      have hz1 : TB.size ≤ 36 := by rw [hz]; exact sizeN_le bk
      have hz2 : 0 < TB.size := by rw [hz]; exact size_pos hrb
      clear hz
      have HT := Lib.hid hTB; clear hTB
      have HR := Lib.hid hrb; clear hrb
      go_wp2_with fail
      have hpw := print_w bk bf br bc bb bp ba bm bh bd _ TB 0 HB I2.hs OB.out
      refine hpw.mono ?_
      clear hpw
      rintro e v1 ⟨rfl, h1⟩
      have J1 := I2.next h1
      clear h1 I2 c0 c1 c2 c3 c4 c5 c6 c7 c8 c9
      have y := J1.f1.cells
      obtain ⟨c0, c1, c2, c3, c4, c5, c6, c7, c8, c9⟩ := y
      go_wp2_with fail
      have hpw := print_w ck cf cr cc cb cp ca cm ch cd _ TC EC HC J1.hs OC.out
      refine hpw.mono ?_
      clear hpw
      rintro e v2 ⟨rfl, h2⟩
      have J2 := J1.next h2
      clear h2 J1 c0 c1 c2 c3 c4 c5 c6 c7 c8 c9 HB
      obtain ⟨C, hC, hCl, hCp⟩ : ∃ C : Nat, cut % (TB.size : Int) = C ∧ C < TB.size ∧ parseR (TB.extract 0 C) = (zero, 3) := by
        have h1 := Int.emod_nonneg cut (show (TB.size : Int) ≠ 0 by omega)
        have h2 := Int.emod_lt_of_pos cut (show (0 : Int) < TB.size by omega)
        refine ⟨(cut % (TB.size : Int)).toNat, by omega, by omega, ?_⟩
        rw [← HT.out]
        exact cut_short _ HR.out OB.out _ (by rw [HT.out]; omega)
      have HCp := Lib.hid hCp; clear hCp
      have hmm : (TB ++ more).size ≤ maxLen := by rw [ByteArray.size_append]; unfold maxLen; omega
      have hcm : (TB.extract 0 C).size ≤ maxLen := by rw [ByteArray.size_extract]; unfold maxLen; omega
      have HMM := Lib.hid hmm; clear hmm
      have HCM := Lib.hid hcm; clear hcm
      by_cases hold : bk = 1 ∧ bm ≤ ba
      · skip
        have HM : Hid (parseR (TB ++ more) = (⟨0, 0, 0, 0, 0, 0, 0, 0, 0, 0⟩, 1)) := by
          have h := back_parse _ HR.out OB.out more
          rw [if_pos hold, HT.out] at h
          exact h
        go_wp2_with fail
        have hpw := parse_w (TB ++ more) v2 0 0 0 0 0 0 0 0 0 0 1 HM J2.hs HMM.out
        refine hpw.mono ?_
        clear hpw
        rintro e v3 ⟨rfl, h3⟩
        have n3 := blk_new 26 v3 0 0 0 0 0 0 0 0 0 0
        have J3 := (J2.next h3).next (below_box v3 (.cells #[.int .i64 0, .int .i64 0, .int .u64 0, .int .u64 0, .int .u64 0, .int .u64 0, .int .i64 0, .int .i64 0, .int .i64 0, .int .i64 0] 26))
        clear h3 J2 HM
        go_wp2_with fail
        have hpw := parse_w (TB.extract 0 C) _ 0 0 0 0 0 0 0 0 0 0 3 HCp J3.hs HCM.out
        refine hpw.mono ?_
        clear hpw
        rintro e v4 ⟨rfl, h4⟩
        obtain ⟨V, hV⟩ : ∃ V, V = v4.alloc (.cells #[.int .i64 0, .int .i64 0, .int .u64 0, .int .u64 0, .int .u64 0, .int .u64 0, .int .i64 0, .int .i64 0, .int .i64 0, .int .i64 0] 26) := ⟨_, rfl⟩
        have n4 : Blk 26 V v3.heap.size ⟨0, 0, 0, 0, 0, 0, 0, 0, 0, 0⟩ := by rw [hV]; exact (n3.next h4).next (below_box v4 _)
        have J4 : LInv w ⟨bk, bf, br, bc, bb, bp, ba, bm, bh, bd⟩ ⟨ck, cf, cr, cc, cb, cp, ca, cm, ch, cd⟩ V := by rw [hV]; exact (J3.next h4).next (below_box v4 _)
        clear h4 J3 n3
        go_upto_region 17 with (fail)
        rw [← hV]
        clear hV
        have y := J4.f0.cells
        obtain ⟨c0, c1, c2, c3, c4, c5, c6, c7, c8, c9⟩ := y
        have y := J4.f1.cells
        obtain ⟨e0, e1, e2, e3, e4, e5, e6, e7, e8, e9⟩ := y
        have y := n4.cells
        obtain ⟨d0, d1, d2, d3, d4, d5, d6, d7, d8, d9⟩ := y
        have hq := run_bpEq bk bf br bc bb bp ba bm bh bd ck cf cr cc cb cp ca cm ch cd
        obtain ⟨rfl, hold2⟩ := hold
        cases hrc : rightB ⟨ck, cf, cr, cc, cb, cp, ca, cm, ch, cd⟩ with
        | false =>
          obtain ⟨rfl, rfl⟩ : TC = ⟨#[]⟩ ∧ EC = 2 := by
            have h := HC.out
            unfold printR at h
            rw [hrc] at h
            simp at h
            exact ⟨h.1.symm, h.2.symm⟩
          clear hrc HC
          go_wp2
          go_ret
          exact ⟨rfl, J4.be⟩
        | true =>
          obtain rfl : EC = 0 := by
            have h := HC.out
            unfold printR at h
            rw [hrc] at h
            simp at h
            exact h.2.symm
          have hsame : (TB.toList == TC.toList) = bpEq ⟨1, bf, br, bc, bb, bp, ba, bm, bh, bd⟩ ⟨ck, cf, cr, cc, cb, cp, ca, cm, ch, cd⟩ := by
            have h := HC.out
            unfold printR at h
            rw [hrc] at h
            simp at h
            rw [← h, ← HT.out]
            exact bytes_same _ _ HR.out hrc OB.out OC.out
          clear hrc HC
          go_wp2
          go_ret
          exact ⟨rfl, J4.be⟩
      · skip
        have HM : Hid (parseR (TB ++ more) = (⟨bk, bf, br, bc, bb, bp, ba, bm, bh, bd⟩, 0)) := by
          have h := back_parse _ HR.out OB.out more
          rw [if_neg hold, HT.out] at h
          exact h
        go_wp2_with fail
        have hpw := parse_w (TB ++ more) v2 bk bf br bc bb bp ba bm bh bd 0 HM J2.hs HMM.out
        refine hpw.mono ?_
        clear hpw
        rintro e v3 ⟨rfl, h3⟩
        have n3 := blk_new 26 v3 bk bf br bc bb bp ba bm bh bd
        have J3 := (J2.next h3).next (below_box v3 (.cells #[.int .i64 bk, .int .i64 bf, .int .u64 br, .int .u64 bc, .int .u64 bb, .int .u64 bp, .int .i64 ba, .int .i64 bm, .int .i64 bh, .int .i64 bd] 26))
        clear h3 J2 HM
        go_wp2_with fail
        have hpw := parse_w (TB.extract 0 C) _ 0 0 0 0 0 0 0 0 0 0 3 HCp J3.hs HCM.out
        refine hpw.mono ?_
        clear hpw
        rintro e v4 ⟨rfl, h4⟩
        obtain ⟨V, hV⟩ : ∃ V, V = v4.alloc (.cells #[.int .i64 0, .int .i64 0, .int .u64 0, .int .u64 0, .int .u64 0, .int .u64 0, .int .i64 0, .int .i64 0, .int .i64 0, .int .i64 0] 26) := ⟨_, rfl⟩
        have n4 : Blk 26 V v3.heap.size ⟨bk, bf, br, bc, bb, bp, ba, bm, bh, bd⟩ := by rw [hV]; exact (n3.next h4).next (below_box v4 _)
        have J4 : LInv w ⟨bk, bf, br, bc, bb, bp, ba, bm, bh, bd⟩ ⟨ck, cf, cr, cc, cb, cp, ca, cm, ch, cd⟩ V := by rw [hV]; exact (J3.next h4).next (below_box v4 _)
        clear h4 J3 n3
        go_upto_region 17 with (fail)
        rw [← hV]
        clear hV
        have y := J4.f0.cells
        obtain ⟨c0, c1, c2, c3, c4, c5, c6, c7, c8, c9⟩ := y
        have y := J4.f1.cells
        obtain ⟨e0, e1, e2, e3, e4, e5, e6, e7, e8, e9⟩ := y
        have y := n4.cells
        obtain ⟨d0, d1, d2, d3, d4, d5, d6, d7, d8, d9⟩ := y
        have hq := run_bpEq bk bf br bc bb bp ba bm bh bd ck cf cr cc cb cp ca cm ch cd
        have hq2 := run_bpEq bk bf br bc bb bp ba bm bh bd bk bf br bc bb bp ba bm bh bd
        have hqs := bpEq_self ⟨bk, bf, br, bc, bb, bp, ba, bm, bh, bd⟩
        cases hrc : rightB ⟨ck, cf, cr, cc, cb, cp, ca, cm, ch, cd⟩ with
        | false =>
          obtain ⟨rfl, rfl⟩ : TC = ⟨#[]⟩ ∧ EC = 2 := by
            have h := HC.out
            unfold printR at h
            rw [hrc] at h
            simp at h
            exact ⟨h.1.symm, h.2.symm⟩
          clear hrc HC
          by_cases hk1 : bk = 1
          · have hlt : ba < bm := by omega
            subst hk1
            go_wp2
            go_ret
            exact ⟨rfl, J4.be⟩
          · have hk2 : (bk == 1) = false := by simp [hk1]
            go_wp2
            go_ret
            exact ⟨rfl, J4.be⟩
        | true =>
          obtain rfl : EC = 0 := by
            have h := HC.out
            unfold printR at h
            rw [hrc] at h
            simp at h
            exact h.2.symm
          have hsame : (TB.toList == TC.toList) = bpEq ⟨bk, bf, br, bc, bb, bp, ba, bm, bh, bd⟩ ⟨ck, cf, cr, cc, cb, cp, ca, cm, ch, cd⟩ := by
            have h := HC.out
            unfold printR at h
            rw [hrc] at h
            simp at h
            rw [← h, ← HT.out]
            exact bytes_same _ _ HR.out hrc OB.out OC.out
          clear hrc HC
          by_cases hk1 : bk = 1
          · have hlt : ba < bm := by omega
            subst hk1
            go_wp2
            go_ret
            exact ⟨rfl, J4.be⟩
          · have hk2 : (bk == 1) = false := by simp [hk1]
            go_wp2
            go_ret
            exact ⟨rfl, J4.be⟩
end Go.Proofs.YtikldkhmcmgbeaaDoor.bpduBack
