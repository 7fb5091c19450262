/-
  For every two frames, number and text: what was printed is parsed, what is parsed printed; a tag that is put is taken off again; unlike frames have unlike bytes (the statement FrameBack, whole: no condition).
-/
import Derived.Test.YtbpgaeeihfknfaaFrOpen
namespace Go.Proofs.Ytbpgaeeihfknfaa.frameBack
set_option linter.unusedVariables false
set_option linter.unusedSimpArgs false
open Go.ChangeShapes Go.WideShapes Go.ChangeAt Go.RowKit Fm

/-- Both frames lie where they were laid; nothing that was there has turned. -/
def Inv (w : World) (d s : ByteArray) (t : Bool) (p v ty : Int) (pl : ByteArray) (d' s' : ByteArray) (t' : Bool) (p' v' ty' : Int) (pl' : ByteArray) (wx : World) : Prop :=
  Blk wx w.heap.size d s t p v ty pl ∧ Blk wx (w.heap.size + 1) d' s' t' p' v' ty' pl' ∧ Below w.heap.size w wx

theorem print_is (d s : ByteArray) (t : Bool) (p v ty : Int) (pl : ByteArray) (w : World) (A : ByteArray) (hr : rightB ⟨d, s, t, p, v, ty, pl⟩ = true) (hA : Hid (A = bytesOf ⟨d, s, t, p, v, ty, pl⟩)) :
    Calls Try.prog 8 #[fv d s t p v ty pl] w fun e w' => e = .returned (.tuple #[.string A, .int .i64 0]) ∧ Below w.heap.size w w' := by
  have h := print_yes d s t p v ty pl w hr
  rw [← hA.out] at h
  exact h

set_option maxHeartbeats 2000000 in
set_option maxRecDepth 100000 in
theorem walk (d s : ByteArray) (t : Bool) (p v ty : Int) (pl : ByteArray) (d' s' : ByteArray) (t' : Bool) (p' v' ty' : Int) (pl' : ByteArray) (vl : Int) (x : ByteArray) (w : World)
    (hd : d.size ≤ maxLen) (hs : s.size ≤ maxLen) (hp : pl.size ≤ maxLen) (hd' : d'.size ≤ maxLen) (hs' : s'.size ≤ maxLen) (hp' : pl'.size ≤ maxLen) (hx : x.size ≤ maxLen) :
    Calls Try.prog 4 #[fv d s t p v ty pl, fv d' s' t' p' v' ty' pl', .int .i64 vl, .string x] w fun e w' => e = .returned (.bool true) ∧ Below w.heap.size w w' := by
  go_enter Try.func4, Try.ntmps4
  go_wp2_with fail
  refine (awake_any _).mono ?_
  rintro e w1 ⟨rfl, hb1⟩
  have Q := blk_two w d s t p v ty pl d' s' t' p' v' ty' pl'
  have I1 : Inv w d s t p v ty pl d' s' t' p' v' ty' pl' w1 := ⟨Q.1.below hb1 Q.1.lt, Q.2.below hb1 Q.2.lt, bw_trans (bw_alloc (below_box w _) _) hb1⟩
  clear Q hb1
  have y := I1.1.cells
  obtain ⟨c0, c1, c2, c3, c4, c5, c6⟩ := y
  go_wp2_with fail
  refine (few_any _ _ _ _ _ _ _ _ hd hs hp).mono ?_
  rintro e w2 ⟨rfl, hb2⟩
  have I2 : Inv w d s t p v ty pl d' s' t' p' v' ty' pl' w2 := ⟨I1.1.below hb2 I1.1.lt, I1.2.1.below hb2 I1.2.1.lt, bw_trans I1.2.2 hb2⟩
  clear hb2 I1 c0 c1 c2 c3 c4 c5 c6
  cases hf : fewB ⟨d, s, t, p, v, ty, pl⟩ with
  | false =>
    clear hf
    go_wp2
    go_ret
    exact ⟨rfl, I2.2.2⟩
  | true =>
  have y := I2.2.1.cells
  obtain ⟨c0, c1, c2, c3, c4, c5, c6⟩ := y
  go_wp2_with fail
  refine (few_any _ _ _ _ _ _ _ _ hd' hs' hp').mono ?_
  rintro e w3 ⟨rfl, hb3⟩
  have I3 : Inv w d s t p v ty pl d' s' t' p' v' ty' pl' w3 := ⟨I2.1.below hb3 I2.1.lt, I2.2.1.below hb3 I2.2.1.lt, bw_trans I2.2.2 hb3⟩
  clear hb3 I2 c0 c1 c2 c3 c4 c5 c6
  cases hg : fewB ⟨d', s', t', p', v', ty', pl'⟩ with
  | false =>
    clear hf hg
    go_wp2
    go_ret
    exact ⟨rfl, I3.2.2⟩
  | true =>
  by_cases hbig : 1700 < x.size
  · unfold maxLen at hx
    go_wp2
    go_ret
    exact ⟨rfl, I3.2.2⟩
  obtain ⟨r, hr⟩ : ∃ r, parseR x = r := ⟨_, rfl⟩
  obtain ⟨⟨fd, fs, ft, fp, fvl, fty, fpl⟩, E⟩ := r
  have HP := Lib.hid hr; clear hr
  have hx' := hx
  unfold maxLen at hx'
  go_wp2_with fail
  refine (parse_is _ _ _ _ HP hx).mono ?_
  rintro e w4 ⟨rfl, hb4⟩
  have I4 : Inv w d s t p v ty pl d' s' t' p' v' ty' pl' w4 := ⟨I3.1.below hb4 I3.1.lt, I3.2.1.below hb4 I3.2.1.lt, bw_trans I3.2.2 hb4⟩
  clear hb4 I3
  go_upto_if 46 with (fail)
  go_cut [11, 12] (fun _ _ wx => Inv w d s t p v ty pl d' s' t' p' v' ty' pl' wx)
  case first =>
    have I5 : Inv w d s t p v ty pl d' s' t' p' v' ty' pl' (w4.alloc (.cells #[.string fd, .string fs, .bool ft, .int .i64 fp, .int .i64 fvl, .int .i64 fty, .string fpl] 23)) := ⟨I4.1.below (below_box w4 _) I4.1.lt, I4.2.1.below (below_box w4 _) I4.2.1.lt, bw_alloc I4.2.2 _⟩
    clear I4
    by_cases hE : E = 0
    · subst hE
      have M := parse_print x _ HP.out
      have hpr := print_yes fd fs ft fp fvl fty fpl
      have HM := Lib.hid M.2
      have Hpr := Lib.hid (fun w => hpr w M.1)
      clear M hpr
      have hne : (!(x.toList == x.toList)) = false := by simp
      go_wp2_with fail
      refine (Hpr.out _).mono ?_
      rintro e w6 ⟨rfl, hb6⟩
      rw [HM.out]
      have I6 : Inv w d s t p v ty pl d' s' t' p' v' ty' pl' w6 := ⟨I5.1.below hb6 I5.1.lt, I5.2.1.below hb6 I5.2.1.lt, bw_trans I5.2.2 hb6⟩
      clear hb6 I5
      go_wp2_with fail
      go_meet
      exact I6
    · have he0 : (E == 0) = false := beq_eq_false_iff_ne.2 hE
      clear hE
      go_wp2_with fail
      go_meet
      exact I5
  case rest =>
    clear I4
    have y := hcut.1.cells
    obtain ⟨c0, c1, c2, c3, c4, c5, c6⟩ := y
    cases hr : rightB ⟨d, s, t, p, v, ty, pl⟩ with
    | false =>
      go_wp2_with fail
      refine (print_no _ _ _ _ _ _ _ _ hd hs hp hr).mono ?_
      rintro e w6 ⟨rfl, hb6⟩
      have I6 : Inv w d s t p v ty pl d' s' t' p' v' ty' pl' w6 := ⟨hcut.1.below hb6 hcut.1.lt, hcut.2.1.below hb6 hcut.2.1.lt, bw_trans hcut.2.2 hb6⟩
      clear hb6 hcut c0 c1 c2 c3 c4 c5 c6
      have y := I6.2.1.cells
      obtain ⟨q0, q1, q2, q3, q4, q5, q6⟩ := y
      go_wp2_with fail
      refine (print_any _ _ _ _ _ _ _ _ hd' hs' hp').mono ?_
      rintro e w7 ⟨rfl, hb7⟩
      have I7 : Inv w d s t p v ty pl d' s' t' p' v' ty' pl' w7 := ⟨I6.1.below hb7 I6.1.lt, I6.2.1.below hb7 I6.2.1.lt, bw_trans I6.2.2 hb7⟩
      clear hb7 I6 q0 q1 q2 q3 q4 q5 q6
      have y := I7.1.cells
      obtain ⟨c0, c1, c2, c3, c4, c5, c6⟩ := y
      go_wp2_with fail
      refine (right_any _ _ _ _ _ _ _ _ hd hs hp).mono ?_
      rintro e w8 ⟨rfl, hb8⟩
      rw [hr]
      have B8 := bw_trans I7.2.2 hb8
      clear hb8 c0 c1 c2 c3 c4 c5 c6
      go_wp2
      go_ret
      exact ⟨rfl, B8⟩
    | true =>
      obtain ⟨A, hA⟩ : ∃ A, A = bytesOf ⟨d, s, t, p, v, ty, pl⟩ := ⟨_, rfl⟩
      have hPA : Hid (parseR A = (⟨d, s, t, p, v, ty, pl⟩, 0)) := by rw [hA]; exact print_parse _ hr
      have HA := Lib.hid hA; clear hA
      have hAs : A.size ≤ maxLen := by
        rw [HA.out]
        obtain ⟨_, _, _, _, _, _, hl⟩ := right_parts hr
        cases t with
        | false => rw [bytes_sizeU d s pl p v ty hr]; unfold maxLen; omega
        | true => rw [bytes_sizeT d s pl p v ty hr]; unfold maxLen; omega
      have Hr := Lib.hid hr; clear hr
      go_wp2_with fail
      refine (print_is _ _ _ _ _ _ _ _ A Hr.out HA).mono ?_
      rintro e w6 ⟨rfl, hb6⟩
      have I6 : Inv w d s t p v ty pl d' s' t' p' v' ty' pl' w6 := ⟨hcut.1.below hb6 hcut.1.lt, hcut.2.1.below hb6 hcut.2.1.lt, bw_trans hcut.2.2 hb6⟩
      clear hb6 hcut c0 c1 c2 c3 c4 c5 c6
      have y := I6.2.1.cells
      obtain ⟨q0, q1, q2, q3, q4, q5, q6⟩ := y
      cases hrg : rightB ⟨d', s', t', p', v', ty', pl'⟩ with
      | true =>
        obtain ⟨B, hB⟩ : ∃ B, B = bytesOf ⟨d', s', t', p', v', ty', pl'⟩ := ⟨_, rfl⟩
        have HB := Lib.hid hB; clear hB
        have Hrg := Lib.hid hrg; clear hrg
        go_wp2_with fail
        refine (print_is _ _ _ _ _ _ _ _ B Hrg.out HB).mono ?_
        rintro e w7 ⟨rfl, hb7⟩
        have I7 : Inv w d s t p v ty pl d' s' t' p' v' ty' pl' w7 := ⟨I6.1.below hb7 I6.1.lt, I6.2.1.below hb7 I6.2.1.lt, bw_trans I6.2.2 hb7⟩
        clear hb7 I6 q0 q1 q2 q3 q4 q5 q6
        go_wp2_with fail
        refine (parse_is _ _ _ _ hPA hAs).mono ?_
        rintro e w8 ⟨rfl, hb8⟩
        have I8 : Inv w d s t p v ty pl d' s' t' p' v' ty' pl' (w8.alloc (.cells #[.string d, .string s, .bool t, .int .i64 p, .int .i64 v, .int .i64 ty, .string pl] 23)) := ⟨(I7.1.below hb8 I7.1.lt).below (below_box w8 _) (I7.1.below hb8 I7.1.lt).lt, (I7.2.1.below hb8 I7.2.1.lt).below (below_box w8 _) (I7.2.1.below hb8 I7.2.1.lt).lt, bw_alloc (bw_trans I7.2.2 hb8) _⟩
        clear hb8 I7
        have y := I8.1.cells
        obtain ⟨c0, c1, c2, c3, c4, c5, c6⟩ := y
        have y := I8.2.1.cells
        obtain ⟨q0, q1, q2, q3, q4, q5, q6⟩ := y
        have hop := run_frEq d s t p v ty pl d' s' t' p' v' ty' pl'
        have hop2 := run_frNe d s t p v ty pl d s t p v ty pl
        have hself := frEq_self ⟨d, s, t, p, v, ty, pl⟩
        have hbe : (A.toList == B.toList) = frEq ⟨d, s, t, p, v, ty, pl⟩ ⟨d', s', t', p', v', ty', pl'⟩ := by rw [HA.out, HB.out]; exact bytes_eq _ _ Hr.out Hrg.out
        go_wp2_with fail
        refine (with_R _ _ _ _ _ _ _ vl _ hd hs hp).mono ?_
        rintro e w9 ⟨rfl, hb9⟩
        have I9 : Inv w d s t p v ty pl d' s' t' p' v' ty' pl' w9 := ⟨I8.1.below hb9 I8.1.lt, I8.2.1.below hb9 I8.2.1.lt, bw_trans I8.2.2 hb9⟩
        clear hb9 I8 c0 c1 c2 c3 c4 c5 c6 q0 q1 q2 q3 q4 q5 q6 hop hop2 hself hbe
        cases hwi : withinB vl 4094 with
        | false =>
          have hw : withR ⟨d, s, t, p, v, ty, pl⟩ vl = (zero, 1) := by simp [withR, Hr.out, hwi]
          rw [hw]
          clear hw hwi
          go_wp2
          go_ret
          exact ⟨rfl, bw_alloc I9.2.2 _⟩
        | true =>
          have hw : withR ⟨d, s, t, p, v, ty, pl⟩ vl = (⟨d, s, true, p, vl, ty, pl⟩, 0) := by simp [withR, Hr.out, hwi]
          rw [hw]
          clear hw
          have Hri := Lib.hid (right_with Hr.out hwi)
          clear hwi
          have I10 : Inv w d s t p v ty pl d' s' t' p' v' ty' pl' (w9.alloc (.cells #[.string d, .string s, .bool true, .int .i64 p, .int .i64 vl, .int .i64 ty, .string pl] 23)) := ⟨I9.1.below (below_box w9 _) I9.1.lt, I9.2.1.below (below_box w9 _) I9.2.1.lt, bw_alloc I9.2.2 _⟩
          have N10 := blk_new w9 d s true p vl ty pl
          have y := I10.1.cells
          obtain ⟨c0, c1, c2, c3, c4, c5, c6⟩ := y
          cases t with
          | true =>
            go_wp2
            go_ret
            exact ⟨rfl, I10.2.2⟩
          | false =>
            obtain ⟨T, hT⟩ : ∃ T, T = bytesOf ⟨d, s, true, p, vl, ty, pl⟩ := ⟨_, rfl⟩
            have HT := Lib.hid hT; clear hT
            have hlen : ((T.size : Int) == (A.size : Int) + 4) = true := by
              rw [HT.out, HA.out, bytes_sizeT _ _ _ _ _ _ Hri.out, bytes_sizeU _ _ _ _ _ _ Hr.out, beq_iff_eq]
              omega
            have hTs : T.size ≤ 2000 := by
              rw [HT.out, bytes_sizeT _ _ _ _ _ _ Hri.out]
              have := (right_parts Hr.out).2.2.2.2.2.2
              omega
            have hAs2 : A.size ≤ 2000 := by
              rw [HA.out, bytes_sizeU _ _ _ _ _ _ Hr.out]
              have := (right_parts Hr.out).2.2.2.2.2.2
              omega
            have Hwo : Hid (withoutR ⟨d, s, true, p, vl, ty, pl⟩ = (⟨d, s, false, 0, 0, ty, pl⟩, 0)) := by simp [Hid, withoutR, Hri.out]
            have hfe : frEq ⟨d, s, false, 0, 0, ty, pl⟩ ⟨d, s, false, p, v, ty, pl⟩ = true := by
              obtain ⟨hp0, hv0⟩ := right_untagged Hr.out
              rw [frEq_true, hp0, hv0]
            go_wp2_with fail
            refine (print_is _ _ _ _ _ _ _ _ T Hri.out HT).mono ?_
            rintro e w11 ⟨rfl, hb11⟩
            have I11 : Inv w d s false p v ty pl d' s' t' p' v' ty' pl' w11 := ⟨I10.1.below hb11 I10.1.lt, I10.2.1.below hb11 I10.2.1.lt, bw_trans I10.2.2 hb11⟩
            have N11 := N10.below hb11 N10.lt
            clear hb11 I10 N10 I9 c0 c1 c2 c3 c4 c5 c6
            have y := N11.cells
            obtain ⟨c0, c1, c2, c3, c4, c5, c6⟩ := y
            go_wp2_with fail
            refine (without_R _ _ _ _ _ _ _ _ hd hs hp).mono ?_
            rintro e w12 ⟨rfl, hb12⟩
            rw [Hwo.out]
            have I12 : Inv w d s false p v ty pl d' s' t' p' v' ty' pl' (w12.alloc (.cells #[.string d, .string s, .bool false, .int .i64 0, .int .i64 0, .int .i64 ty, .string pl] 23)) := ⟨(I11.1.below hb12 I11.1.lt).below (below_box w12 _) (I11.1.below hb12 I11.1.lt).lt, (I11.2.1.below hb12 I11.2.1.lt).below (below_box w12 _) (I11.2.1.below hb12 I11.2.1.lt).lt, bw_alloc (bw_trans I11.2.2 hb12) _⟩
            clear hb12 I11 N11 c0 c1 c2 c3 c4 c5 c6
            have y := I12.1.cells
            obtain ⟨c0, c1, c2, c3, c4, c5, c6⟩ := y
            have hop3 := run_frEq d s false 0 0 ty pl d s false p v ty pl
            go_wp2
            go_ret
            exact ⟨rfl, I12.2.2⟩
      | false =>
        have Hrg := Lib.hid hrg; clear hrg
        go_wp2_with fail
        refine (print_no _ _ _ _ _ _ _ _ hd' hs' hp' Hrg.out).mono ?_
        rintro e w7 ⟨rfl, hb7⟩
        have I7 : Inv w d s t p v ty pl d' s' t' p' v' ty' pl' w7 := ⟨I6.1.below hb7 I6.1.lt, I6.2.1.below hb7 I6.2.1.lt, bw_trans I6.2.2 hb7⟩
        clear hb7 I6 q0 q1 q2 q3 q4 q5 q6
        go_wp2_with fail
        refine (parse_is _ _ _ _ hPA hAs).mono ?_
        rintro e w8 ⟨rfl, hb8⟩
        have I8 : Inv w d s t p v ty pl d' s' t' p' v' ty' pl' (w8.alloc (.cells #[.string d, .string s, .bool t, .int .i64 p, .int .i64 v, .int .i64 ty, .string pl] 23)) := ⟨(I7.1.below hb8 I7.1.lt).below (below_box w8 _) (I7.1.below hb8 I7.1.lt).lt, (I7.2.1.below hb8 I7.2.1.lt).below (below_box w8 _) (I7.2.1.below hb8 I7.2.1.lt).lt, bw_alloc (bw_trans I7.2.2 hb8) _⟩
        clear hb8 I7
        have y := I8.1.cells
        obtain ⟨c0, c1, c2, c3, c4, c5, c6⟩ := y
        have y := I8.2.1.cells
        obtain ⟨q0, q1, q2, q3, q4, q5, q6⟩ := y
        have hop2 := run_frNe d s t p v ty pl d s t p v ty pl
        have hself := frEq_self ⟨d, s, t, p, v, ty, pl⟩
        go_wp2_with fail
        refine (with_R _ _ _ _ _ _ _ vl _ hd hs hp).mono ?_
        rintro e w9 ⟨rfl, hb9⟩
        have I9 : Inv w d s t p v ty pl d' s' t' p' v' ty' pl' w9 := ⟨I8.1.below hb9 I8.1.lt, I8.2.1.below hb9 I8.2.1.lt, bw_trans I8.2.2 hb9⟩
        clear hb9 I8 c0 c1 c2 c3 c4 c5 c6 q0 q1 q2 q3 q4 q5 q6 hop2 hself
        cases hwi : withinB vl 4094 with
        | false =>
          have hw : withR ⟨d, s, t, p, v, ty, pl⟩ vl = (zero, 1) := by simp [withR, Hr.out, hwi]
          rw [hw]
          clear hw hwi
          go_wp2
          go_ret
          exact ⟨rfl, bw_alloc I9.2.2 _⟩
        | true =>
          have hw : withR ⟨d, s, t, p, v, ty, pl⟩ vl = (⟨d, s, true, p, vl, ty, pl⟩, 0) := by simp [withR, Hr.out, hwi]
          rw [hw]
          clear hw
          have Hri := Lib.hid (right_with Hr.out hwi)
          clear hwi
          have I10 : Inv w d s t p v ty pl d' s' t' p' v' ty' pl' (w9.alloc (.cells #[.string d, .string s, .bool true, .int .i64 p, .int .i64 vl, .int .i64 ty, .string pl] 23)) := ⟨I9.1.below (below_box w9 _) I9.1.lt, I9.2.1.below (below_box w9 _) I9.2.1.lt, bw_alloc I9.2.2 _⟩
          have N10 := blk_new w9 d s true p vl ty pl
          have y := I10.1.cells
          obtain ⟨c0, c1, c2, c3, c4, c5, c6⟩ := y
          cases t with
          | true =>
            go_wp2
            go_ret
            exact ⟨rfl, I10.2.2⟩
          | false =>
            obtain ⟨T, hT⟩ : ∃ T, T = bytesOf ⟨d, s, true, p, vl, ty, pl⟩ := ⟨_, rfl⟩
            have HT := Lib.hid hT; clear hT
            have hlen : ((T.size : Int) == (A.size : Int) + 4) = true := by
              rw [HT.out, HA.out, bytes_sizeT _ _ _ _ _ _ Hri.out, bytes_sizeU _ _ _ _ _ _ Hr.out, beq_iff_eq]
              omega
            have hTs : T.size ≤ 2000 := by
              rw [HT.out, bytes_sizeT _ _ _ _ _ _ Hri.out]
              have := (right_parts Hr.out).2.2.2.2.2.2
              omega
            have hAs2 : A.size ≤ 2000 := by
              rw [HA.out, bytes_sizeU _ _ _ _ _ _ Hr.out]
              have := (right_parts Hr.out).2.2.2.2.2.2
              omega
            have Hwo : Hid (withoutR ⟨d, s, true, p, vl, ty, pl⟩ = (⟨d, s, false, 0, 0, ty, pl⟩, 0)) := by simp [Hid, withoutR, Hri.out]
            have hfe : frEq ⟨d, s, false, 0, 0, ty, pl⟩ ⟨d, s, false, p, v, ty, pl⟩ = true := by
              obtain ⟨hp0, hv0⟩ := right_untagged Hr.out
              rw [frEq_true, hp0, hv0]
            go_wp2_with fail
            refine (print_is _ _ _ _ _ _ _ _ T Hri.out HT).mono ?_
            rintro e w11 ⟨rfl, hb11⟩
            have I11 : Inv w d s false p v ty pl d' s' t' p' v' ty' pl' w11 := ⟨I10.1.below hb11 I10.1.lt, I10.2.1.below hb11 I10.2.1.lt, bw_trans I10.2.2 hb11⟩
            have N11 := N10.below hb11 N10.lt
            clear hb11 I10 N10 I9 c0 c1 c2 c3 c4 c5 c6
            have y := N11.cells
            obtain ⟨c0, c1, c2, c3, c4, c5, c6⟩ := y
            go_wp2_with fail
            refine (without_R _ _ _ _ _ _ _ _ hd hs hp).mono ?_
            rintro e w12 ⟨rfl, hb12⟩
            rw [Hwo.out]
            have I12 : Inv w d s false p v ty pl d' s' t' p' v' ty' pl' (w12.alloc (.cells #[.string d, .string s, .bool false, .int .i64 0, .int .i64 0, .int .i64 ty, .string pl] 23)) := ⟨(I11.1.below hb12 I11.1.lt).below (below_box w12 _) (I11.1.below hb12 I11.1.lt).lt, (I11.2.1.below hb12 I11.2.1.lt).below (below_box w12 _) (I11.2.1.below hb12 I11.2.1.lt).lt, bw_alloc (bw_trans I11.2.2 hb12) _⟩
            clear hb12 I11 N11 c0 c1 c2 c3 c4 c5 c6
            have y := I12.1.cells
            obtain ⟨c0, c1, c2, c3, c4, c5, c6⟩ := y
            have hop3 := run_frEq d s false 0 0 ty pl d s false p v ty pl
            go_wp2
            go_ret
            exact ⟨rfl, I12.2.2⟩

set_option maxRecDepth 100000 in
theorem lifted (os : Os) (started : os.Started) (H : Type) (enc : TypeId × Value → H) :
    ReturnsInHanded {} Try.checked os 4 .any (Rows.frameBackSpec.pre6 enc Try.prog Try.f4 Rows.frameBackRow.domain false) (Rows.frameBackSpec.post enc Try.prog Try.f4 false true false false) := by
  refine returnsInHanded_of_change (C := Try.checked) own started (by kernel_rfl) Try.func4
    (ChangeSpec.witness6 (enc := enc) (C := Try.checked) false ⟨#[], #[zero.val, zero.val, .int .i64 0, .string ⟨#[]⟩], []⟩ 8 (by kernel_rfl) (by kernel_rfl) (by kernel_rfl) (by kernel_rfl)) ?_
  intro W base args ds gs before hval0 hW hcnd _
  have hval : ∀ (j : Nat) t v, Try.f4.params[j]? = some t → args[j]? = some v → Value.okWide Try.prog W .any base t v := hval0
  have hW' := hW
  obtain ⟨p, q, hA0, hV, rfl, hfz, hnd⟩ := hW
  have hA : DataW.TrodAll enc Try.prog W 0 (fun _ => true) true Try.f4.params.toList args.toList ds p := hA0
  rw [Try.params4] at hA hval
  obtain ⟨v0, vs0, d0, ds0, p0, q0, hargs, rfl, rfl, h0, r0⟩ := trodAll_cons hA
  obtain ⟨v1, vs1, d1, ds1, p1, q1, rfl, rfl, rfl, h1, r1⟩ := trodAll_cons r0
  obtain ⟨v2, vs2, d2, ds2, p2, q2, rfl, rfl, rfl, h2, r2⟩ := trodAll_cons r1
  obtain ⟨v3, vs3, d3, ds3, p3, q3, rfl, rfl, rfl, h3, r3⟩ := trodAll_cons r2
  obtain ⟨rfl, rfl, rfl⟩ := trodAll_nil r3
  obtain rfl : args = #[v0, v1, v2, v3] := by cases args; simp_all
  obtain ⟨rfl, rfl⟩ := trodVars_none hV
  have lt0 : ∀ x ∈ p0, x.block < W.heap.size := by obtain ⟨m, hm⟩ := h0; exact DataW.trod_lt m _ _ _ hm
  have lt1 : ∀ x ∈ p1, x.block < W.heap.size := by obtain ⟨m, hm⟩ := h1; exact DataW.trod_lt m _ _ _ hm
  have lt2 : ∀ x ∈ p2, x.block < W.heap.size := by obtain ⟨m, hm⟩ := h2; exact DataW.trod_lt m _ _ _ hm
  have lt3 : ∀ x ∈ p3, x.block < W.heap.size := by obtain ⟨m, hm⟩ := h3; exact DataW.trod_lt m _ _ _ hm
  obtain ⟨fd, fs, ft, fp, fvl, fty, fpl, rfl, zd, zs, zp⟩ := open_frame (hval 0 23 v0 rfl rfl) h0
  obtain ⟨gd, gs, gt, gp, gvl, gty, gpl, rfl, yd, ys, yp⟩ := open_frame (hval 1 23 v1 rfl rfl) h1
  have k2 := h2
  have k3 := h3
  obtain ⟨vl, rfl, e2, e2', wvl⟩ := open_int Try.underlying3 (hval 2 3 v2 rfl rfl) h2
  obtain ⟨x, rfl, e3, e3', hx⟩ := Go.ChangeMaps.open_string Try.underlying9 (hval 3 9 v3 rfl rfl) h3
  clear hA0 hval0
  refine (walk fd fs ft fp fvl fty fpl gd gs gt gp gvl gty gpl vl x W zd zs zp yd ys yp hx).mono fun e W' ⟨he, bel⟩ => ?_
  subst he
  exact ⟨_, rfl, _, _, _, [], _, [], hW', trodAll_mk1 (shut_bool Try.underlying4 _),
    (trodAll_cons_mk (Below.trod laidOut (by kernel_rfl) (of_decide_eq_true (by kernel_rfl)) h0 bel lt0) (trodAll_cons_mk (Below.trod laidOut (by kernel_rfl) (of_decide_eq_true (by kernel_rfl)) h1 bel lt1) (trodAll_cons_mk (Below.trod laidOut (by kernel_rfl) (of_decide_eq_true (by kernel_rfl)) k2 bel lt2) (trodAll_cons_mk (Below.trod laidOut (by kernel_rfl) (of_decide_eq_true (by kernel_rfl)) k3 bel lt3) trodAll_mk0)))), rfl, bel.frame _, fun h => by cases h⟩

theorem over : Rows.frameBackRow.holds Try.pinned (OpenSpec.ofChange Rows.frameBackSpec) :=
  OpenClaim.holds_of_wide 4 Try.f4 rfl rfl rfl rfl rfl rfl rfl ⟨rfl, rfl, rfl, rfl, rfl⟩ rfl rfl rfl rfl rfl (by kernel_rfl) Try.func4 (by kernel_rfl)
    (of_decide_eq_true (by kernel_rfl)) (by unfold Func.isWrapper; first | (rw [if_pos (by decide +kernel)]; kernel_rfl) | (rw [if_neg (by decide +kernel)]; exact ⟨rfl, rfl⟩))
    (fun os started H enc _ => lifted os started H enc)

/-- The statement. -/
theorem proved : Rows.FrameBackSaid := over
#print axioms proved
end Go.Proofs.Ytbpgaeeihfknfaa.frameBack
