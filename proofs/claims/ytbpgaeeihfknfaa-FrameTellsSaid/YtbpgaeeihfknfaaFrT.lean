/-
  Walks of layer 1: Parse of tagged bytes; Parse as one function.
-/
import Derived.Test.YtbpgaeeihfknfaaFrP
namespace Go.Proofs.Ytbpgaeeihfknfaa
set_option linter.unusedVariables false
set_option linter.unusedSimpArgs false
open Go.RowKit Fm

theorem Blk.set34 {w : World} {b : Nat} {d s : ByteArray} {t : Bool} {p v ty : Int} {pl : ByteArray} (h : Blk w b d s t p v ty pl) (p' v' : Int) :
    Blk ((w.setCell ⟨b, 3, none⟩ (.int .i64 p')).setCell ⟨b, 4, none⟩ (.int .i64 v')) b d s t p' v' ty pl := by
  unfold Blk at h ⊢
  have h3 := blk_set (i := 3) (x := .int .i64 p') (cs' := #[.string d, .string s, .bool t, .int .i64 p', .int .i64 v, .int .i64 ty, .string pl]) h rfl
  have h4 := blk_set (i := 4) (x := .int .i64 v') (cs' := #[.string d, .string s, .bool t, .int .i64 p', .int .i64 v', .int .i64 ty, .string pl]) h3 rfl
  exact h4

set_option maxHeartbeats 2000000 in
theorem parse_T (s : ByteArray) (w : World) (F : Fr) (E : Int) (h : 18 ≤ s.size) (hm : s.size ≤ 1518) (ht : numN s 12 = 33024)
    (hbit : Hid (numI s 14 / 4096 % 2 = 1 → F = zero ∧ E = 2))
    (hyes : Hid (numI s 14 / 4096 % 2 ≠ 1 → rightB ⟨s.extract 0 6, s.extract 6 12, true, numI s 14 / 8192, numI s 14 % 4096, numI s 16, s.extract 18 s.size⟩ = true → F = ⟨s.extract 0 6, s.extract 6 12, true, numI s 14 / 8192, numI s 14 % 4096, numI s 16, s.extract 18 s.size⟩ ∧ E = 0))
    (hno : Hid (numI s 14 / 4096 % 2 ≠ 1 → rightB ⟨s.extract 0 6, s.extract 6 12, true, numI s 14 / 8192, numI s 14 % 4096, numI s 16, s.extract 18 s.size⟩ = false → F = zero ∧ E = 2)) :
    Calls Try.prog 10 #[.string s] w fun e w' => e = .returned (.tuple #[F.val, .int .i64 E]) ∧ Below w.heap.size w w' := by
  have Ht := Lib.hid ht; clear ht
  have i6 : (6 : Int) ≤ s.size := by omega
  have i12 : (12 : Int) ≤ s.size := by omega
  have i18 : (18 : Int) ≤ s.size := by omega
  have hb : (12 : Int) + 1 < s.size := by omega
  have hb14 : (14 : Int) + 1 < s.size := by omega
  have hb16 : (16 : Int) + 1 < s.size := by omega
  have hx : s.size ≤ maxLen := by unfold maxLen; omega
  have bd := numI_bd s 14
  go_enter Try.func10, Try.ntmps10
  go_wp2_with fail
  refine (numberAt_b _ _ _ (by omega) hb hx).mono ?_
  rintro e w1 ⟨rfl, hb1⟩
  rw [show numI s 12 = 33024 from Ht.out]
  have B1 := bw_trans (below_box _ _) hb1
  have z1 : w.heap.size + 1 ≤ w1.heap.size := by have := hb1.size; simpa using this
  have R1 := (blk_new w _ _ _ _ _ _ _).below hb1 (by simp)
  clear hb1
  go_upto_region 11 with (fail)
  go_cut [6] (fun s6 wx => Made w1 (s.extract 0 6) (s.extract 6 12) true 0 0 (numI s 16) (s.extract 18 s.size) s6 wx)
  case first =>
    have hw1 : IntKind.i64.wrap (16 + 2) = 18 := by decide
    have hw2 : IntKind.i64.wrap 18 = 18 := by decide
    go_region_held3 (fun _ => True) (trivial) (first | (go_at_call 22; refine (numberAt_b _ _ _ (by omega) hb16 hx).mono ?_; rintro e w2 ⟨rfl, hb2⟩; obtain ⟨hc2, hf2⟩ := bcell hb2))
    all_goals (go_wp2_with fail)
    all_goals go_meet
    · exact made_A hb2
    · exact made_B hb2
  case rest =>
    obtain ⟨g, rfl, hg, k1, B2⟩ := hcut
    have R2 := R1.below B2 (by omega)
    go_wp2_with fail
    refine (numberAt_b _ _ _ (by omega) hb14 hx).mono ?_
    rintro e w3 ⟨rfl, hb3⟩
    have k3 := k1.below hb3 k1.lt
    have R3 := R2.below hb3 R2.lt
    have B3 := bw_trans (bw_trans B1 B2) hb3
    have zg : w.heap.size < g := by omega
    clear hb3 k1 R2 B2
    by_cases hbb : numI s 14 / 4096 % 2 = 1
    · obtain ⟨rfl, rfl⟩ := hbit.out hbb
      clear hbit hyes hno
      have ha : (bits BinOp.and IntKind.i64 (numI s 14) 4096 != 0) = true := by rw [and_4096 _ bd.1 bd.2, hbb]; decide
      clear hbb
      have y := R3.cells
      obtain ⟨q0, q1, q2, q3, q4, q5, q6⟩ := y
      have f0 := R3.free 0
      have f1 := R3.free 1
      have f2 := R3.free 2
      have f3 := R3.free 3
      have f4 := R3.free 4
      have f5 := R3.free 5
      have f6 := R3.free 6
      go_wp2
      exact bodyPost_ret (v := .tuple #[zero.val, .int .i64 2]) (by simp [results, Try.results10, go_sem, zero, q0, q1, q2, q3, q4, q5, q6]) rfl ⟨rfl, below_set7 B3 (Nat.le_refl _) _ _ _ _ _ _ _⟩
    · have hyes' := Lib.hid (hyes.out hbb)
      have hno' := Lib.hid (hno.out hbb)
      clear hbit hyes hno
      have ha : (bits BinOp.and IntKind.i64 (numI s 14) 4096 != 0) = false := by rw [and_4096 _ bd.1 bd.2, show numI s 14 / 4096 % 2 = 0 by omega]; decide
      have hv := and_4095 _ bd.1 bd.2
      clear hbb
      have y := k3.cells
      obtain ⟨c0, c1, c2, c3, c4, c5, c6⟩ := y
      have f3 := k3.free 3
      have f4 := k3.free 4
      have e1 : (s.extract 0 6).size ≤ maxLen := by rw [ByteArray.size_extract]; unfold maxLen; omega
      have e2 : (s.extract 6 12).size ≤ maxLen := by rw [ByteArray.size_extract]; unfold maxLen; omega
      have e3 : (s.extract 18 s.size).size ≤ maxLen := by rw [ByteArray.size_extract]; unfold maxLen; omega
      go_wp2_with fail
      refine (right_any _ _ _ _ _ _ _ _ e1 e2 e3).mono ?_
      rintro e w4 ⟨rfl, hb4⟩
      have k4 := (k3.set34 (numI s 14 / 8192) (numI s 14 % 4096)).below hb4 (k3.set34 (numI s 14 / 8192) (numI s 14 % 4096)).lt
      have B4 : Below (w.heap.size + 1) w3 ((w3.setCell ⟨g, 3, none⟩ (.int .i64 (numI s 14 / 8192))).setCell ⟨g, 4, none⟩ (.int .i64 (numI s 14 % 4096))) := ((Below.refl _ _).setCell (by exact zg) _).setCell (by exact zg) _
      have B5 := B4.trans (hb4.mono (Nat.le_trans (by have := R3.lt; omega) B4.size))
      have R4 := R3.below B5 (Nat.lt_succ_self _)
      have B6 := B3.trans (B5.mono (Nat.le_succ _))
      clear c0 c1 c2 c3 c4 c5 c6 hb4 k3 R3 B3 B4 B5 e1 e2 e3 f3 f4 hv ha
      have y := k4.cells
      obtain ⟨c0, c1, c2, c3, c4, c5, c6⟩ := y
      have y := R4.cells
      obtain ⟨q0, q1, q2, q3, q4, q5, q6⟩ := y
      have f0 := R4.free 0
      have f1 := R4.free 1
      have f2 := R4.free 2
      have f3 := R4.free 3
      have f4 := R4.free 4
      have f5 := R4.free 5
      have f6 := R4.free 6
      cases hr : rightB ⟨s.extract 0 6, s.extract 6 12, true, numI s 14 / 8192, numI s 14 % 4096, numI s 16, s.extract 18 s.size⟩ with
      | true =>
        obtain ⟨rfl, rfl⟩ := hyes'.out hr
        clear hyes' hno' hr
        go_wp2
        exact bodyPost_ret (v := .tuple #[fv (s.extract 0 6) (s.extract 6 12) true (numI s 14 / 8192) (numI s 14 % 4096) (numI s 16) (s.extract 18 s.size), .int .i64 0]) (by simp [results, Try.results10, go_sem, q0, q1, q2, q3, q4, q5, q6]) rfl ⟨rfl, below_set7 B6 (Nat.le_refl _) _ _ _ _ _ _ _⟩
      | false =>
        obtain ⟨rfl, rfl⟩ := hno'.out hr
        clear hyes' hno' hr
        go_wp2
        exact bodyPost_ret (v := .tuple #[zero.val, .int .i64 2]) (by simp [results, Try.results10, go_sem, zero, q0, q1, q2, q3, q4, q5, q6]) rfl ⟨rfl, below_set7 B6 (Nat.le_refl _) _ _ _ _ _ _ _⟩

theorem parse_any (s : ByteArray) (w : World) (hm : s.size ≤ maxLen) :
    Calls Try.prog 10 #[.string s] w fun e w' => e = .returned (.tuple #[(parseR s).1.val, .int .i64 (parseR s).2]) ∧ Below w.heap.size w w' := by
  unfold parseR
  by_cases h1 : s.size < 14
  · rw [if_pos h1]; exact parse_short s w h1
  rw [if_neg h1]
  by_cases ht : numN s 12 = 33024
  · rw [if_pos ht]
    by_cases h2 : s.size < 18
    · rw [if_pos h2]; exact parse_short2 s w (by omega) h2 ht
    rw [if_neg h2]
    by_cases h3 : 1518 < s.size
    · rw [if_pos h3]; exact parse_longT s w h3 hm ht
    rw [if_neg h3]
    refine parse_T s w _ _ (by omega) (by omega) ht ?_ ?_ ?_
    · intro hb'
      have hb : numN s 14 / 4096 % 2 = 1 := hb'
      rw [if_pos hb]
      exact ⟨rfl, rfl⟩
    · intro hb' hr
      have hb : ¬ numN s 14 / 4096 % 2 = 1 := hb'
      rw [if_neg hb, if_pos (show rightB (cutF s true) = true from hr)]
      exact ⟨rfl, rfl⟩
    · intro hb' hr
      have hb : ¬ numN s 14 / 4096 % 2 = 1 := hb'
      have hr' : rightB (cutF s true) = false := hr
      rw [if_neg hb, if_neg (by rw [hr']; exact Bool.false_ne_true)]
      exact ⟨rfl, rfl⟩
  · rw [if_neg ht]
    by_cases h3 : 1514 < s.size
    · rw [if_pos h3]; exact parse_longU s w h3 hm ht
    rw [if_neg h3]
    refine parse_U s w _ _ (by omega) (by omega) ht ?_ ?_
    · intro hr
      rw [if_pos (show rightB (cutF s false) = true from hr)]
      exact ⟨rfl, rfl⟩
    · intro hr
      have hr' : rightB (cutF s false) = false := hr
      rw [if_neg (by rw [hr']; exact Bool.false_ne_true)]
      exact ⟨rfl, rfl⟩
end Go.Proofs.Ytbpgaeeihfknfaa
