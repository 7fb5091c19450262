/-
  Walks of layer 1's document: Parse of bytes that begin as a tagged frame's, as the document's own answer has it; Parse as one function.
-/
import Derived.Test.YtbpgaeeihfknfaaRefT
namespace Go.Proofs.Ytbpgaeeihfknfaa
set_option linter.unusedVariables false
set_option linter.unusedSimpArgs false
open Go.RowKit Fm

set_option maxHeartbeats 1000000 in
theorem rparse_TS (s : ByteArray) (w : World) (h : 14 ≤ s.size) (hl : s.size < 18) (h12 : ((s[12].toNat : Int) == 129) = true) (h13 : ((s[13].toNat : Int) == 0) = true) :
    Calls Try.prog 11 #[.string s] w fun e w' => e = .returned (.tuple #[zero.val, .int .i64 3]) ∧ Below w.heap.size w w' := by
  have i6 : (6 : Int) ≤ s.size := by omega
  have i12 : (12 : Int) ≤ s.size := by omega
  have i13 : (13 : Int) < s.size := by omega
  have i12' : (12 : Int) < s.size := by omega
  go_enter Try.func11, Try.ntmps11
  go_wp2_with fail
  go_region
  go_wp2_with fail
  exact bodyPost_ret (v := .tuple #[zero.val, .int .i64 3]) (by simp [results, Try.results11, go_sem, zero]) rfl ⟨rfl, (bw_alloc (below_box w _) _).drew⟩

set_option maxHeartbeats 1000000 in
theorem rparse_TL (s : ByteArray) (w : World) (hl : 1518 < s.size) (hm : s.size ≤ 1700) (h12 : ((s[12].toNat : Int) == 129) = true) (h13 : ((s[13].toNat : Int) == 0) = true) :
    Calls Try.prog 11 #[.string s] w fun e w' => e = .returned (.tuple #[zero.val, .int .i64 4]) ∧ Below w.heap.size w w' := by
  have i6 : (6 : Int) ≤ s.size := by omega
  have i12 : (12 : Int) ≤ s.size := by omega
  have i13 : (13 : Int) < s.size := by omega
  have i12' : (12 : Int) < s.size := by omega
  have i14 : (14 : Int) < s.size := by omega
  have i15 : (15 : Int) < s.size := by omega
  have i16 : (16 : Int) < s.size := by omega
  have i17 : (17 : Int) < s.size := by omega
  have i18 : (18 : Int) ≤ s.size := by omega
  have hwr : wrap64 (wrap64 (wrap64 (s[14].toNat : Int) * 256) + wrap64 (s[15].toNat : Int)) = numN s 14 := by rw [num_sum]; exact num_at s 14 (by omega)
  have HW := Lib.hid hwr; clear hwr
  have bd := numN_bd s 14
  go_enter Try.func11, Try.ntmps11
  go_wp2_with fail
  go_region
  go_wp2_with fail
  go_region
  rw [HW.out]
  go_wp2_with fail
  go_region
  go_wp2_with fail
  exact bodyPost_ret (v := .tuple #[zero.val, .int .i64 4]) (by simp [results, Try.results11, go_sem, zero]) rfl ⟨rfl, (((bw_alloc (below_box w _) _).drew).drew).drew⟩

set_option maxHeartbeats 2000000 in
theorem rparse_TM (s : ByteArray) (w : World) (F : Fr) (E : Int) (h : 18 ≤ s.size) (hl : s.size ≤ 1518) (h12 : ((s[12].toNat : Int) == 129) = true) (h13 : ((s[13].toNat : Int) == 0) = true) (T : ByteArray)
    (hT : Hid (T = bytesOf ⟨s.extract 0 6, s.extract 6 12, true, numN s 14 / 8192, numN s 14 % 4096, numN s 16, s.extract 18 s.size⟩))
    (hyes : Hid (rightB ⟨s.extract 0 6, s.extract 6 12, true, numN s 14 / 8192, numN s 14 % 4096, numN s 16, s.extract 18 s.size⟩ = true → T = s → F = ⟨s.extract 0 6, s.extract 6 12, true, numN s 14 / 8192, numN s 14 % 4096, numN s 16, s.extract 18 s.size⟩ ∧ E = 0))
    (hbit : Hid (rightB ⟨s.extract 0 6, s.extract 6 12, true, numN s 14 / 8192, numN s 14 % 4096, numN s 16, s.extract 18 s.size⟩ = true → T ≠ s → F = zero ∧ E = 2))
    (hno : Hid (rightB ⟨s.extract 0 6, s.extract 6 12, true, numN s 14 / 8192, numN s 14 % 4096, numN s 16, s.extract 18 s.size⟩ = false → F = zero ∧ E = 2)) :
    Calls Try.prog 11 #[.string s] w fun e w' => e = .returned (.tuple #[F.val, .int .i64 E]) ∧ Below w.heap.size w w' := by
  have i6 : (6 : Int) ≤ s.size := by omega
  have i12 : (12 : Int) ≤ s.size := by omega
  have i13 : (13 : Int) < s.size := by omega
  have i12' : (12 : Int) < s.size := by omega
  have i14 : (14 : Int) < s.size := by omega
  have i15 : (15 : Int) < s.size := by omega
  have i16 : (16 : Int) < s.size := by omega
  have i17 : (17 : Int) < s.size := by omega
  have i18 : (18 : Int) ≤ s.size := by omega
  have hwr : wrap64 (wrap64 (wrap64 (s[14].toNat : Int) * 256) + wrap64 (s[15].toNat : Int)) = numN s 14 := by rw [num_sum]; exact num_at s 14 (by omega)
  have HW := Lib.hid hwr; clear hwr
  have hwr : wrap64 (wrap64 (wrap64 (s[16].toNat : Int) * 256) + wrap64 (s[17].toNat : Int)) = numN s 16 := by rw [num_sum]; exact num_at s 16 (by omega)
  have HV := Lib.hid hwr; clear hwr
  have bd := numN_bd s 14
  have e1 : (s.extract 0 6).size ≤ maxLen := by rw [ByteArray.size_extract]; unfold maxLen; omega
  have e2 : (s.extract 6 12).size ≤ maxLen := by rw [ByteArray.size_extract]; unfold maxLen; omega
  have e3 : (s.extract 18 s.size).size ≤ maxLen := by rw [ByteArray.size_extract]; unfold maxLen; omega
  go_enter Try.func11, Try.ntmps11
  go_wp2_with fail
  go_region
  go_wp2_with fail
  go_region
  rw [HW.out]
  go_wp2_with fail
  go_region
  rw [HV.out]
  go_wp2_with fail
  cases hr : rightB ⟨s.extract 0 6, s.extract 6 12, true, numN s 14 / 8192, numN s 14 % 4096, numN s 16, s.extract 18 s.size⟩ with
  | true =>
    refine (rprint_yes _ _ _ _ _ _ _ _ hr).mono ?_
    rintro e w3 ⟨rfl, hb3⟩
    rw [← hT.out]
    obtain ⟨R3, k3, B3⟩ := two_below (w2 := w) (((((Below.refl _ _).drew).drew).drew).trans hb3)
    clear hb3
    have y := k3.cells
    obtain ⟨c0, c1, c2, c3, c4, c5, c6⟩ := y
    have y := R3.cells
    obtain ⟨q0, q1, q2, q3, q4, q5, q6⟩ := y
    have f0 := R3.free 0
    have f1 := R3.free 1
    have f2 := R3.free 2
    have f3 := R3.free 3
    have f4 := R3.free 4
    have f5 := R3.free 5
    have f6 := R3.free 6
    by_cases hTs : T = s
    · obtain ⟨rfl, rfl⟩ := hyes.out hr hTs
      clear hyes hno hbit hr hT
      subst hTs
      go_wp2
      exact bodyPost_ret (v := .tuple #[fv (T.extract 0 6) (T.extract 6 12) true (numN T 14 / 8192) (numN T 14 % 4096) (numN T 16) (T.extract 18 T.size), .int .i64 0]) (by simp [results, Try.results11, go_sem, q0, q1, q2, q3, q4, q5, q6]) rfl ⟨rfl, below_set7 B3 (Nat.le_refl _) _ _ _ _ _ _ _⟩
    · obtain ⟨rfl, rfl⟩ := hbit.out hr hTs
      have hne : (T.toList == s.toList) = false := beq_eq_false_iff_ne.2 fun e => hTs (list_eq e)
      clear hyes hno hbit hr hT hTs
      go_wp2
      exact bodyPost_ret (v := .tuple #[zero.val, .int .i64 2]) (by simp [results, Try.results11, go_sem, zero, q0, q1, q2, q3, q4, q5, q6]) rfl ⟨rfl, below_set7 B3 (Nat.le_refl _) _ _ _ _ _ _ _⟩
  | false =>
    obtain ⟨rfl, rfl⟩ := hno.out hr
    refine (rprint_no _ _ _ _ _ _ _ _ e1 e2 e3 hr).mono ?_
    rintro e w3 ⟨rfl, hb3⟩
    obtain ⟨R3, k3, B3⟩ := two_below (w2 := w) (((((Below.refl _ _).drew).drew).drew).trans hb3)
    clear hb3 hyes hno hbit hr
    have y := R3.cells
    obtain ⟨q0, q1, q2, q3, q4, q5, q6⟩ := y
    have f0 := R3.free 0
    have f1 := R3.free 1
    have f2 := R3.free 2
    have f3 := R3.free 3
    have f4 := R3.free 4
    have f5 := R3.free 5
    have f6 := R3.free 6
    go_wp2
    exact bodyPost_ret (v := .tuple #[zero.val, .int .i64 2]) (by simp [results, Try.results11, go_sem, zero, q0, q1, q2, q3, q4, q5, q6]) rfl ⟨rfl, below_set7 B3 (Nat.le_refl _) _ _ _ _ _ _ _⟩
end Go.Proofs.Ytbpgaeeihfknfaa
