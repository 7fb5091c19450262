/-
  Walks of layer 1's document: Parse, as the document's own answer has it.
-/
import Derived.Test.YtbpgaeeihfknfaaRefP
import Derived.RegionTactic
import Derived.BigRegion
namespace Go.Proofs.Ytbpgaeeihfknfaa
set_option linter.unusedVariables false
set_option linter.unusedSimpArgs false
open Go.RowKit Fm

set_option maxHeartbeats 400000 in
theorem rparse_short (s : ByteArray) (w : World) (h : s.size < 14) :
    Calls Try.prog 11 #[.string s] w fun e w' => e = .returned (.tuple #[zero.val, .int .i64 3]) ∧ Below w.heap.size w w' := by
  go_enter Try.func11, Try.ntmps11
  go_wp2
  exact bodyPost_ret (v := .tuple #[zero.val, .int .i64 3]) (by simp [results, Try.results11, go_sem, zero]) rfl ⟨rfl, below_box _ _⟩

theorem parseR_U {s : ByteArray} (h : 14 ≤ s.size) (ht : numN s 12 ≠ 33024) : parseR s = if 1514 < s.size then (zero, 4) else if rightB (cutF s false) = true then (cutF s false, 0) else (zero, 2) := by
  unfold parseR
  rw [if_neg (by omega), if_neg ht]

theorem num_sum (b c : UInt8) : wrap64 (wrap64 (wrap64 (b.toNat : Int) * 256) + wrap64 (c.toNat : Int)) = (b.toNat : Int) * 256 + c.toNat := by
  have h1 := UInt8.toNat_lt b
  have h2 := UInt8.toNat_lt c
  rw [wrap64_byte, wrap64_byte]
  unfold wrap64
  omega
theorem num_at (s : ByteArray) (k : Nat) (h : k + 1 < s.size) : ((s[k]'(by omega)).toNat : Int) * 256 + (s[k + 1].toNat : Int) = numN s k := by
  unfold numN
  rw [getD_byte s k (by omega), getD_byte s (k + 1) h]

set_option maxHeartbeats 1000000 in
theorem rparse_UL (s : ByteArray) (w : World) (hl : 1514 < s.size) (hm : s.size ≤ 1700) (hcase : ((s[12].toNat : Int) == 129) = false ∨ (((s[12].toNat : Int) == 129) = true ∧ ((s[13].toNat : Int) == 0) = false)) :
    Calls Try.prog 11 #[.string s] w fun e w' => e = .returned (.tuple #[zero.val, .int .i64 4]) ∧ Below w.heap.size w w' := by
  have i6 : (6 : Int) ≤ s.size := by omega
  have i12 : (12 : Int) ≤ s.size := by omega
  have i13 : (13 : Int) < s.size := by omega
  have i12' : (12 : Int) < s.size := by omega
  have i14 : (14 : Int) ≤ s.size := by omega
  go_enter Try.func11, Try.ntmps11
  go_wp2_with fail
  go_region
  rcases hcase with h12 | ⟨h12, h13⟩
  all_goals go_wp2_with fail
  all_goals go_region
  all_goals go_wp2_with fail
  all_goals exact bodyPost_ret (v := .tuple #[zero.val, .int .i64 4]) (by simp [results, Try.results11, go_sem, zero]) rfl ⟨rfl, ((bw_alloc (below_box w _) _).drew).drew⟩

/-- What stands when the document's Parse asks Print: two blocks, the answer's and the frame's. -/
theorem two_below {w w2 : World} {d s : ByteArray} {t : Bool} {p v ty : Int} {pl : ByteArray} {d' s' : ByteArray} {t' : Bool} {p' v' ty' : Int} {pl' : ByteArray} {W : World}
    (hW : Below ((w.alloc (.cells #[.string d, .string s, .bool t, .int .i64 p, .int .i64 v, .int .i64 ty, .string pl] 23)).alloc (.cells #[.string d', .string s', .bool t', .int .i64 p', .int .i64 v', .int .i64 ty', .string pl'] 23)).heap.size ((w.alloc (.cells #[.string d, .string s, .bool t, .int .i64 p, .int .i64 v, .int .i64 ty, .string pl] 23)).alloc (.cells #[.string d', .string s', .bool t', .int .i64 p', .int .i64 v', .int .i64 ty', .string pl'] 23)) W) :
    Blk W w.heap.size d s t p v ty pl ∧ Blk W (w.heap.size + 1) d' s' t' p' v' ty' pl' ∧ Below w.heap.size w W := by
  have Q := blk_two w d s t p v ty pl d' s' t' p' v' ty' pl'
  exact ⟨Q.1.below hW Q.1.lt, Q.2.below hW Q.2.lt, bw_trans (bw_alloc (below_box w _) _) hW⟩

set_option maxHeartbeats 2000000 in
theorem rparse_UM (s : ByteArray) (w : World) (F : Fr) (E : Int) (h : 14 ≤ s.size) (hl : s.size ≤ 1514) (hcase : ((s[12].toNat : Int) == 129) = false ∨ (((s[12].toNat : Int) == 129) = true ∧ ((s[13].toNat : Int) == 0) = false))
    (hyes : Hid (rightB ⟨s.extract 0 6, s.extract 6 12, false, 0, 0, numN s 12, s.extract 14 s.size⟩ = true → F = ⟨s.extract 0 6, s.extract 6 12, false, 0, 0, numN s 12, s.extract 14 s.size⟩ ∧ E = 0))
    (hno : Hid (rightB ⟨s.extract 0 6, s.extract 6 12, false, 0, 0, numN s 12, s.extract 14 s.size⟩ = false → F = zero ∧ E = 2)) :
    Calls Try.prog 11 #[.string s] w fun e w' => e = .returned (.tuple #[F.val, .int .i64 E]) ∧ Below w.heap.size w w' := by
  have i6 : (6 : Int) ≤ s.size := by omega
  have i12 : (12 : Int) ≤ s.size := by omega
  have i13 : (13 : Int) < s.size := by omega
  have i12' : (12 : Int) < s.size := by omega
  have i14 : (14 : Int) ≤ s.size := by omega
  have hwr : wrap64 (wrap64 (wrap64 (s[12].toNat : Int) * 256) + wrap64 (s[13].toNat : Int)) = numN s 12 := by rw [num_sum]; exact num_at s 12 (by omega)
  have HW := Lib.hid hwr; clear hwr
  have e1 : (s.extract 0 6).size ≤ maxLen := by rw [ByteArray.size_extract]; unfold maxLen; omega
  have e2 : (s.extract 6 12).size ≤ maxLen := by rw [ByteArray.size_extract]; unfold maxLen; omega
  have e3 : (s.extract 14 s.size).size ≤ maxLen := by rw [ByteArray.size_extract]; unfold maxLen; omega
  have HB : Hid (bytesOf ⟨s.extract 0 6, s.extract 6 12, false, 0, 0, numN s 12, s.extract 14 s.size⟩ = s) := bytes_cutU s h
  go_enter Try.func11, Try.ntmps11
  go_wp2_with fail
  go_region
  rcases hcase with h12 | ⟨h12, h13⟩
  all_goals go_wp2_with fail
  all_goals go_region
  all_goals rw [HW.out]
  all_goals go_wp2_with fail
  all_goals cases hr : rightB ⟨s.extract 0 6, s.extract 6 12, false, 0, 0, numN s 12, s.extract 14 s.size⟩ with
    | true =>
      obtain ⟨rfl, rfl⟩ := hyes.out hr
      refine (rprint_yes _ _ _ _ _ _ _ _ hr).mono ?_
      rintro e w3 ⟨rfl, hb3⟩
      rw [HB.out]
      obtain ⟨R3, k3, B3⟩ := two_below (w2 := w) ((((Below.refl _ _).drew).drew).trans hb3)
      clear hb3 hyes hno hr
      have y := k3.cells
      obtain ⟨c0, c1, c2, c3, c4, c5, c6⟩ := y
      have y := R3.cells
      obtain ⟨q0, q1, q2, q3, q4, q5, q6⟩ := y
      have f0 := R3.free 0
      have f1 := R3.free 1
      have f2 := R3.free 2
      have f3 := R3.free 3
      have f4 := R3.free 4
      have f5 := R3.free 5
      have f6 := R3.free 6
      go_wp2
      exact bodyPost_ret (v := .tuple #[fv (s.extract 0 6) (s.extract 6 12) false 0 0 (numN s 12) (s.extract 14 s.size), .int .i64 0]) (by simp [results, Try.results11, go_sem, q0, q1, q2, q3, q4, q5, q6]) rfl ⟨rfl, below_set7 B3 (Nat.le_refl _) _ _ _ _ _ _ _⟩
    | false =>
      obtain ⟨rfl, rfl⟩ := hno.out hr
      refine (rprint_no _ _ _ _ _ _ _ _ e1 e2 e3 hr).mono ?_
      rintro e w3 ⟨rfl, hb3⟩
      obtain ⟨R3, k3, B3⟩ := two_below (w2 := w) ((((Below.refl _ _).drew).drew).trans hb3)
      clear hb3 hyes hno hr
      have y := R3.cells
      obtain ⟨q0, q1, q2, q3, q4, q5, q6⟩ := y
      have f0 := R3.free 0
      have f1 := R3.free 1
      have f2 := R3.free 2
      have f3 := R3.free 3
      have f4 := R3.free 4
      have f5 := R3.free 5
      have f6 := R3.free 6
      go_wp2
      exact bodyPost_ret (v := .tuple #[zero.val, .int .i64 2]) (by simp [results, Try.results11, go_sem, zero, q0, q1, q2, q3, q4, q5, q6]) rfl ⟨rfl, below_set7 B3 (Nat.le_refl _) _ _ _ _ _ _ _⟩
end Go.Proofs.Ytbpgaeeihfknfaa
