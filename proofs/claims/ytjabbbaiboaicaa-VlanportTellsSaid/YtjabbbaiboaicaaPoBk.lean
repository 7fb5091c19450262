/-
  Plain mathematics of layer 6: what a text says, printed, is the text; so the document's way of parsing (print it again) answers as bytes counted do.
-/
import Derived.Test.YtjabbbaiboaicaaPoMath
import Derived.Lib.AppendStr
import Derived.Lib.SmallJoins
namespace Go.Proofs.Ytjabbbaiboaicaa
set_option linter.unusedVariables false
set_option linter.unusedSimpArgs false
namespace Pm
open Fm

theorem b_ext {a b : ByteArray} (h : a.data.toList = b.data.toList) : a = b := by
  obtain ⟨x⟩ := a
  obtain ⟨y⟩ := b
  have : x = y := Array.toList_inj.1 h
  rw [this]
theorem sz_list (s : ByteArray) : s.size = s.data.toList.length := by rw [Array.length_toList]; rfl
theorem gD_list (s : ByteArray) (k : Nat) : s.data.getD k 0 = s.data.toList.getD k 0 := by
  obtain ⟨⟨l⟩⟩ := s
  simp [Array.getD_eq_getD_getElem?, List.getD_eq_getElem?_getD]
theorem x_list (s : ByteArray) (a b : Nat) : (s.extract a b).data.toList = (s.data.toList.drop a).take (b - a) := Lib.extract_data s a b
theorem ap_list (a b : ByteArray) : (a ++ b).data.toList = a.data.toList ++ b.data.toList := Joins.data_append a b
theorem pair_w16 (a b : UInt8) : w16 ((a.toNat : Int) * 256 + b.toNat) = ⟨#[a, b]⟩ := by
  have h1 := UInt8.toNat_lt a
  have h2 := UInt8.toNat_lt b
  unfold w16
  have e1 : (((a.toNat : Int) * 256 + b.toNat) / 256 % 256).toNat = a.toNat := by omega
  have e2 : (((a.toNat : Int) * 256 + b.toNat) % 256).toNat = b.toNat := by omega
  rw [e1, e2, UInt8.ofNat_toNat, UInt8.ofNat_toNat]
theorem drop_two {l : List UInt8} {a : Nat} (h : a + 2 ≤ l.length) : (l.drop a).take 2 = [l.getD a 0, l.getD (a + 1) 0] := by
  have h1 : a < l.length := by omega
  have h2 : a + 1 < l.length := by omega
  rw [List.drop_eq_getElem_cons h1, List.drop_eq_getElem_cons h2]
  simp only [List.take_succ_cons, List.take_zero, List.getD_eq_getElem?_getD, List.getElem?_eq_getElem h1, List.getElem?_eq_getElem h2, Option.getD_some]
theorem drop_one {l : List UInt8} {a : Nat} (h : a + 1 ≤ l.length) : (l.drop a).take 1 = [l.getD a 0] := by
  have h1 : a < l.length := by omega
  rw [List.drop_eq_getElem_cons h1]
  simp only [List.take_succ_cons, List.take_zero, List.getD_eq_getElem?_getD, List.getElem?_eq_getElem h1, Option.getD_some]
theorem w16_cut (s : ByteArray) (a : Nat) (h : a + 2 ≤ s.size) : w16 (numN s a) = s.extract a (a + 2) := by
  unfold numN
  rw [pair_w16]
  refine b_ext ?_
  rw [x_list, show a + 2 - a = 2 by omega, drop_two (by rw [← sz_list]; exact h), ← gD_list, ← gD_list]
theorem one_cut (s : ByteArray) (a : Nat) (h : a + 1 ≤ s.size) : (⟨#[s.data.getD a 0]⟩ : ByteArray) = s.extract a (a + 1) := by
  refine b_ext ?_
  rw [x_list, show a + 1 - a = 1 by omega, drop_one (by rw [← sz_list]; exact h), ← gD_list]
theorem cut_cut (s : ByteArray) (a b c : Nat) (h1 : a ≤ b) (h2 : b ≤ c) : s.extract a b ++ s.extract b c = s.extract a c := by
  refine b_ext ?_
  rw [ap_list, x_list, x_list, x_list]
  have e : (s.data.toList.drop b) = (s.data.toList.drop a).drop (b - a) := by rw [List.drop_drop]; congr 1; omega
  rw [e, ← List.take_add]
  congr 1; omega
theorem cut_none (s : ByteArray) (a : Nat) : s.extract a a = ⟨#[]⟩ := by
  refine b_ext ?_
  rw [x_list]; simp
theorem cut_all (s : ByteArray) : s.extract 0 s.size = s := by
  refine b_ext ?_
  rw [x_list, sz_list, List.drop_zero, Nat.sub_zero, List.take_of_length_le (Nat.le_refl _)]
theorem row_cut (s : ByteArray) (A : Nat) : ∀ k, A + 2 * k ≤ s.size → rowB (rowsN s A k) = s.extract A (A + 2 * k) := by
  intro k
  induction k with
  | zero => intro h; rw [Nat.mul_zero, Nat.add_zero, cut_none]; rfl
  | succ k ih =>
    intro h
    rw [rowsN_succ, row_app, ih (by omega)]
    simp only [rowB, app_nil]
    rw [w16_cut s _ (by omega), cut_cut s _ _ _ (by omega) (by omega)]
    congr 1
theorem byte_of {s : ByteArray} {i : Nat} {n : Nat} (h : bt s i = (n : Int)) (hn : n < 256) : UInt8.ofNat n = s.data.getD i 0 := by
  unfold bt at h
  have e : (s.data.getD i 0).toNat = n := by omega
  rw [← e, UInt8.ofNat_toNat]

/-- A text of the right length, printed again. -/
theorem text_trunk (s : ByteArray) (k : Nat) (h0 : bt s 0 = 84) (h3 : bt s 3 = (k : Int)) (hk : k ≤ 255) (hz : s.size = 4 + 2 * k) : textB ⟨true, numN s 1, rowsN s 4 k⟩ = s := by
  unfold textB headT
  simp only [if_true, rowsN_length]
  have e0 : (⟨#[84]⟩ : ByteArray) = s.extract 0 1 := by
    have := byte_of (n := 84) h0 (by omega)
    rw [← one_cut s 0 (by omega), ← this]; rfl
  rw [e0, w16_cut s 1 (by omega), byte_of h3 (by omega), one_cut s 3 (by omega), row_cut s 4 k (by omega)]
  rw [cut_cut s _ _ _ (by omega) (by omega), cut_cut s _ _ _ (by omega) (by omega), cut_cut s _ _ _ (by omega) (by omega), ← hz, cut_all]
theorem text_access (s : ByteArray) (l : List Int) (h0 : bt s 0 = 65) (hz : s.size = 3) : textB ⟨false, numN s 1, l⟩ = s := by
  unfold textB
  simp only [Bool.false_eq_true, if_false]
  have e0 : (⟨#[65]⟩ : ByteArray) = s.extract 0 1 := by
    have := byte_of (n := 65) h0 (by omega)
    rw [← one_cut s 0 (by omega), ← this]; rfl
  rw [e0, w16_cut s 1 (by omega), cut_cut s _ _ _ (by omega) (by omega)]
  have : s.extract 0 (1 + 2) = s.extract 0 s.size := by rw [hz]
  rw [this, cut_all]

/-- What the document reads off a text, whatever its length. -/
def refT (s : ByteArray) : Po := ⟨decide (bt s 0 = 84), numN s 1, rowsN s 4 ((s.size - 4) / 2)⟩
theorem taken_ref {s : ByteArray} (h : lenB s = true) (h3 : 3 ≤ s.size) : takenR s = refT s ∧ textB (refT s) = s := by
  unfold lenB at h
  rw [if_neg (by omega)] at h
  by_cases hA : bt s 0 = 65
  · rw [if_pos hA] at h
    have hz : s.size = 3 := of_decide_eq_true h
    have e : refT s = ⟨false, numN s 1, []⟩ := by unfold refT; rw [hz, hA]; rfl
    refine ⟨?_, by rw [e]; exact text_access s _ hA hz⟩
    rw [e]; unfold takenR; rw [if_neg (by omega)]
  · rw [if_neg hA] at h
    by_cases hT : bt s 0 = 84 ∧ 4 ≤ s.size
    · rw [if_pos hT] at h
      have hz := of_decide_eq_true h
      have hb := bt_bd s 3
      obtain ⟨k, hk⟩ : ∃ k : Nat, bt s 3 = k := ⟨(bt s 3).toNat, by omega⟩
      rw [hk] at hz hb
      have e : refT s = ⟨true, numN s 1, rowsN s 4 k⟩ := by
        unfold refT
        rw [show (s.size - 4) / 2 = k by omega, hT.1]; rfl
      refine ⟨?_, by rw [e]; exact text_trunk s k hT.1 hk (by omega) (by omega)⟩
      rw [e]; unfold takenR; rw [if_pos hT.1, hk, Int.toNat_natCast]
    · rw [if_neg hT] at h; cases h
theorem text_len {s : ByteArray} (hp : portB (refT s) = true) (h3 : 3 ≤ s.size) (ht : textB (refT s) = s) : lenB s = true := by
  have hl := (port_parts hp).2.2.1
  unfold refT at ht hl
  rw [rowsN_length] at hl
  by_cases hT : bt s 0 = 84
  · rw [hT] at ht
    simp only [textB, decide_true, if_true, rowsN_length] at ht
    have hz : s.size = 4 + 2 * ((s.size - 4) / 2) := by
      have e := congrArg ByteArray.size ht
      rw [ByteArray.size_append, row_size, rowsN_length] at e
      exact e.symm
    have hb : bt s 3 = (((s.size - 4) / 2 : Nat) : Int) := by
      have e : bt s 3 = bt (headT (numN s 1) ((s.size - 4) / 2) ++ rowB (rowsN s 4 ((s.size - 4) / 2))) 3 := by rw [ht]
      rw [e]
      unfold bt
      rw [gD_list, ap_list]
      have e2 : ((headT (numN s 1) ((s.size - 4) / 2)).data.toList ++ (rowB (rowsN s 4 ((s.size - 4) / 2))).data.toList).getD 3 0 = UInt8.ofNat ((s.size - 4) / 2) := rfl
      rw [e2, UInt8.toNat_ofNat']
      omega
    unfold lenB
    rw [if_neg (by omega), if_neg (by omega), if_pos ⟨hT, by omega⟩]
    exact decide_eq_true (by omega)
  · have ht' : (⟨#[65]⟩ : ByteArray) ++ w16 (numN s 1) = s := by
      have e : decide (bt s 0 = 84) = false := decide_eq_false hT
      rw [e] at ht
      simpa only [textB, Bool.false_eq_true, if_false] using ht
    have hz : s.size = 3 := by
      have e := congrArg ByteArray.size ht'
      rw [ByteArray.size_append] at e
      exact e.symm
    have hb : bt s 0 = 65 := by
      have e : bt s 0 = bt ((⟨#[65]⟩ : ByteArray) ++ w16 (numN s 1)) 0 := by rw [ht']
      rw [e]
      unfold bt
      rw [gD_list, ap_list]; rfl
    unfold lenB
    rw [if_neg (by omega), if_pos hb]
    exact decide_eq_true hz
theorem parse_ref (s : ByteArray) (h3 : 3 ≤ s.size) : parseP s = if (printR (refT s)).2 = 0 ∧ (printR (refT s)).1 = s then (refT s, 0) else (zeroP, 2) := by
  unfold parseP
  cases hL : lenB s with
  | true =>
    obtain ⟨e1, e2⟩ := taken_ref hL h3
    rw [e1]
    cases hp : portB (refT s) with
    | true => simp [printR, hp, e2]
    | false => simp [printR, hp]
  | false =>
    cases hp : portB (refT s) with
    | true =>
      have : ¬ textB (refT s) = s := fun e => by rw [text_len hp h3 e] at hL; cases hL
      simp [printR, hp, this]
    | false => simp [printR, hp]
theorem parse_short0 (s : ByteArray) (h3 : s.size < 3) : parseP s = (zeroP, 2) := by
  unfold parseP lenB
  rw [if_pos h3]; rfl
end Pm
end Go.Proofs.Ytjabbbaiboaicaa
