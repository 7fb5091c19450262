/-
  Plain mathematics of layer 2's document: what begins with what, byte by byte; a kind, as the document's own answer has it.
-/
import Derived.Test.YtledabmmomgkoaaDoorL2Back
namespace Go.Proofs.YtledabmmomgkoaaDoor
set_option linter.unusedVariables false
set_option linter.unusedSimpArgs false
namespace Fm
open Go.RowKit

/-- The first j bytes are alike. -/
def Agree (s b : ByteArray) (j : Nat) : Prop := ∀ t, t < j → s.data.getD t 0 = b.data.getD t 0
theorem agree_zero (s b : ByteArray) : Agree s b 0 := fun t h => absurd h (Nat.not_lt_zero t)
theorem agree_succ {s b : ByteArray} {j : Nat} (h : Agree s b j) (hj : s.data.getD j 0 = b.data.getD j 0) : Agree s b (j + 1) := by
  intro t ht
  rcases Nat.lt_or_ge t j with h1 | h1
  · exact h t h1
  · obtain rfl : t = j := by omega
    exact hj
theorem getD_list (s : ByteArray) (k : Nat) : s.data.getD k 0 = s.data.toList.getD k 0 := by
  obtain ⟨⟨l⟩⟩ := s
  simp
theorem beg_iff (s b : ByteArray) : begB s b = true ↔ b.size ≤ s.size ∧ Agree s b b.size := by
  unfold begB
  rw [Bool.and_eq_true, decide_eq_true_iff, beq_iff_eq, ByteArray.toList_eq, ByteArray.toList_eq]
  constructor
  · rintro ⟨h1, h2⟩
    refine ⟨h1, ?_⟩
    intro t ht
    rw [getD_list, getD_list, ← h2, ext_list]
    simp only [List.drop_zero]
    rw [List.getD_eq_getElem?_getD, List.getD_eq_getElem?_getD, List.getElem?_take_of_lt ht]
  · rintro ⟨h1, h2⟩
    refine ⟨h1, ?_⟩
    rw [ext_list]
    simp only [List.drop_zero]
    apply List.ext_getElem?
    intro t
    rcases Nat.lt_or_ge t b.size with ht | ht
    · have := h2 t ht
      rw [getD_list, getD_list, List.getD_eq_getElem?_getD, List.getD_eq_getElem?_getD] at this
      rw [List.getElem?_take_of_lt ht]
      have l1 : t < s.data.toList.length := by rw [← size_list]; omega
      have l2 : t < b.data.toList.length := by rw [← size_list]; omega
      rw [List.getElem?_eq_getElem l1, List.getElem?_eq_getElem l2] at this ⊢
      simpa using this
    · rw [List.getElem?_eq_none (by rw [List.length_take]; omega), List.getElem?_eq_none (by rw [← size_list]; omega)]
theorem beg_yes {s b : ByteArray} (h1 : b.size ≤ s.size) (h2 : Agree s b b.size) : true = begB s b := ((beg_iff s b).2 ⟨h1, h2⟩).symm
theorem beg_short {s b : ByteArray} (h : s.size < b.size) : false = begB s b := by
  cases e : begB s b
  · rfl
  · have := ((beg_iff s b).1 e).1; omega
theorem beg_no {s b : ByteArray} {j : Nat} (hj : j < b.size) (h : s.data.getD j 0 ≠ b.data.getD j 0) : false = begB s b := by
  cases e : begB s b
  · rfl
  · exact absurd (((beg_iff s b).1 e).2 j hj) h

abbrev p5 : ByteArray := ⟨#[1, 128, 194, 0, 0]⟩
theorem six_bytes {d : ByteArray} (h : d.size = 6) : ∃ a b c e f g : UInt8, d = ⟨#[a, b, c, e, f, g]⟩ := by
  obtain ⟨⟨l⟩⟩ := d
  have hl : l.length = 6 := h
  match l, hl with
  | [a, b, c, e, f, g], _ => exact ⟨a, b, c, e, f, g, rfl⟩
theorem beg5_iff (a b c e f g : UInt8) : begB ⟨#[a, b, c, e, f, g]⟩ p5 = true ↔ a = 1 ∧ b = 128 ∧ c = 194 ∧ e = 0 ∧ f = 0 := by
  unfold begB
  simp [ByteArray.toList_eq, ext_list, ByteArray.size]
theorem beg6_iff (a b c e f g : UInt8) : begB ⟨#[a, b, c, e, f, g]⟩ g2 = true ↔ a = 1 ∧ b = 0 ∧ c = 12 ∧ e = 204 ∧ f = 204 ∧ g = 205 := by
  unfold begB
  simp [ByteArray.toList_eq, ext_list, ByteArray.size]
theorem res_iff (a b c e f g : UInt8) : (leB [1, 128, 194, 0, 0, 0] [a, b, c, e, f, g] && leB [a, b, c, e, f, g] [1, 128, 194, 0, 0, 15]) = true ↔ (a = 1 ∧ b = 128 ∧ c = 194 ∧ e = 0 ∧ f = 0) ∧ g.toNat < 16 := by
  simp only [leB, Op.bytesLess, Bool.and_eq_true, Bool.or_eq_true, beq_iff_eq, decide_eq_true_iff, List.cons.injEq, and_true, Bool.and_false, Bool.false_eq_true, or_false, ← UInt8.toNat_inj, UInt8.lt_iff_toNat_lt]
  have h1 : (1 : UInt8).toNat = 1 := rfl
  have h2 : (128 : UInt8).toNat = 128 := rfl
  have h3 : (194 : UInt8).toNat = 194 := rfl
  have h4 : (0 : UInt8).toNat = 0 := rfl
  have h5 : (15 : UInt8).toNat = 15 := rfl
  rw [h1, h2, h3, h4, h5]
  omega
theorem eq1_iff (a b c e f g : UInt8) : ((⟨#[a, b, c, e, f, g]⟩ : ByteArray).toList == g1.toList) = true ↔ (a = 1 ∧ b = 128 ∧ c = 194 ∧ e = 0 ∧ f = 0) ∧ g.toNat = 0 := by
  simp [ByteArray.toList_eq, ← UInt8.toNat_inj]
  omega
theorem eq2_iff (a b c e f g : UInt8) : ((⟨#[a, b, c, e, f, g]⟩ : ByteArray).toList == g2.toList) = true ↔ a = 1 ∧ b = 0 ∧ c = 12 ∧ e = 204 ∧ f = 204 ∧ g = 205 := by
  simp [ByteArray.toList_eq]

/-- A right frame's kind, as the document's answer asks for it. -/
def refK (I O : Bool) (x : Nat) (ty : Int) (P1 P2 : Bool) : Int :=
  if I = true ∧ x = 0 ∧ ty < 1536 ∧ P1 = true then 1 else if O = true ∧ ty < 1536 ∧ P2 = true then 2 else if O = true ∨ I = true ∧ x < 16 then 3 else 0
theorem kind_ref {f : Fr} (hr : rightB f = true) (h : 5 < f.dst.size) (hd : f.dst.size = 6) : kindN f = refK (begB f.dst p5) (begB f.dst g2) (f.dst[5]'h).toNat f.typ (begB f.pay b1) (begB f.pay b2) := by
  obtain ⟨d, s, t, p, v, ty, pl⟩ := f
  simp only at h hd ⊢
  obtain ⟨a, b, c, e, f, g, rfl⟩ := six_bytes hd
  have hx : (ByteArray.mk #[a, b, c, e, f, g])[5] = g := rfl
  have E1 : headB ⟨#[a, b, c, e, f, g]⟩ ty pl g1 b1 = true ↔ begB ⟨#[a, b, c, e, f, g]⟩ p5 = true ∧ g.toNat = 0 ∧ ty < 1536 ∧ begB pl b1 = true := by
    unfold headB
    rw [Bool.and_eq_true, Bool.and_eq_true, eq1_iff, beg5_iff, decide_eq_true_iff, and_assoc]
  have E2 : headB ⟨#[a, b, c, e, f, g]⟩ ty pl g2 b2 = true ↔ begB ⟨#[a, b, c, e, f, g]⟩ g2 = true ∧ ty < 1536 ∧ begB pl b2 = true := by
    unfold headB
    rw [Bool.and_eq_true, Bool.and_eq_true, eq2_iff, beg6_iff, decide_eq_true_iff]
  have E3 : resB ⟨#[a, b, c, e, f, g]⟩ = true ↔ begB ⟨#[a, b, c, e, f, g]⟩ g2 = true ∨ begB ⟨#[a, b, c, e, f, g]⟩ p5 = true ∧ g.toNat < 16 := by
    unfold resB
    have e6 : (ByteArray.mk #[a, b, c, e, f, g]).toList = [a, b, c, e, f, g] := by rw [ByteArray.toList_eq]
    rw [Bool.or_eq_true, e6, res_iff, beg5_iff, beg6_iff]
    simp
  unfold kindN refK
  rw [if_pos hr]
  simp only [hx, E1, E2, E3]
end Fm
end Go.Proofs.YtledabmmomgkoaaDoor
