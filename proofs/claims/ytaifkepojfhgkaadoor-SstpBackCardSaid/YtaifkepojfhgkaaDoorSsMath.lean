/-
  Plain mathematics of layer 4 (SSTP's BPDUs as bytes): no program is named here. SSTP's bytes of a BPDU and its VLAN, what bytes say; what was printed is heard; cut off it isn't.
-/
import Derived.Test.YtaifkepojfhgkaaDoorBpBk
namespace Go.Proofs.YtaifkepojfhgkaaDoor
set_option linter.unusedVariables false
set_option linter.unusedSimpArgs false
namespace Bm
open Go.RowKit

theorem i64_or_nat (a b : Nat) (ha : a < 4611686018427387904) (hb : b < 4611686018427387904) : bits .or .i64 (a : Int) (b : Int) = ((a ||| b : Nat) : Int) := by
  have hx : a ||| b < 2 ^ 62 := Nat.or_lt_two_pow (by omega) (by omega)
  show IntKind.i64.wrap ((BitVec.ofInt 64 (a : Int) ||| BitVec.ofInt 64 (b : Int)).toNat : Int) = _
  rw [BitVec.toNat_or, ofInt_any, ofInt_any, IntKind.wrap_i64]
  have e1 : ((a : Int) % 18446744073709551616).toNat = a := by omega
  have e2 : ((b : Int) % 18446744073709551616).toNat = b := by omega
  rw [e1, e2]
  omega
/-- A small number, and a byte behind it. -/
theorem i64_join (n : Nat) (b : Nat) (h : n < 65536) (hb : b < 256) : bits .or .i64 ((n : Int) * 256) (b : Int) = ((n * 256 + b : Nat) : Int) := by
  have e2 : (n : Int) * 256 = ((n * 256 : Nat) : Int) := by omega
  rw [e2, i64_or_nat (n * 256) b (by omega) (by omega), nat_join 8 (n * 256) b (by omega) (by omega)]

def vlanB (v : Int) : Bool := decide (1 ≤ v ∧ v ≤ 4094)
/-- What stands behind a BPDU: a byte 0, and the TLV. -/
def tagOf (v : Int) : ByteArray := ⟨#[0, 0, 0, 0, 2, UInt8.ofNat (v.toNat / 256 % 256), UInt8.ofNat (v.toNat % 256)]⟩
theorem tag_size (v : Int) : (tagOf v).size = 7 := rfl
def sprintR (b : Bp) (v : Int) : ByteArray × Int :=
  if rightB b = false ∨ b.kind = 2 then (⟨#[]⟩, 2) else if vlanB v = false then (⟨#[]⟩, 1) else (bytesOf b ++ tagOf v, 0)
/-- The VLAN behind n bytes, and an error's number. -/
def behindR (s : ByteArray) (n : Nat) : Int × Int :=
  if s.size < n + 7 then (0, 3)
  else if byteN s n ≠ 0 ∨ byteN s (n + 1) ≠ 0 ∨ byteN s (n + 2) ≠ 0 ∨ byteN s (n + 3) ≠ 0 ∨ byteN s (n + 4) ≠ 2 then (0, 2)
  else if byteN s (n + 5) * 256 + byteN s (n + 6) < 1 ∨ 4094 < byteN s (n + 5) * 256 + byteN s (n + 6) then (0, 1)
  else (((byteN s (n + 5) * 256 + byteN s (n + 6) : Nat) : Int), 0)
def sparseR (s : ByteArray) : Bp × Int × Int :=
  if (parseR s).2 ≠ 0 then (zero, 0, (parseR s).2)
  else if (parseR s).1.kind = 2 then (zero, 0, 9)
  else if (behindR s (sizeN (parseR s).1.kind)).2 ≠ 0 then (zero, 0, (behindR s (sizeN (parseR s).1.kind)).2)
  else ((parseR s).1, (behindR s (sizeN (parseR s).1.kind)).1, 0)

/-- What Print answers, case by case. -/
theorem sprint_cases {b : Bp} {v : Int} {S : ByteArray} {E : Int} (h : sprintR b v = (S, E)) :
    (E = 2 ∧ S = ⟨#[]⟩ ∧ (rightB b = false ∨ b.kind = 2)) ∨ (rightB b = true ∧ b.kind ≠ 2 ∧ vlanB v = false ∧ E = 1 ∧ S = ⟨#[]⟩) ∨ (rightB b = true ∧ b.kind ≠ 2 ∧ vlanB v = true ∧ E = 0 ∧ S = bytesOf b ++ tagOf v) := by
  unfold sprintR at h
  by_cases h1 : rightB b = false ∨ b.kind = 2
  · rw [if_pos h1] at h
    simp at h
    exact Or.inl ⟨h.2.symm, h.1.symm, h1⟩
  · rw [if_neg h1] at h
    have hr : rightB b = true := by
      cases hr : rightB b with
      | true => rfl
      | false => exact absurd (Or.inl hr) h1
    have hk : b.kind ≠ 2 := fun hk => h1 (Or.inr hk)
    by_cases h2 : vlanB v = false
    · rw [if_pos h2] at h
      simp at h
      exact Or.inr (Or.inl ⟨hr, hk, h2, h.2.symm, h.1.symm⟩)
    · rw [if_neg h2] at h
      simp at h
      exact Or.inr (Or.inr ⟨hr, hk, by simpa using h2, h.2.symm, h.1.symm⟩)

theorem byteN_tag {a : ByteArray} {v : Int} {more : ByteArray} (i : Nat) (h : i < 7) : byteN (a ++ (tagOf v ++ more)) (a.size + i) = byteN (tagOf v) i := by
  rw [byteN_right (by omega), show a.size + i - a.size = i by omega, byteN_left (by rw [tag_size]; exact h)]
/-- The VLAN that was printed stands behind the BPDU's bytes. -/
theorem back_behind (a more : ByteArray) (v : Int) (hv : vlanB v = true) : behindR (a ++ (tagOf v ++ more)) a.size = (v, 0) := by
  simp only [vlanB, decide_eq_true_eq] at hv
  have hs : (a ++ (tagOf v ++ more)).size = a.size + (7 + more.size) := by rw [ByteArray.size_append, ByteArray.size_append, tag_size]
  have b0 := byteN_tag (a := a) (v := v) (more := more) 0 (by omega)
  have b1 := byteN_tag (a := a) (v := v) (more := more) 1 (by omega)
  have b2 := byteN_tag (a := a) (v := v) (more := more) 2 (by omega)
  have b3 := byteN_tag (a := a) (v := v) (more := more) 3 (by omega)
  have b4 := byteN_tag (a := a) (v := v) (more := more) 4 (by omega)
  have b5 := byteN_tag (a := a) (v := v) (more := more) 5 (by omega)
  have b6 := byteN_tag (a := a) (v := v) (more := more) 6 (by omega)
  have t0 : byteN (tagOf v) 0 = 0 := rfl
  have t1 : byteN (tagOf v) 1 = 0 := rfl
  have t2 : byteN (tagOf v) 2 = 0 := rfl
  have t3 : byteN (tagOf v) 3 = 0 := rfl
  have t4 : byteN (tagOf v) 4 = 2 := rfl
  have t5 : byteN (tagOf v) 5 = v.toNat / 256 % 256 := by
    show (UInt8.ofNat (v.toNat / 256 % 256)).toNat = _
    rw [UInt8.toNat_ofNat']; omega
  have t6 : byteN (tagOf v) 6 = v.toNat % 256 := by
    show (UInt8.ofNat (v.toNat % 256)).toNat = _
    rw [UInt8.toNat_ofNat']; omega
  rw [Nat.add_zero] at b0
  unfold behindR
  rw [b0, b1, b2, b3, b4, b5, b6, t0, t1, t2, t3, t4, t5, t6, if_neg (by omega), if_neg (by decide), if_neg (by omega)]
  have e : ((v.toNat / 256 % 256 * 256 + v.toNat % 256 : Nat) : Int) = v := by omega
  rw [e]

/-- What was printed is heard, of its VLAN, whatever stands behind it, but a configuration that is too old. -/
theorem sback_parse (x : Bp) (v : Int) (hr : rightB x = true) (hok : x.ok) (hk : x.kind ≠ 2) (hv : vlanB v = true) (more : ByteArray) :
    sparseR (bytesOf x ++ tagOf v ++ more) = if x.kind = 1 ∧ x.max ≤ x.age then (zero, 0, 1) else (x, v, 0) := by
  rw [app_assoc']
  have hp := back_parse x hr hok (tagOf v ++ more)
  have hb := back_behind (bytesOf x) more v hv
  rw [bytes_size x hr] at hb
  unfold sparseR
  rw [hp]
  by_cases ho : x.kind = 1 ∧ x.max ≤ x.age
  · rw [if_pos ho, if_pos ho]
    rfl
  · rw [if_neg ho, if_neg ho]
    simp only [ne_eq, not_true_eq_false, if_false]
    rw [if_neg hk, hb]
    simp
theorem extract_left (a b : ByteArray) (c : Nat) (h : c ≤ a.size) : (a ++ b).extract 0 c = a.extract 0 c := by
  apply bytes_ext
  have h' : c ≤ a.data.size := h
  simp
  exact Or.inl (by omega)
theorem extract_whole (a b : ByteArray) : (a ++ b).extract 0 a.size = a := by
  rw [extract_left a b _ (Nat.le_refl _)]
  exact ByteArray.extract_zero_size
theorem extract_over (a b : ByteArray) (c : Nat) (h : a.size ≤ c) : (a ++ b).extract 0 c = a ++ b.extract 0 (c - a.size) := by
  apply bytes_ext
  have h' : a.data.size ≤ c := h
  simp
  exact List.take_of_length_le (by rw [Array.length_toList]; exact h')
/-- Cut off it isn't heard; it ends too early, but for a configuration that is too old. -/
theorem scut (x : Bp) (v : Int) (hr : rightB x = true) (hok : x.ok) (hk : x.kind ≠ 2) (hv : vlanB v = true) (c : Nat) (hc : c < (bytesOf x ++ tagOf v).size) :
    ∃ E, sparseR ((bytesOf x ++ tagOf v).extract 0 c) = (zero, 0, E) ∧ E ≠ 0 ∧ (¬ (x.kind = 1 ∧ x.max ≤ x.age) → E = 3) := by
  rw [ByteArray.size_append, tag_size] at hc
  by_cases hl : c < (bytesOf x).size
  · refine ⟨3, ?_, by decide, fun _ => rfl⟩
    rw [extract_left _ _ _ (by omega)]
    unfold sparseR
    rw [cut_short x hr hok c hl]
    rfl
  · rw [extract_over _ _ _ (by omega)]
    have hp := back_parse x hr hok ((tagOf v).extract 0 (c - (bytesOf x).size))
    unfold sparseR
    rw [hp]
    by_cases ho : x.kind = 1 ∧ x.max ≤ x.age
    · rw [if_pos ho]
      exact ⟨1, rfl, by decide, fun h => absurd ho h⟩
    · rw [if_neg ho]
      refine ⟨3, ?_, by decide, fun _ => rfl⟩
      have hs : (bytesOf x ++ (tagOf v).extract 0 (c - (bytesOf x).size)).size < sizeN x.kind + 7 := by
        rw [ByteArray.size_append, ByteArray.size_extract, tag_size, bytes_size x hr]
        rw [bytes_size x hr] at hc hl
        omega
      simp only [ne_eq, not_true_eq_false, if_false]
      rw [if_neg hk]
      unfold behindR
      rw [if_pos hs]
      rfl
end Bm
end Go.Proofs.YtaifkepojfhgkaaDoor
