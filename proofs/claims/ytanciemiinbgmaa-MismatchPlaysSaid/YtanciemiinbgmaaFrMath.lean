/-
  Plain mathematics of layer 1 (frames as bytes): no program is named here. What a frame is, when it is right, its bytes, and what bytes say.
-/
import Derived.WalkKit
namespace Go.Proofs.Ytanciemiinbgmaa
set_option linter.unusedVariables false
set_option linter.unusedSimpArgs false
namespace Fm
open Go.RowKit

theorem ofInt_64 (a : Nat) (ha : a < 18446744073709551616) : (BitVec.ofInt 64 (a : Int)).toNat = a := by
  rw [BitVec.ofInt_natCast, BitVec.toNat_ofNat]; exact Nat.mod_eq_of_lt (by omega)
theorem i64_or_nat (a b : Nat) (ha : a < 2 ^ 62) (hb : b < 2 ^ 62) : bits .or .i64 (a : Int) (b : Int) = ((a ||| b : Nat) : Int) := by
  have hx : a ||| b < 2 ^ 62 := Nat.or_lt_two_pow (by omega) (by omega)
  show IntKind.i64.wrap ((BitVec.ofInt 64 (a : Int) ||| BitVec.ofInt 64 (b : Int)).toNat : Int) = _
  rw [BitVec.toNat_or, ofInt_64 a (by omega), ofInt_64 b (by omega), IntKind.wrap_i64]
  omega
theorem i64_and_nat (a b : Nat) (ha : a < 2 ^ 62) (hb : b < 2 ^ 62) : bits .and .i64 (a : Int) (b : Int) = ((a &&& b : Nat) : Int) := by
  have hx : a &&& b < 2 ^ 62 := Nat.and_lt_two_pow _ (by omega)
  show IntKind.i64.wrap ((BitVec.ofInt 64 (a : Int) &&& BitVec.ofInt 64 (b : Int)).toNat : Int) = _
  rw [BitVec.toNat_and, ofInt_64 a (by omega), ofInt_64 b (by omega), IntKind.wrap_i64]
  omega
/-- A number above the lower i bits, and one within them. -/
theorem i64_join (i : Nat) (x y : Int) (h0 : 0 ≤ x) (h1 : x < 2 ^ 62) (hx : x % 2 ^ i = 0) (hy0 : 0 ≤ y) (hy : y < 2 ^ i) (hi : i ≤ 60) : bits .or .i64 x y = x + y := by
  obtain ⟨X, rfl⟩ := Int.eq_ofNat_of_zero_le h0
  obtain ⟨Y, rfl⟩ := Int.eq_ofNat_of_zero_le hy0
  have hp : (2 : Nat) ^ i ≤ 2 ^ 60 := Nat.pow_le_pow_right (by omega) hi
  have e : ((2 : Int) ^ i) = ((2 ^ i : Nat) : Int) := by simp
  rw [e] at hx hy
  rw [i64_or_nat X Y (by omega) (by omega), nat_join i X Y (by omega) (by omega)]
  omega

/-- A frame, as numbers and bytes. -/
structure Fr where
  dst : ByteArray
  src : ByteArray
  tagged : Bool
  pri : Int
  vlan : Int
  typ : Int
  pay : ByteArray

abbrev fv (d s : ByteArray) (t : Bool) (p v ty : Int) (pl : ByteArray) : Value := .agg #[.string d, .string s, .bool t, .int .i64 p, .int .i64 v, .int .i64 ty, .string pl]
abbrev Fr.val (f : Fr) : Value := fv f.dst f.src f.tagged f.pri f.vlan f.typ f.pay
def zero : Fr := ⟨⟨#[]⟩, ⟨#[]⟩, false, 0, 0, 0, ⟨#[]⟩⟩

def withinB (n m : Int) : Bool := decide (0 ≤ n ∧ n ≤ m)
def grpB (s : ByteArray) : Bool := if h : s.size = 6 then decide ((s[0]'(by omega)).toNat % 2 = 1) else false
def tagB (f : Fr) : Bool := if f.tagged then withinB f.pri 7 && withinB f.vlan 4094 else decide (f.pri = 0 ∧ f.vlan = 0)
def typB (f : Fr) : Bool := decide (0 ≤ f.typ ∧ f.typ ≤ 65535 ∧ f.typ ≠ 33024 ∧ f.pay.size ≤ 1500 ∧ (1536 ≤ f.typ ∨ f.typ = f.pay.size))
def rightB (f : Fr) : Bool := decide (f.dst.size = 6) && decide (f.src.size = 6) && !grpB f.src && tagB f && typB f

theorem right_parts {d s : ByteArray} {t : Bool} {p v ty : Int} {pl : ByteArray} (h : rightB ⟨d, s, t, p, v, ty, pl⟩ = true) :
    d.size = 6 ∧ s.size = 6 ∧ (0 ≤ p ∧ p ≤ 7) ∧ (0 ≤ v ∧ v ≤ 4094) ∧ 0 ≤ ty ∧ ty ≤ 65535 ∧ pl.size ≤ 1500 := by
  simp only [rightB, tagB, typB, withinB] at h
  cases t <;> simp at h <;> omega

/-- Two bytes, the higher first. -/
def w16 (n : Int) : ByteArray := ⟨#[UInt8.ofNat (n / 256 % 256).toNat, UInt8.ofNat (n % 256).toNat]⟩
def tagBytes (f : Fr) : ByteArray := if f.tagged then ⟨#[129, 0]⟩ ++ w16 (f.pri * 8192 + f.vlan) else ⟨#[]⟩
def bytesOf (f : Fr) : ByteArray := f.dst ++ f.src ++ tagBytes f ++ w16 f.typ ++ f.pay

theorem nil_app (a : ByteArray) : (⟨#[]⟩ : ByteArray) ++ a = a := ByteArray.empty_append
theorem app_nil (a : ByteArray) : a ++ (⟨#[]⟩ : ByteArray) = a := ByteArray.append_empty
theorem bytes_plain (d s : ByteArray) (p v ty : Int) (pl : ByteArray) : ⟨#[]⟩ ++ d ++ s ++ w16 ty ++ pl = bytesOf ⟨d, s, false, p, v, ty, pl⟩ := by
  simp only [bytesOf, tagBytes, nil_app, app_nil, if_neg Bool.false_ne_true]
theorem w16_tag : w16 33024 = ⟨#[129, 0]⟩ := by decide
theorem bytes_tagged (d s : ByteArray) (p v ty : Int) (pl : ByteArray) : ⟨#[]⟩ ++ d ++ s ++ w16 33024 ++ w16 (p * 8192 + v) ++ w16 ty ++ pl = bytesOf ⟨d, s, true, p, v, ty, pl⟩ := by
  rw [w16_tag]
  simp only [bytesOf, tagBytes, nil_app, if_pos, ByteArray.append_assoc]

/-- The number of the two bytes at a place. -/
def numN (s : ByteArray) (a : Nat) : Int := (s.data.getD a 0).toNat * 256 + (s.data.getD (a + 1) 0).toNat
def numI (s : ByteArray) (a : Int) : Int := numN s a.toNat
theorem getD_byte (s : ByteArray) (k : Nat) (h : k < s.size) : s.data.getD k 0 = s[k] := by
  have h' : k < s.data.size := h
  simp only [Array.getD, h', dif_pos]
  rfl
theorem wrap64_byte (b : UInt8) : wrap64 (b.toNat : Int) = b.toNat := by
  have := UInt8.toNat_lt b
  unfold wrap64; omega
theorem num_join (b c : UInt8) : bits BinOp.or IntKind.i64 (wrap64 (wrap64 (b.toNat : Int) * 256)) (wrap64 (c.toNat : Int)) = (b.toNat : Int) * 256 + c.toNat := by
  have h1 := UInt8.toNat_lt b
  have h2 := UInt8.toNat_lt c
  rw [wrap64_byte, wrap64_byte]
  have e : wrap64 ((b.toNat : Int) * 256) = (b.toNat : Int) * 256 := by unfold wrap64; omega
  rw [e]
  exact i64_join 8 _ _ (by omega) (by omega) (by omega) (by omega) (by omega) (by omega)
theorem numI_of (s : ByteArray) (a : Int) (h0 : 0 ≤ a) (h1 : a.toNat < s.size) (h2 : (a + 1).toNat < s.size) : ((s[a.toNat].toNat : Int) * 256 + (s[(a + 1).toNat].toNat : Int)) = numI s a := by
  have e : (a + 1).toNat = a.toNat + 1 := by omega
  unfold numI numN
  rw [getD_byte s a.toNat h1, getD_byte s (a.toNat + 1) (by omega)]
  simp only [e]

theorem numN_bd (s : ByteArray) (a : Nat) : 0 ≤ numN s a ∧ numN s a ≤ 65535 := by
  unfold numN
  have h1 := UInt8.toNat_lt (s.data.getD a 0)
  have h2 := UInt8.toNat_lt (s.data.getD (a + 1) 0)
  omega
theorem numI_bd (s : ByteArray) (a : Int) : 0 ≤ numI s a ∧ numI s a ≤ 65535 := numN_bd s _
theorem and_4095 (n : Int) (h0 : 0 ≤ n) (h1 : n ≤ 65535) : bits BinOp.and IntKind.i64 n 4095 = n % 4096 := by
  obtain ⟨N, rfl⟩ := Int.eq_ofNat_of_zero_le h0
  have h := i64_and_nat N 4095 (by omega) (by omega)
  rw [nat_mask12] at h
  rw [show ((4095 : Nat) : Int) = 4095 from rfl] at h
  rw [h]; omega
theorem and_4096 (n : Int) (h0 : 0 ≤ n) (h1 : n ≤ 65535) : bits BinOp.and IntKind.i64 n 4096 = n / 4096 % 2 * 4096 := by
  obtain ⟨N, rfl⟩ := Int.eq_ofNat_of_zero_le h0
  have h := i64_and_nat N 4096 (by omega) (by omega)
  have e := nat_bit 12 N
  rw [show (2 : Nat) ^ 12 = 4096 from rfl] at e
  rw [e] at h
  rw [show ((4096 : Nat) : Int) = 4096 from rfl] at h
  rw [h]; omega

/-- The frame that bytes would say, if they begin as a tagged one's ('true'), or not. -/
def cutF (s : ByteArray) : Bool → Fr
  | true => ⟨s.extract 0 6, s.extract 6 12, true, numN s 14 / 8192, numN s 14 % 4096, numN s 16, s.extract 18 s.size⟩
  | false => ⟨s.extract 0 6, s.extract 6 12, false, 0, 0, numN s 12, s.extract 14 s.size⟩

/-- What bytes say: a frame, or an error's number. -/
def parseR (s : ByteArray) : Fr × Int :=
  if s.size < 14 then (zero, 3)
  else if numN s 12 = 33024 then
    if s.size < 18 then (zero, 3)
    else if 1518 < s.size then (zero, 4)
    else if numN s 14 / 4096 % 2 = 1 then (zero, 2)
    else if rightB (cutF s true) = true then (cutF s true, 0) else (zero, 2)
  else if 1514 < s.size then (zero, 4)
  else if rightB (cutF s false) = true then (cutF s false, 0) else (zero, 2)

def withR (f : Fr) (vl : Int) : Fr × Int :=
  if rightB f = true then (if withinB vl 4094 = true then (⟨f.dst, f.src, true, f.pri, vl, f.typ, f.pay⟩, 0) else (zero, 1)) else (zero, 2)
def withoutR (f : Fr) : Fr × Int :=
  if rightB f = true then (⟨f.dst, f.src, false, 0, 0, f.typ, f.pay⟩, 0) else (zero, 2)

end Fm
end Go.Proofs.Ytanciemiinbgmaa
