/-
  Plain mathematics of layer 3 (BPDUs as bytes): no program is named here. What a BPDU is, when it is right, its bytes, and what bytes say.
-/
import Derived.WalkKit
namespace Go.Proofs.YtngdilmgbgdkcaaDoor
set_option linter.unusedVariables false
set_option linter.unusedSimpArgs false
namespace Bm
open Go.RowKit

theorem ofInt_any (x : Int) : (BitVec.ofInt 64 x).toNat = (x % 18446744073709551616).toNat := by
  rw [BitVec.toNat_ofInt]; rfl
/-- '&' of whatever number and a small one. -/
theorem i64_and_any (x : Int) (b : Nat) (hb : b < 256) : bits .and .i64 x (b : Int) = (((x % 18446744073709551616).toNat &&& b : Nat) : Int) := by
  have hx : (x % 18446744073709551616).toNat &&& b ≤ b := Nat.and_le_right
  show IntKind.i64.wrap ((BitVec.ofInt 64 x &&& BitVec.ofInt 64 (b : Int)).toNat : Int) = _
  rw [BitVec.toNat_and, ofInt_any x, BitVec.ofInt_natCast, BitVec.toNat_ofNat, Nat.mod_eq_of_lt (show b < 2 ^ 64 by omega), IntKind.wrap_i64]
  omega
theorem u64_or_nat (a b : Nat) (ha : a < 18446744073709551616) (hb : b < 18446744073709551616) : bits .or .u64 (a : Int) (b : Int) = ((a ||| b : Nat) : Int) := by
  have hx : a ||| b < 2 ^ 64 := Nat.or_lt_two_pow (by omega) (by omega)
  show IntKind.u64.wrap ((BitVec.ofInt 64 (a : Int) ||| BitVec.ofInt 64 (b : Int)).toNat : Int) = _
  rw [BitVec.toNat_or, ofInt_any, ofInt_any, IntKind.wrap_u64]
  have e1 : ((a : Int) % 18446744073709551616).toNat = a := by omega
  have e2 : ((b : Int) % 18446744073709551616).toNat = b := by omega
  rw [e1, e2]
  omega
/-- A number, and a byte behind it. -/
theorem u64_join (n : Nat) (b : UInt8) (h : n < 72057594037927936) : bits .or .u64 ((n : Int) * 256) (IntKind.u64.wrap (b.toNat : Int)) = ((n * 256 + b.toNat : Nat) : Int) := by
  have hb := UInt8.toNat_lt b
  have e : IntKind.u64.wrap (b.toNat : Int) = (b.toNat : Int) := by rw [IntKind.wrap_u64]; omega
  have e2 : (n : Int) * 256 = ((n * 256 : Nat) : Int) := by omega
  rw [e, e2, u64_or_nat (n * 256) b.toNat (by omega) (by omega), nat_join 8 (n * 256) b.toNat (by omega) (by omega)]
theorem and_3 (x : Int) : bits .and .i64 x 3 = x % 4 := by
  have h := i64_and_any x 3 (by omega)
  have e : (x % 18446744073709551616).toNat &&& 3 = (x % 18446744073709551616).toNat % 4 := Nat.and_two_pow_sub_one_eq_mod _ 2
  rw [e] at h
  rw [show ((3 : Nat) : Int) = 3 from rfl] at h
  rw [h]
  omega
theorem and_bit (x : Int) (i : Nat) (hi : i < 8) : (bits .and .i64 x ((2 ^ i : Nat) : Int) != 0) = decide (x / (2 ^ i : Nat) % 2 = 1) := by
  have hp : (2 : Nat) ^ i ≤ 2 ^ 7 := Nat.pow_le_pow_right (by omega) (by omega)
  rw [i64_and_any x (2 ^ i) (by omega), nat_bit i]
  rw [Bool.eq_iff_iff]
  simp only [bne_iff_ne, ne_eq, decide_eq_true_eq]
  match i, hi with
  | 0, _ => simp; omega
  | 1, _ => simp; omega
  | 2, _ => simp; omega
  | 3, _ => simp; omega
  | 4, _ => simp; omega
  | 5, _ => simp; omega
  | 6, _ => simp; omega
  | 7, _ => simp; omega
theorem and_4 (x : Int) : (bits .and .i64 x 4 != 0) = decide (x / 4 % 2 = 1) := and_bit x 2 (by omega)
theorem and_8 (x : Int) : (bits .and .i64 x 8 != 0) = decide (x / 8 % 2 = 1) := and_bit x 3 (by omega)

/-- A BPDU, as ten numbers. -/
structure Bp where
  kind : Int
  flags : Int
  root : Int
  cost : Int
  bridge : Int
  port : Int
  age : Int
  max : Int
  hello : Int
  delay : Int

abbrev bv (k f r c b p a m h d : Int) : Value := .agg #[.int .i64 k, .int .i64 f, .int .u64 r, .int .u64 c, .int .u64 b, .int .u64 p, .int .i64 a, .int .i64 m, .int .i64 h, .int .i64 d]
abbrev Bp.val (b : Bp) : Value := bv b.kind b.flags b.root b.cost b.bridge b.port b.age b.max b.hello b.delay
def zero : Bp := ⟨0, 0, 0, 0, 0, 0, 0, 0, 0, 0⟩
def notice : Bp := ⟨2, 0, 0, 0, 0, 0, 0, 0, 0, 0⟩

def withinB (n m : Int) : Bool := decide (0 ≤ n ∧ n ≤ m)
def numsB (b : Bp) : Bool := withinB b.flags 255 && (decide (b.cost ≤ 4294967295) && (decide (b.port ≤ 65535) && (withinB b.age 65535 && (withinB b.max 65535 && (withinB b.hello 65535 && withinB b.delay 65535)))))
def bpEq (f g : Bp) : Bool := (f.kind == g.kind) && ((f.flags == g.flags) && ((f.root == g.root) && ((f.cost == g.cost) && ((f.bridge == g.bridge) && ((f.port == g.port) && ((f.age == g.age) && ((f.max == g.max) && ((f.hello == g.hello) && (f.delay == g.delay)))))))))
def rightB (b : Bp) : Bool := if b.kind = 2 then bpEq b notice else if b.kind = 1 ∨ b.kind = 3 then numsB b else false

theorem bpEq_true (f g : Bp) : bpEq f g = true ↔ f = g := by
  constructor
  · intro h
    obtain ⟨a0, a1, a2, a3, a4, a5, a6, a7, a8, a9⟩ := f
    obtain ⟨b0, b1, b2, b3, b4, b5, b6, b7, b8, b9⟩ := g
    simp [bpEq] at h
    obtain ⟨h0, h1, h2, h3, h4, h5, h6, h7, h8, h9⟩ := h
    subst h0 h1 h2 h3 h4 h5 h6 h7 h8 h9
    rfl
  · rintro rfl
    simp [bpEq]
theorem bpEq_self (f : Bp) : bpEq f f = true := (bpEq_true f f).2 rfl

/-- Numbers of 64 bits, as a uint64 holds them. -/
def u64B (n : Int) : Prop := 0 ≤ n ∧ n < 18446744073709551616
def Bp.ok (b : Bp) : Prop := u64B b.root ∧ u64B b.cost ∧ u64B b.bridge ∧ u64B b.port

/-- So many of a number's lowest bytes, the highest of these first. -/
def be (n : Nat) : Nat → ByteArray
  | 0 => ⟨#[]⟩
  | k + 1 => ⟨#[UInt8.ofNat (n / 256 ^ k % 256)]⟩ ++ be n k
theorem be_size (n k : Nat) : (be n k).size = k := by
  induction k with
  | zero => rfl
  | succ k ih => rw [be, ByteArray.size_append, ih]; show 1 + k = k + 1; omega

/-- A byte's number; 0 behind the end. -/
def byteN (s : ByteArray) (i : Nat) : Nat := (s.data.getD i 0).toNat
theorem byteN_lt (s : ByteArray) (i : Nat) : byteN s i < 256 := UInt8.toNat_lt _
/-- The number of so many bytes at a place. -/
def num (s : ByteArray) (a : Nat) : Nat → Nat
  | 0 => 0
  | k + 1 => num s a k * 256 + byteN s (a + k)
theorem num_lt (s : ByteArray) (a k : Nat) : num s a k < 256 ^ k := by
  induction k with
  | zero => simp [num]
  | succ k ih =>
    have := byteN_lt s (a + k)
    rw [num, Nat.pow_succ]
    omega
theorem num_head (s : ByteArray) (a k : Nat) : num s a (k + 1) = byteN s a * 256 ^ k + num s (a + 1) k := by
  induction k with
  | zero => simp [num]
  | succ k ih =>
    rw [num, ih, num, Nat.pow_succ, Nat.add_mul, Nat.mul_assoc]
    have e : a + (k + 1) = a + 1 + k := by omega
    rw [e]
    omega
theorem num_congr {s t : ByteArray} {a b k : Nat} (h : ∀ i, i < k → byteN s (a + i) = byteN t (b + i)) : num s a k = num t b k := by
  induction k with
  | zero => rfl
  | succ k ih => rw [num, num, ih (fun i hi => h i (by omega)), h k (by omega)]

theorem byteN_left {a b : ByteArray} {i : Nat} (h : i < a.size) : byteN (a ++ b) i = byteN a i := by
  unfold byteN
  have h' : i < a.data.size := h
  simp [Array.getElem?_append_left h']
theorem byteN_right {a b : ByteArray} {i : Nat} (h : a.size ≤ i) : byteN (a ++ b) i = byteN b (i - a.size) := by
  unfold byteN
  have h' : a.data.size ≤ i := h
  simp [Array.getElem?_append_right h']
theorem num_left {a b : ByteArray} {i k : Nat} (h : i + k ≤ a.size) : num (a ++ b) i k = num a i k := num_congr fun j hj => byteN_left (by omega)
theorem num_right {a b : ByteArray} {i k : Nat} (h : a.size ≤ i) : num (a ++ b) i k = num b (i - a.size) k := num_congr fun j hj => by
  rw [byteN_right (by omega)]
  congr 1
  omega
theorem byteN_one (x : UInt8) : byteN ⟨#[x]⟩ 0 = x.toNat := rfl
theorem num_be (n k : Nat) : num (be n k) 0 k = n % 256 ^ k := by
  induction k with
  | zero => simp [num, Nat.mod_one]
  | succ k ih =>
    rw [num_head, be]
    have e1 : byteN (⟨#[UInt8.ofNat (n / 256 ^ k % 256)]⟩ ++ be n k) 0 = n / 256 ^ k % 256 := by
      rw [byteN_left (by show 0 < 1; omega), byteN_one, UInt8.toNat_ofNat']
      omega
    have e2 : num (⟨#[UInt8.ofNat (n / 256 ^ k % 256)]⟩ ++ be n k) (0 + 1) k = num (be n k) 0 k := num_right (a := ⟨#[UInt8.ofNat (n / 256 ^ k % 256)]⟩) (by show 1 ≤ 0 + 1; omega)
    rw [e1, e2, ih, Nat.pow_succ, Nat.mod_mul, Nat.mul_comm]
    omega

/-- A field of a row of fields: the one that stands behind a. -/
theorem num_field (a c : ByteArray) (n k i : Nat) (hi : i = a.size) (hn : n < 256 ^ k) : num (a ++ (be n k ++ c)) i k = n := by
  rw [num_right (by omega), hi, Nat.sub_self, num_left (by rw [be_size]; omega), num_be, Nat.mod_eq_of_lt hn]

def sizeN (k : Int) : Nat := if k = 1 then 35 else if k = 2 then 4 else if k = 3 then 36 else 0

def numsOf (b : Bp) : ByteArray :=
  be b.flags.toNat 1 ++ (be b.root.toNat 8 ++ (be b.cost.toNat 4 ++ (be b.bridge.toNat 8 ++ (be b.port.toNat 2 ++ (be b.age.toNat 2 ++ (be b.max.toNat 2 ++ (be b.hello.toNat 2 ++ be b.delay.toNat 2)))))))
def headOf (k : Int) : ByteArray := if k = 2 then ⟨#[0, 0, 0, 128]⟩ else if k = 1 then ⟨#[0, 0, 0, 0]⟩ else ⟨#[0, 0, 2, 2]⟩
def tailOf (k : Int) : ByteArray := if k = 3 then ⟨#[0]⟩ else ⟨#[]⟩
def bytesOf (b : Bp) : ByteArray := if b.kind = 2 then headOf b.kind else headOf b.kind ++ (numsOf b ++ tailOf b.kind)
def printR (b : Bp) : ByteArray × Int := if rightB b = true then (bytesOf b, 0) else (⟨#[]⟩, 2)

/-- A BPDU's kind, told by its first bytes, and an error's number. -/
def kindR (s : ByteArray) : Int × Int :=
  if s.size < 4 then (0, 3)
  else if byteN s 0 ≠ 0 ∨ byteN s 1 ≠ 0 then (0, 2)
  else if byteN s 3 = 128 then (2, 0)
  else if byteN s 3 = 0 then (1, 0)
  else if byteN s 3 = 2 ∧ 2 ≤ byteN s 2 then (3, 0)
  else (0, 9)
/-- The numbers at a place, as a BPDU's of a kind. -/
def heardAt (k : Int) (s : ByteArray) (a : Nat) : Bp :=
  ⟨k, num s a 1, num s (a + 1) 8, num s (a + 9) 4, num s (a + 13) 8, num s (a + 21) 2, num s (a + 23) 2, num s (a + 25) 2, num s (a + 27) 2, num s (a + 29) 2⟩
def bodyR (k : Int) (s : ByteArray) : Bp × Int :=
  if s.size < sizeN k then (zero, 3)
  else if k = 2 then (notice, 0)
  else if k = 1 ∧ (heardAt k s 4).max ≤ (heardAt k s 4).age then (zero, 1)
  else (heardAt k s 4, 0)
def parseR (s : ByteArray) : Bp × Int := if (kindR s).2 ≠ 0 then (zero, (kindR s).2) else bodyR (kindR s).1 s

theorem kind_cases (s : ByteArray) : ((kindR s).1 = 0 ∧ ((kindR s).2 = 3 ∨ (kindR s).2 = 2 ∨ (kindR s).2 = 9)) ∨ ((kindR s).2 = 0 ∧ 4 ≤ s.size ∧ ((kindR s).1 = 1 ∨ (kindR s).1 = 2 ∨ (kindR s).1 = 3)) := by
  unfold kindR
  repeat' split
  all_goals simp
  all_goals omega
theorem extract_byte (s : ByteArray) (i j : Nat) (h : i + j < s.size) : byteN (s.extract i s.size) j = byteN s (i + j) := by
  unfold byteN
  have h' : i + j < s.data.size := h
  have e : (s.extract i s.size).data = s.data.extract i s.data.size := by simp
  rw [e]
  have h2 : j < s.size - i := by omega
  simp [Array.getElem?_extract, h2, Array.getElem?_eq_getElem h']
theorem extract_num (s : ByteArray) (i j k : Nat) (h : i + j + k ≤ s.size) : num (s.extract i s.size) j k = num s (i + j) k := num_congr fun m hm => by
  rw [extract_byte s i (j + m) (by omega)]
  congr 1
  omega
end Bm
end Go.Proofs.YtngdilmgbgdkcaaDoor
