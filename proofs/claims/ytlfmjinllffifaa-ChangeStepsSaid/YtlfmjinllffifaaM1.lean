/-
  Plain mathematics of layer 5 (identifiers and vectors): no program is named here. The order of vectors, the best of a row, a raised cost, an identifier's parts.
  Plain mathematics of layer 3 (BPDUs as bytes): no program is named here. What a BPDU is, when it is right, its bytes, and what bytes say.
  Plain mathematics of layer 8 (roles): no program is named here. Ways, the root vector, the root port, roles; in whatever order ports are told.
  Plain mathematics of layer 8 (roles), second part: what each role says; how many root ports there are; a deaf bridge.
  Plain mathematics of layer 8 (roles), third part: the scan over the ports that the package makes, step by step, comes to the root vector and the root port.
  Plain mathematics of layers 10 and 11 (what a port knows; what it does with what it hears; how a bridge chooses): no program is named here.
  Plain mathematics of layer 11, second part: choosing, and choosing again.
  Plain mathematics of layer 12 (how a port comes to its role, and to forward): no program is named here.
  Plain mathematics of layer 13 (how a bridge tells that its tree changed): no program is named here.
-/
import Derived.WalkKit
namespace Go.Proofs.Ytlfmjinllffifaa
set_option linter.unusedVariables false
set_option linter.unusedSimpArgs false
namespace Vm

/-- A vector: root, cost, bridge, port. -/
@[ext] structure Vc where
  root : Int
  cost : Int
  bridge : Int
  port : Int
deriving DecidableEq

def u64B (n : Int) : Prop := 0 ≤ n ∧ n < 18446744073709551616
structure Vc.ok (v : Vc) : Prop where
  r : u64B v.root
  c : u64B v.cost
  b : u64B v.bridge
  p : u64B v.port

def cmpN (a b : Int) (rest : Int) : Int := if a < b then -1 else if b < a then 1 else rest
/-- -1, if a comes first; 1, if b does; else 0. -/
def cmpR (a b : Vc) : Int := cmpN a.root b.root (cmpN a.cost b.cost (cmpN a.bridge b.bridge (cmpN a.port b.port 0)))

theorem cmp_self (a : Vc) : cmpR a a = 0 := by simp [cmpR, cmpN]
theorem cmp_range (a b : Vc) : cmpR a b = -1 ∨ cmpR a b = 0 ∨ cmpR a b = 1 := by
  unfold cmpR cmpN
  repeat' split
  all_goals omega
theorem cmp_neg (a b : Vc) : cmpR a b = -(cmpR b a) := by
  unfold cmpR cmpN
  repeat' split
  all_goals omega
theorem cmp_zero {a b : Vc} : cmpR a b = 0 ↔ a = b := by
  constructor
  · intro h
    unfold cmpR cmpN at h
    repeat' split at h
    all_goals first | omega | (apply Vc.ext <;> omega)
  · rintro rfl; exact cmp_self a
theorem cmp_less {a b : Vc} : cmpR a b < 0 ↔ (a.root < b.root ∨ a.root = b.root ∧ (a.cost < b.cost ∨ a.cost = b.cost ∧ (a.bridge < b.bridge ∨ a.bridge = b.bridge ∧ a.port < b.port))) := by
  unfold cmpR cmpN
  repeat' split
  all_goals omega
theorem cmp_trans {a b c : Vc} (h : cmpR a b < 0) (k : cmpR b c < 0) : cmpR a c < 0 := by
  rw [cmp_less] at *
  omega
theorem cmp_lt_of_lt_of_le {a b c : Vc} (h : cmpR a b < 0) (k : cmpR b c ≤ 0) : cmpR a c < 0 := by
  rcases Int.lt_or_eq_of_le k with k | k
  · exact cmp_trans h k
  · rw [cmp_zero] at k; exact k ▸ h
theorem cmp_le_trans {a b c : Vc} (h : cmpR a b ≤ 0) (k : cmpR b c ≤ 0) : cmpR a c ≤ 0 := by
  rcases Int.lt_or_eq_of_le h with h | h
  · exact Int.le_of_lt (cmp_lt_of_lt_of_le h k)
  · rw [cmp_zero] at h; exact h ▸ k
theorem cmp_le_of_not {a b : Vc} (h : ¬ cmpR a b < 0) : cmpR b a ≤ 0 := by have := cmp_neg a b; omega

/-- The lower 48 bits of the bridge and the lower 12 of the port are the other one's. -/
def sameB (a b : Vc) : Bool := decide (a.bridge % 281474976710656 = b.bridge % 281474976710656 ∧ a.port % 4096 = b.port % 4096)
def superB (a b : Vc) : Bool := decide (cmpR a b < 0) || sameB a b

def topC : Int := 4294967295
def raiseR (v : Vc) (c : Int) : Vc := { v with cost := if v.cost + c ≤ topC then v.cost + c else topC }
theorem raise_ok {v : Vc} {c : Int} (h : v.ok) (hc : u64B c) : (raiseR v c).ok := by
  obtain ⟨h1, ⟨h2, h3⟩, h4, h5⟩ := h
  obtain ⟨k1, k2⟩ := hc
  refine ⟨h1, ?_, h4, h5⟩
  unfold raiseR topC u64B
  simp only
  split <;> omega
theorem raise_hi {r c b p m : Int} (h : topC < c + m) : raiseR ⟨r, c, b, p⟩ m = ⟨r, 4294967295, b, p⟩ := by
  unfold raiseR
  simp only
  rw [if_neg (by omega)]
  rfl
theorem raise_lo {r c b p m : Int} (h : c + m ≤ topC) : raiseR ⟨r, c, b, p⟩ m = ⟨r, c + m, b, p⟩ := by
  unfold raiseR
  simp only
  rw [if_pos h]
theorem raise_raise (v : Vc) (m n : Int) (hv : 0 ≤ v.cost) (hm : 0 ≤ m) (hn : 0 ≤ n) : raiseR (raiseR v m) n = raiseR v (m + n) := by
  unfold raiseR topC
  simp only [Vc.mk.injEq, true_and, and_true]
  repeat' split
  all_goals omega
theorem raise_cmp (a b : Vc) (m : Int) (ha : a.cost + m < topC) (hb : b.cost + m < topC) : cmpR (raiseR a m) (raiseR b m) = cmpR a b := by
  unfold raiseR
  rw [if_pos (by omega), if_pos (by omega)]
  unfold cmpR cmpN
  simp only
  repeat' split
  all_goals omega
theorem raise_none (a : Vc) (h : a.cost ≤ topC) : raiseR a 0 = a := by
  unfold raiseR
  rw [if_pos (by omega)]
  simp

/-- A bridge's identifier, and an error's number; the address as a number, and its length. -/
def bridgeR (p v : Int) (a : Nat) (l : Nat) : Int × Int := if (0 ≤ p ∧ p ≤ 15) ∧ 0 ≤ v ∧ v ≤ 4095 then if l = 6 then (p * 1152921504606846976 + v * 281474976710656 + a, 0) else (0, 2) else (0, 1)
/-- A port's identifier, and an error's number. -/
def portR (p n : Int) : Int × Int := if (0 ≤ p ∧ p ≤ 15) ∧ 1 ≤ n ∧ n ≤ 4095 then (p * 4096 + n, 0) else (0, 1)

theorem at_some {α : Type} {l : List α} {i : Nat} (h : i < l.length) : ∃ v, l[i]? = some v := ⟨l[i], List.getElem?_eq_getElem h⟩
/-- k is the place of the first best one among the first n of a row. -/
structure First (l : List Vc) (n : Nat) (k : Nat) : Prop where
  lt : k < n
  le : ∀ i v u, i < n → l[k]? = some v → l[i]? = some u → cmpR v u ≤ 0
  eq : ∀ i v u, i < n → l[k]? = some v → l[i]? = some u → cmpR v u = 0 → k ≤ i
theorem first_one (l : List Vc) (h : 0 < l.length) : First l 1 0 := by
  refine ⟨by omega, ?_, fun _ _ _ _ _ _ _ => Nat.zero_le _⟩
  intro i v u hi hv hu
  obtain rfl : i = 0 := by omega
  rw [hv] at hu
  obtain rfl := Option.some.inj hu
  rw [cmp_self]; omega
theorem first_next {l : List Vc} {n k : Nat} {v u : Vc} (h : First l n k) (hv : l[k]? = some v) (hu : l[n]? = some u) : First l (n + 1) (if cmpR u v < 0 then n else k) := by
  by_cases hc : cmpR u v < 0
  · rw [if_pos hc]
    refine ⟨by omega, ?_, ?_⟩
    · intro i v' u' hi hv' hu'
      rw [hu] at hv'; obtain rfl := Option.some.inj hv'
      by_cases hin : i < n
      · exact Int.le_of_lt (cmp_lt_of_lt_of_le hc (h.le i v u' hin hv hu'))
      · obtain rfl : i = n := by omega
        rw [hu] at hu'; obtain rfl := Option.some.inj hu'
        rw [cmp_self]; omega
    · intro i v' u' hi hv' hu' he
      rw [hu] at hv'; obtain rfl := Option.some.inj hv'
      by_cases hin : i < n
      · have := cmp_lt_of_lt_of_le hc (h.le i v u' hin hv hu')
        omega
      · omega
  · rw [if_neg hc]
    refine ⟨by have := h.lt; omega, ?_, ?_⟩
    · intro i v' u' hi hv' hu'
      rw [hv] at hv'; obtain rfl := Option.some.inj hv'
      by_cases hin : i < n
      · exact h.le i v u' hin hv hu'
      · obtain rfl : i = n := by omega
        rw [hu] at hu'; obtain rfl := Option.some.inj hu'
        exact cmp_le_of_not hc
    · intro i v' u' hi hv' hu' he
      rw [hv] at hv'; obtain rfl := Option.some.inj hv'
      by_cases hin : i < n
      · exact h.eq i v u' hin hv hu' he
      · have := h.lt; omega

/-- The place of the first best one, behind n of a row. -/
def bestN (l : List Vc) : Nat → Nat
  | 0 => 0
  | n + 1 => match l[bestN l n]?, l[n]? with
    | some v, some u => if cmpR u v < 0 then n else bestN l n
    | _, _ => bestN l n
theorem bestN_first {l : List Vc} : ∀ n, 0 < n → n ≤ l.length → First l n (bestN l n)
  | 0, h, _ => absurd h (by omega)
  | 1, _, hn => by
    have e : bestN l 1 = 0 := by
      unfold bestN
      simp only [bestN]
      obtain ⟨v, hv⟩ : ∃ v, l[0]? = some v := at_some (by omega)
      rw [hv]
      simp [cmp_self]
    rw [e]
    exact first_one l (by omega)
  | n + 2, _, hn => by
    have ih := bestN_first (l := l) (n + 1) (by omega) (by omega)
    have hk := ih.lt
    have hkl : bestN l (n + 1) < l.length := Nat.lt_of_lt_of_le hk (Nat.le_of_succ_le hn)
    obtain ⟨v, hv⟩ : ∃ v, l[bestN l (n + 1)]? = some v := at_some hkl
    have hnl : n + 1 < l.length := Nat.lt_of_succ_le hn
    obtain ⟨u, hu⟩ : ∃ u, l[n + 1]? = some u := at_some hnl
    have e : bestN l (n + 2) = if cmpR u v < 0 then n + 1 else bestN l (n + 1) := by
      rw [bestN.eq_def]
      simp only [hv, hu]
    rw [e]
    exact first_next ih hv hu
theorem first_same {l : List Vc} {n k m : Nat} (h : First l n k) (h' : First l n m) (hn : n ≤ l.length) : k = m := by
  have hk := h.lt
  have hm := h'.lt
  obtain ⟨v, hv⟩ : ∃ v, l[k]? = some v := at_some (by omega)
  obtain ⟨u, hu⟩ : ∃ u, l[m]? = some u := at_some (by omega)
  have a := h.le m v u hm hv hu
  have b := h'.le k u v hk hu hv
  have c := cmp_neg v u
  have z : cmpR v u = 0 := by omega
  have z' : cmpR u v = 0 := by omega
  have := h.eq m v u hm hv hu z
  have := h'.eq k u v hk hu hv z'
  omega
end Vm
end Go.Proofs.Ytlfmjinllffifaa

namespace Go.Proofs.Ytlfmjinllffifaa
set_option linter.unusedVariables false
set_option linter.unusedSimpArgs false
namespace Bm
open Go.RowKit

theorem ofInt_any (x : Int) : (BitVec.ofInt 64 x).toNat = (x % 18446744073709551616).toNat := by
  rw [BitVec.toNat_ofInt]; rfl
/-- '&' of whatever number and a small one. -/
theorem i64_and_any (x : Int) (b : Nat) (hb : b < 256) : bits .and .i64 x (b : Int) = (((x % 18446744073709551616).toNat &&& b : Nat) : Int) := by
  have hx : (x % 18446744073709551616).toNat &&& b ≤ b := Nat.and_le_right
  show IntKind.i64.wrap ((BitVec.ofInt 64 x &&& BitVec.ofInt 64 (b : Int)).toNat : Int) = _
  rw [BitVec.toNat_and, ofInt_any x, BitVec.ofInt_natCast, BitVec.toNat_ofNat, Nat.mod_eq_of_lt (show b < 2 ^ 64 by omega), IntKind.wrap_i64]
  omega
theorem u64_or_nat (a b : Nat) (ha : a < 18446744073709551616) (hb : b < 18446744073709551616) : bits .or .u64 (a : Int) (b : Int) = ((a ||| b : Nat) : Int) := by
  have hx : a ||| b < 2 ^ 64 := Nat.or_lt_two_pow (by omega) (by omega)
  show IntKind.u64.wrap ((BitVec.ofInt 64 (a : Int) ||| BitVec.ofInt 64 (b : Int)).toNat : Int) = _
  rw [BitVec.toNat_or, ofInt_any, ofInt_any, IntKind.wrap_u64]
  have e1 : ((a : Int) % 18446744073709551616).toNat = a := by omega
  have e2 : ((b : Int) % 18446744073709551616).toNat = b := by omega
  rw [e1, e2]
  omega
/-- A number, and a byte behind it. -/
theorem u64_join (n : Nat) (b : UInt8) (h : n < 72057594037927936) : bits .or .u64 ((n : Int) * 256) (IntKind.u64.wrap (b.toNat : Int)) = ((n * 256 + b.toNat : Nat) : Int) := by
  have hb := UInt8.toNat_lt b
  have e : IntKind.u64.wrap (b.toNat : Int) = (b.toNat : Int) := by rw [IntKind.wrap_u64]; omega
  have e2 : (n : Int) * 256 = ((n * 256 : Nat) : Int) := by omega
  rw [e, e2, u64_or_nat (n * 256) b.toNat (by omega) (by omega), nat_join 8 (n * 256) b.toNat (by omega) (by omega)]
theorem and_3 (x : Int) : bits .and .i64 x 3 = x % 4 := by
  have h := i64_and_any x 3 (by omega)
  have e : (x % 18446744073709551616).toNat &&& 3 = (x % 18446744073709551616).toNat % 4 := Nat.and_two_pow_sub_one_eq_mod _ 2
  rw [e] at h
  rw [show ((3 : Nat) : Int) = 3 from rfl] at h
  rw [h]
  omega
theorem and_bit (x : Int) (i : Nat) (hi : i < 8) : (bits .and .i64 x ((2 ^ i : Nat) : Int) != 0) = decide (x / (2 ^ i : Nat) % 2 = 1) := by
  have hp : (2 : Nat) ^ i ≤ 2 ^ 7 := Nat.pow_le_pow_right (by omega) (by omega)
  rw [i64_and_any x (2 ^ i) (by omega), nat_bit i]
  rw [Bool.eq_iff_iff]
  simp only [bne_iff_ne, ne_eq, decide_eq_true_eq]
  match i, hi with
  | 0, _ => simp; omega
  | 1, _ => simp; omega
  | 2, _ => simp; omega
  | 3, _ => simp; omega
  | 4, _ => simp; omega
  | 5, _ => simp; omega
  | 6, _ => simp; omega
  | 7, _ => simp; omega
theorem and_4 (x : Int) : (bits .and .i64 x 4 != 0) = decide (x / 4 % 2 = 1) := and_bit x 2 (by omega)
theorem and_8 (x : Int) : (bits .and .i64 x 8 != 0) = decide (x / 8 % 2 = 1) := and_bit x 3 (by omega)

/-- A BPDU, as ten numbers. -/
structure Bp where
  kind : Int
  flags : Int
  root : Int
  cost : Int
  bridge : Int
  port : Int
  age : Int
  max : Int
  hello : Int
  delay : Int

abbrev bv (k f r c b p a m h d : Int) : Value := .agg #[.int .i64 k, .int .i64 f, .int .u64 r, .int .u64 c, .int .u64 b, .int .u64 p, .int .i64 a, .int .i64 m, .int .i64 h, .int .i64 d]
abbrev Bp.val (b : Bp) : Value := bv b.kind b.flags b.root b.cost b.bridge b.port b.age b.max b.hello b.delay
def zero : Bp := ⟨0, 0, 0, 0, 0, 0, 0, 0, 0, 0⟩
def notice : Bp := ⟨2, 0, 0, 0, 0, 0, 0, 0, 0, 0⟩

def withinB (n m : Int) : Bool := decide (0 ≤ n ∧ n ≤ m)
def numsB (b : Bp) : Bool := withinB b.flags 255 && (decide (b.cost ≤ 4294967295) && (decide (b.port ≤ 65535) && (withinB b.age 65535 && (withinB b.max 65535 && (withinB b.hello 65535 && withinB b.delay 65535)))))
def bpEq (f g : Bp) : Bool := (f.kind == g.kind) && ((f.flags == g.flags) && ((f.root == g.root) && ((f.cost == g.cost) && ((f.bridge == g.bridge) && ((f.port == g.port) && ((f.age == g.age) && ((f.max == g.max) && ((f.hello == g.hello) && (f.delay == g.delay)))))))))
def rightB (b : Bp) : Bool := if b.kind = 2 then bpEq b notice else if b.kind = 1 ∨ b.kind = 3 then numsB b else false

theorem bpEq_true (f g : Bp) : bpEq f g = true ↔ f = g := by
  constructor
  · intro h
    obtain ⟨a0, a1, a2, a3, a4, a5, a6, a7, a8, a9⟩ := f
    obtain ⟨b0, b1, b2, b3, b4, b5, b6, b7, b8, b9⟩ := g
    simp [bpEq] at h
    obtain ⟨h0, h1, h2, h3, h4, h5, h6, h7, h8, h9⟩ := h
    subst h0 h1 h2 h3 h4 h5 h6 h7 h8 h9
    rfl
  · rintro rfl
    simp [bpEq]
theorem bpEq_self (f : Bp) : bpEq f f = true := (bpEq_true f f).2 rfl

/-- Numbers of 64 bits, as a uint64 holds them. -/
def u64B (n : Int) : Prop := 0 ≤ n ∧ n < 18446744073709551616
def Bp.ok (b : Bp) : Prop := u64B b.root ∧ u64B b.cost ∧ u64B b.bridge ∧ u64B b.port

/-- So many of a number's lowest bytes, the highest of these first. -/
def be (n : Nat) : Nat → ByteArray
  | 0 => ⟨#[]⟩
  | k + 1 => ⟨#[UInt8.ofNat (n / 256 ^ k % 256)]⟩ ++ be n k
theorem be_size (n k : Nat) : (be n k).size = k := by
  induction k with
  | zero => rfl
  | succ k ih => rw [be, ByteArray.size_append, ih]; show 1 + k = k + 1; omega

/-- A byte's number; 0 behind the end. -/
def byteN (s : ByteArray) (i : Nat) : Nat := (s.data.getD i 0).toNat
theorem byteN_lt (s : ByteArray) (i : Nat) : byteN s i < 256 := UInt8.toNat_lt _
/-- The number of so many bytes at a place. -/
def num (s : ByteArray) (a : Nat) : Nat → Nat
  | 0 => 0
  | k + 1 => num s a k * 256 + byteN s (a + k)
theorem num_lt (s : ByteArray) (a k : Nat) : num s a k < 256 ^ k := by
  induction k with
  | zero => simp [num]
  | succ k ih =>
    have := byteN_lt s (a + k)
    rw [num, Nat.pow_succ]
    omega
theorem num_head (s : ByteArray) (a k : Nat) : num s a (k + 1) = byteN s a * 256 ^ k + num s (a + 1) k := by
  induction k with
  | zero => simp [num]
  | succ k ih =>
    rw [num, ih, num, Nat.pow_succ, Nat.add_mul, Nat.mul_assoc]
    have e : a + (k + 1) = a + 1 + k := by omega
    rw [e]
    omega
theorem num_congr {s t : ByteArray} {a b k : Nat} (h : ∀ i, i < k → byteN s (a + i) = byteN t (b + i)) : num s a k = num t b k := by
  induction k with
  | zero => rfl
  | succ k ih => rw [num, num, ih (fun i hi => h i (by omega)), h k (by omega)]

theorem byteN_left {a b : ByteArray} {i : Nat} (h : i < a.size) : byteN (a ++ b) i = byteN a i := by
  unfold byteN
  have h' : i < a.data.size := h
  simp [Array.getElem?_append_left h']
theorem byteN_right {a b : ByteArray} {i : Nat} (h : a.size ≤ i) : byteN (a ++ b) i = byteN b (i - a.size) := by
  unfold byteN
  have h' : a.data.size ≤ i := h
  simp [Array.getElem?_append_right h']
theorem num_left {a b : ByteArray} {i k : Nat} (h : i + k ≤ a.size) : num (a ++ b) i k = num a i k := num_congr fun j hj => byteN_left (by omega)
theorem num_right {a b : ByteArray} {i k : Nat} (h : a.size ≤ i) : num (a ++ b) i k = num b (i - a.size) k := num_congr fun j hj => by
  rw [byteN_right (by omega)]
  congr 1
  omega
theorem byteN_one (x : UInt8) : byteN ⟨#[x]⟩ 0 = x.toNat := rfl
theorem num_be (n k : Nat) : num (be n k) 0 k = n % 256 ^ k := by
  induction k with
  | zero => simp [num, Nat.mod_one]
  | succ k ih =>
    rw [num_head, be]
    have e1 : byteN (⟨#[UInt8.ofNat (n / 256 ^ k % 256)]⟩ ++ be n k) 0 = n / 256 ^ k % 256 := by
      rw [byteN_left (by show 0 < 1; omega), byteN_one, UInt8.toNat_ofNat']
      omega
    have e2 : num (⟨#[UInt8.ofNat (n / 256 ^ k % 256)]⟩ ++ be n k) (0 + 1) k = num (be n k) 0 k := num_right (a := ⟨#[UInt8.ofNat (n / 256 ^ k % 256)]⟩) (by show 1 ≤ 0 + 1; omega)
    rw [e1, e2, ih, Nat.pow_succ, Nat.mod_mul, Nat.mul_comm]
    omega

/-- A field of a row of fields: the one that stands behind a. -/
theorem num_field (a c : ByteArray) (n k i : Nat) (hi : i = a.size) (hn : n < 256 ^ k) : num (a ++ (be n k ++ c)) i k = n := by
  rw [num_right (by omega), hi, Nat.sub_self, num_left (by rw [be_size]; omega), num_be, Nat.mod_eq_of_lt hn]

def sizeN (k : Int) : Nat := if k = 1 then 35 else if k = 2 then 4 else if k = 3 then 36 else 0

def numsOf (b : Bp) : ByteArray :=
  be b.flags.toNat 1 ++ (be b.root.toNat 8 ++ (be b.cost.toNat 4 ++ (be b.bridge.toNat 8 ++ (be b.port.toNat 2 ++ (be b.age.toNat 2 ++ (be b.max.toNat 2 ++ (be b.hello.toNat 2 ++ be b.delay.toNat 2)))))))
def headOf (k : Int) : ByteArray := if k = 2 then ⟨#[0, 0, 0, 128]⟩ else if k = 1 then ⟨#[0, 0, 0, 0]⟩ else ⟨#[0, 0, 2, 2]⟩
def tailOf (k : Int) : ByteArray := if k = 3 then ⟨#[0]⟩ else ⟨#[]⟩
def bytesOf (b : Bp) : ByteArray := if b.kind = 2 then headOf b.kind else headOf b.kind ++ (numsOf b ++ tailOf b.kind)
def printR (b : Bp) : ByteArray × Int := if rightB b = true then (bytesOf b, 0) else (⟨#[]⟩, 2)

/-- A BPDU's kind, told by its first bytes, and an error's number. -/
def kindR (s : ByteArray) : Int × Int :=
  if s.size < 4 then (0, 3)
  else if byteN s 0 ≠ 0 ∨ byteN s 1 ≠ 0 then (0, 2)
  else if byteN s 3 = 128 then (2, 0)
  else if byteN s 3 = 0 then (1, 0)
  else if byteN s 3 = 2 ∧ 2 ≤ byteN s 2 then (3, 0)
  else (0, 9)
/-- The numbers at a place, as a BPDU's of a kind. -/
def heardAt (k : Int) (s : ByteArray) (a : Nat) : Bp :=
  ⟨k, num s a 1, num s (a + 1) 8, num s (a + 9) 4, num s (a + 13) 8, num s (a + 21) 2, num s (a + 23) 2, num s (a + 25) 2, num s (a + 27) 2, num s (a + 29) 2⟩
def bodyR (k : Int) (s : ByteArray) : Bp × Int :=
  if s.size < sizeN k then (zero, 3)
  else if k = 2 then (notice, 0)
  else if k = 1 ∧ (heardAt k s 4).max ≤ (heardAt k s 4).age then (zero, 1)
  else (heardAt k s 4, 0)
def parseR (s : ByteArray) : Bp × Int := if (kindR s).2 ≠ 0 then (zero, (kindR s).2) else bodyR (kindR s).1 s

theorem kind_cases (s : ByteArray) : ((kindR s).1 = 0 ∧ ((kindR s).2 = 3 ∨ (kindR s).2 = 2 ∨ (kindR s).2 = 9)) ∨ ((kindR s).2 = 0 ∧ 4 ≤ s.size ∧ ((kindR s).1 = 1 ∨ (kindR s).1 = 2 ∨ (kindR s).1 = 3)) := by
  unfold kindR
  repeat' split
  all_goals simp
  all_goals omega
theorem extract_byte (s : ByteArray) (i j : Nat) (h : i + j < s.size) : byteN (s.extract i s.size) j = byteN s (i + j) := by
  unfold byteN
  have h' : i + j < s.data.size := h
  have e : (s.extract i s.size).data = s.data.extract i s.data.size := by simp
  rw [e]
  have h2 : j < s.size - i := by omega
  simp [Array.getElem?_extract, h2, Array.getElem?_eq_getElem h']
theorem extract_num (s : ByteArray) (i j k : Nat) (h : i + j + k ≤ s.size) : num (s.extract i s.size) j k = num s (i + j) k := num_congr fun m hm => by
  rw [extract_byte s i (j + m) (by omega)]
  congr 1
  omega
end Bm
end Go.Proofs.Ytlfmjinllffifaa

namespace Go.Proofs.Ytlfmjinllffifaa
set_option linter.unusedVariables false
set_option linter.unusedSimpArgs false
open Vm
namespace Rm

/-- What is known of a port. -/
structure Inf where
  id : Int
  cost : Int
  source : Int
  vec : Vc
deriving DecidableEq

def ownB (v : Vc) (br : Int) : Bool := decide (v.bridge % 281474976710656 = br % 281474976710656)
def zeroV : Vc := ⟨0, 0, 0, 0⟩
def mineR (br : Int) : Vc := ⟨br, 0, br, 0⟩
/-- The root's way by a port. -/
def wayR (br : Int) (p : Inf) : Option Vc := if p.source = 3 ∧ ownB p.vec br = false then some (raiseR p.vec p.cost) else none
def stepV (br : Int) (b : Vc) (p : Inf) : Vc := match wayR br p with | some w => if cmpR w b < 0 then w else b | none => b
/-- The bridge's root vector. -/
def rootV (br : Int) (l : List Inf) : Vc := l.foldl (stepV br) (mineR br)

theorem take_next {α β : Type} (f : β → α → β) (b : β) {l : List α} {j : Nat} {x : α} (h : l[j]? = some x) : (l.take (j + 1)).foldl f b = f ((l.take j).foldl f b) x := by
  rw [List.take_add_one, h]
  simp only [Option.toList, List.foldl_append, List.foldl_cons, List.foldl_nil]

theorem step_le (br : Int) (b : Vc) (p : Inf) : cmpR (stepV br b p) b ≤ 0 := by
  unfold stepV
  split
  · split
    · omega
    · rw [cmp_self]; omega
  · rw [cmp_self]; omega
theorem step_way {br : Int} {p : Inf} {w : Vc} (h : wayR br p = some w) (b : Vc) : cmpR (stepV br b p) w ≤ 0 := by
  unfold stepV
  rw [h]
  simp only
  split
  · rw [cmp_self]; omega
  · rename_i hn
    exact cmp_le_of_not hn
theorem step_is (br : Int) (b : Vc) (p : Inf) : stepV br b p = b ∨ wayR br p = some (stepV br b p) := by
  unfold stepV
  split
  · rename_i w hw
    split
    · exact .inr hw
    · exact .inl rfl
  · exact .inl rfl
theorem fold_le (br : Int) : ∀ (l : List Inf) (b : Vc), cmpR (l.foldl (stepV br) b) b ≤ 0
  | [], b => by show cmpR b b ≤ 0; rw [cmp_self]; omega
  | p :: l, b => cmp_le_trans (fold_le br l (stepV br b p)) (step_le br b p)
theorem fold_way {br : Int} : ∀ (l : List Inf) (b : Vc) (p : Inf) (w : Vc), p ∈ l → wayR br p = some w → cmpR (l.foldl (stepV br) b) w ≤ 0
  | [], _, p, _, h, _ => by cases h
  | q :: l, b, p, w, h, hw => by
    rcases List.mem_cons.1 h with rfl | h
    · exact cmp_le_trans (fold_le br l (stepV br b p)) (step_way hw b)
    · exact fold_way l (stepV br b q) p w h hw
theorem fold_is (br : Int) : ∀ (l : List Inf) (b : Vc), l.foldl (stepV br) b = b ∨ ∃ p ∈ l, wayR br p = some (l.foldl (stepV br) b)
  | [], b => .inl rfl
  | q :: l, b => by
    rcases fold_is br l (stepV br b q) with h | ⟨p, hp, h⟩
    · rcases step_is br b q with k | k
      · exact .inl (h.trans k)
      · exact .inr ⟨q, List.mem_cons_self, by rw [show (q :: l).foldl (stepV br) b = l.foldl (stepV br) (stepV br b q) from rfl, h]; exact k⟩
    · exact .inr ⟨p, List.mem_cons_of_mem _ hp, h⟩
/-- The root vector is the own one, or a port's way; none of these is better. -/
structure IsRoot (br : Int) (l : List Inf) (v : Vc) : Prop where
  own : cmpR v (mineR br) ≤ 0
  way : ∀ p ∈ l, ∀ w, wayR br p = some w → cmpR v w ≤ 0
  is : v = mineR br ∨ ∃ p ∈ l, wayR br p = some v
theorem root_is (br : Int) (l : List Inf) : IsRoot br l (rootV br l) := ⟨fold_le br l _, fun p hp w hw => fold_way l _ p w hp hw, fold_is br l _⟩
theorem cmp_anti {a b : Vc} (h : cmpR a b ≤ 0) (k : cmpR b a ≤ 0) : a = b := cmp_zero.1 (by have := cmp_neg a b; omega)
theorem root_same {br : Int} {l m : List Inf} {u v : Vc} (h : IsRoot br l u) (k : IsRoot br m v) (hlm : ∀ p, p ∈ l ↔ p ∈ m) : u = v := by
  refine cmp_anti ?_ ?_
  · rcases k.is with rfl | ⟨p, hp, hw⟩
    · exact h.own
    · exact h.way p ((hlm p).2 hp) v hw
  · rcases h.is with rfl | ⟨p, hp, hw⟩
    · exact k.own
    · exact k.way p ((hlm p).1 hp) u hw
theorem root_turned (br : Int) (l : List Inf) : rootV br l.reverse = rootV br l := root_same (root_is br _) (root_is br _) (fun p => by rw [List.mem_reverse])
/-- A bridge that heard nothing is the root. -/
theorem root_deaf {br : Int} {l : List Inf} (h : ∀ p ∈ l, wayR br p = none) : rootV br l = mineR br := by
  rcases (root_is br l).is with h1 | ⟨p, hp, hw⟩
  · exact h1
  · rw [h p hp] at hw; cases hw

/-- The root port among the first n: of the ports by which the root's way is, the one of the least Id. -/
def portN (br : Int) (v : Vc) (l : List Inf) : Nat → Option Nat
  | 0 => none
  | n + 1 => match l[n]? with
    | none => portN br v l n
    | some p => if wayR br p = some v then (match portN br v l n with
        | none => some n
        | some o => match l[o]? with
          | none => some n
          | some q => if p.id < q.id then some n else some o) else portN br v l n
structure IsPort (br : Int) (v : Vc) (l : List Inf) (n o : Nat) : Prop where
  lt : o < n
  at_ : ∃ q, l[o]? = some q ∧ wayR br q = some v ∧ ∀ i p, i < n → l[i]? = some p → wayR br p = some v → q.id ≤ p.id
theorem port_spec (br : Int) (v : Vc) (l : List Inf) : ∀ n, n ≤ l.length → (portN br v l n = none → ∀ i p, i < n → l[i]? = some p → ¬ wayR br p = some v) ∧ (∀ o, portN br v l n = some o → IsPort br v l n o)
  | 0, _ => ⟨fun _ i p h => by omega, fun o h => by cases h⟩
  | n + 1, hn => by
    obtain ⟨ih1, ih2⟩ := port_spec br v l n (by omega)
    obtain ⟨p, hp⟩ : ∃ p, l[n]? = some p := at_some (by omega)
    unfold portN
    rw [hp]
    simp only
    by_cases hw : wayR br p = some v
    · rw [if_pos hw]
      cases ho : portN br v l n with
      | none =>
        simp only
        refine ⟨nofun, fun o h => ?_⟩
        cases h
        refine ⟨by omega, p, hp, hw, fun i q hi hq hqw => ?_⟩
        by_cases hin : i < n
        · exact absurd hqw (ih1 ho i q hin hq)
        · obtain rfl : i = n := by omega
          rw [hp] at hq; cases hq; omega
      | some o =>
        obtain ⟨hlt, q, hq, hqw, hle⟩ := ih2 o ho
        simp only [hq]
        by_cases hid : p.id < q.id
        · rw [if_pos hid]
          refine ⟨nofun, fun o' h => ?_⟩
          cases h
          refine ⟨by omega, p, hp, hw, fun i r hi hr hrw => ?_⟩
          by_cases hin : i < n
          · have := hle i r hin hr hrw; omega
          · obtain rfl : i = n := by omega
            rw [hp] at hr; cases hr; omega
        · rw [if_neg hid]
          refine ⟨nofun, fun o' h => ?_⟩
          cases h
          refine ⟨by omega, q, hq, hqw, fun i r hi hr hrw => ?_⟩
          by_cases hin : i < n
          · exact hle i r hin hr hrw
          · obtain rfl : i = n := by omega
            rw [hp] at hr; cases hr; omega
    · rw [if_neg hw]
      refine ⟨fun h i q hi hq => ?_, fun o h => ?_⟩
      · by_cases hin : i < n
        · exact ih1 h i q hin hq
        · obtain rfl : i = n := by omega
          rw [hp] at hq; cases hq; exact hw
      · obtain ⟨hlt, q, hq, hqw, hle⟩ := ih2 o h
        refine ⟨by omega, q, hq, hqw, fun i r hi hr hrw => ?_⟩
        by_cases hin : i < n
        · exact hle i r hin hr hrw
        · obtain rfl : i = n := by omega
          rw [hp] at hr; cases hr; exact absurd hrw hw
/-- The root port; none, if the root vector is the own one. -/
def rootP (br : Int) (l : List Inf) : Option Nat := if rootV br l = mineR br then none else portN br (rootV br l) l l.length
theorem rootP_none {br : Int} {l : List Inf} : rootP br l = none ↔ rootV br l = mineR br := by
  unfold rootP
  by_cases h : rootV br l = mineR br
  · rw [if_pos h]; exact ⟨fun _ => h, fun _ => rfl⟩
  · rw [if_neg h]
    refine ⟨fun hn => ?_, fun e => absurd e h⟩
    rcases (root_is br l).is with h1 | ⟨p, hp, hw⟩
    · exact h1
    · obtain ⟨i, hi⟩ := List.getElem?_of_mem hp
      exact absurd hw ((port_spec br _ l _ (Nat.le_refl _)).1 hn i p (List.getElem?_eq_some_iff.1 hi).1 hi)
theorem rootP_some {br : Int} {l : List Inf} {o : Nat} (h : rootP br l = some o) : IsPort br (rootV br l) l l.length o := by
  unfold rootP at h
  by_cases e : rootV br l = mineR br
  · rw [if_pos e] at h; cases h
  · rw [if_neg e] at h
    exact (port_spec br _ l _ (Nat.le_refl _)).2 o h
/-- No Id twice. -/
def Apart (l : List Inf) : Prop := ∀ (i j : Nat) (p q : Inf), l[i]? = some p → l[j]? = some q → p.id = q.id → i = j
theorem port_one {br : Int} {v : Vc} {l : List Inf} (ha : Apart l) {o o' : Nat} (h : IsPort br v l l.length o) (k : IsPort br v l l.length o') : o = o' := by
  obtain ⟨h1, q, hq, hqw, hle⟩ := h
  obtain ⟨k1, r, hr, hrw, kle⟩ := k
  have a := hle o' r k1 hr hrw
  have b := kle o q h1 hq hqw
  exact ha o o' q r hq hr (by omega)
theorem at_turned {l : List Inf} {i : Nat} (h : i < l.length) : l.reverse[l.length - 1 - i]? = l[i]? := by
  rw [List.getElem?_reverse (by omega)]
  congr 1
  omega
theorem apart_turned {l : List Inf} (h : Apart l) : Apart l.reverse := by
  intro i j p q hi hj e
  have h1 := (List.getElem?_eq_some_iff.1 hi).1
  have h2 := (List.getElem?_eq_some_iff.1 hj).1
  rw [List.length_reverse] at h1 h2
  rw [List.getElem?_reverse h1] at hi
  rw [List.getElem?_reverse h2] at hj
  have := h _ _ p q hi hj e
  omega
/-- The root port, told in the other order, is the same port. -/
theorem rootP_turned {br : Int} {l : List Inf} (ha : Apart l) {i : Nat} (h : i < l.length) : (rootP br l.reverse = some (l.length - 1 - i)) ↔ rootP br l = some i := by
  have key : ∀ (m : List Inf), Apart m → ∀ o, o < m.length → rootP br m = some o → rootP br m.reverse = some (m.length - 1 - o) := by
    intro m hm o ho hp
    obtain ⟨h1, q, hq, hqw, hle⟩ := rootP_some hp
    cases hr : rootP br m.reverse with
    | none =>
      rw [rootP_none, root_turned] at hr
      rw [rootP_none.2 hr] at hp
      cases hp
    | some o' =>
      have k := rootP_some hr
      rw [root_turned] at k
      have k2 : IsPort br (rootV br m) m.reverse m.reverse.length (m.length - 1 - o) := by
        refine ⟨by rw [List.length_reverse]; omega, q, by rw [at_turned ho]; exact hq, hqw, fun j p hj hpj hpw => ?_⟩
        rw [List.length_reverse] at hj
        rw [List.getElem?_reverse hj] at hpj
        exact hle _ p (by omega) hpj hpw
      rw [port_one (apart_turned hm) k k2]
  constructor
  · intro hp
    have := key l.reverse (apart_turned ha) _ (by rw [List.length_reverse]; omega) hp
    rw [List.reverse_reverse, List.length_reverse] at this
    rw [this]
    congr 1
    omega
  · exact key l ha i h

/-- A port's role, where the root vector is v; is it the root port? -/
def roleR (br : Int) (v : Vc) (isP : Bool) (p : Inf) : Int :=
  if p.source = 0 then 0 else if p.source < 3 then 2 else if isP then 1 else if cmpR ⟨v.root, v.cost, br, p.id⟩ p.vec < 0 then 2 else if ownB p.vec br then 4 else 3
def roleAt (br : Int) (l : List Inf) (i : Nat) (p : Inf) : Int := roleR br (rootV br l) (decide (rootP br l = some i)) p
theorem role_turned {br : Int} {l : List Inf} (ha : Apart l) {i : Nat} (h : i < l.length) (p : Inf) : roleAt br l.reverse (l.length - 1 - i) p = roleAt br l i p := by
  unfold roleAt
  rw [root_turned, decide_eq_decide.2 (rootP_turned ha h)]

/-- May this be known of a port? -/
def infB (p : Inf) : Bool := decide ((1 ≤ p.id ∧ p.id ≤ 65535) ∧ p.cost ≤ 4294967295 ∧ (0 ≤ p.source ∧ p.source ≤ 3) ∧ p.vec.cost ≤ 4294967295 ∧ (p.source < 3 → p.vec = zeroV))
/-- May these be? -/
def rightR (l : List Inf) : Bool := decide (l.length ≤ 16) && l.all infB && decide (l.Pairwise (fun p q => ¬ p.id = q.id))
theorem right_apart {l : List Inf} (h : rightR l = true) : Apart l := by
  unfold rightR at h
  simp only [Bool.and_eq_true, decide_eq_true_eq] at h
  have hp := List.pairwise_iff_getElem.1 h.2
  intro i j p q hi hj e
  obtain ⟨h1, rfl⟩ := List.getElem?_eq_some_iff.1 hi
  obtain ⟨h2, rfl⟩ := List.getElem?_eq_some_iff.1 hj
  rcases Nat.lt_trichotomy i j with k | k | k
  · exact absurd e (hp i j h1 h2 k)
  · exact k
  · exact absurd e.symm (hp j i h2 h1 k)
theorem right_each {l : List Inf} (h : rightR l = true) {p : Inf} (hp : p ∈ l) : infB p = true := by
  unfold rightR at h
  simp only [Bool.and_eq_true, List.all_eq_true] at h
  exact h.1.2 p hp
theorem right_len {l : List Inf} (h : rightR l = true) : l.length ≤ 16 := by
  unfold rightR at h
  simp only [Bool.and_eq_true, decide_eq_true_eq] at h
  exact h.1.1
end Rm
end Go.Proofs.Ytlfmjinllffifaa

namespace Go.Proofs.Ytlfmjinllffifaa
set_option linter.unusedVariables false
set_option linter.unusedSimpArgs false
open Vm
namespace Rm

theorem way_some {br : Int} {p : Inf} {w : Vc} (h : wayR br p = some w) : p.source = 3 ∧ ownB p.vec br = false ∧ raiseR p.vec p.cost = w := by
  unfold wayR at h
  split at h
  · rename_i hc
    cases h
    exact ⟨hc.1, hc.2, rfl⟩
  · cases h
theorem way_of {br : Int} {p : Inf} (h : p.source = 3) (k : ownB p.vec br = false) : wayR br p = some (raiseR p.vec p.cost) := by unfold wayR; rw [if_pos ⟨h, k⟩]
theorem inf_source {p : Inf} (h : infB p = true) : 0 ≤ p.source ∧ p.source ≤ 3 := by
  unfold infB at h
  exact (of_decide_eq_true h).2.2.1
theorem role_0 {br : Int} {v : Vc} {b : Bool} {p : Inf} (h : p.source = 0) : roleR br v b p = 0 := by unfold roleR; rw [if_pos h]
theorem role_mid {br : Int} {v : Vc} {b : Bool} {p : Inf} (h : ¬ p.source = 0) (k : p.source < 3) : roleR br v b p = 2 := by unfold roleR; rw [if_neg h, if_pos k]
theorem role_root {br : Int} {v : Vc} {p : Inf} (k : p.source = 3) : roleR br v true p = 1 := by unfold roleR; rw [if_neg (by omega), if_neg (by omega), if_pos rfl]
theorem role_desig {br : Int} {v : Vc} {p : Inf} (k : p.source = 3) (h : cmpR ⟨v.root, v.cost, br, p.id⟩ p.vec < 0) : roleR br v false p = 2 := by
  unfold roleR; rw [if_neg (by omega), if_neg (by omega), if_neg Bool.false_ne_true, if_pos h]
theorem role_backup {br : Int} {v : Vc} {p : Inf} (k : p.source = 3) (h : ¬ cmpR ⟨v.root, v.cost, br, p.id⟩ p.vec < 0) (ho : ownB p.vec br = true) : roleR br v false p = 4 := by
  unfold roleR; rw [if_neg (by omega), if_neg (by omega), if_neg Bool.false_ne_true, if_neg h, if_pos ho]
theorem role_alt {br : Int} {v : Vc} {p : Inf} (k : p.source = 3) (h : ¬ cmpR ⟨v.root, v.cost, br, p.id⟩ p.vec < 0) (ho : ownB p.vec br = false) : roleR br v false p = 3 := by
  unfold roleR; rw [if_neg (by omega), if_neg (by omega), if_neg Bool.false_ne_true, if_neg h, if_neg (by rw [ho]; exact Bool.false_ne_true)]
/-- A role is just one of these. -/
inductive RoleIs (br : Int) (v : Vc) (isP : Bool) (p : Inf) : Int → Prop
  | off : p.source = 0 → RoleIs br v isP p 0
  | mid : ¬ p.source = 0 → p.source < 3 → RoleIs br v isP p 2
  | root : p.source = 3 → isP = true → RoleIs br v isP p 1
  | desig : p.source = 3 → isP = false → cmpR ⟨v.root, v.cost, br, p.id⟩ p.vec < 0 → RoleIs br v isP p 2
  | backup : p.source = 3 → isP = false → ¬ cmpR ⟨v.root, v.cost, br, p.id⟩ p.vec < 0 → ownB p.vec br = true → RoleIs br v isP p 4
  | alt : p.source = 3 → isP = false → ¬ cmpR ⟨v.root, v.cost, br, p.id⟩ p.vec < 0 → ownB p.vec br = false → RoleIs br v isP p 3
theorem role_is (br : Int) (v : Vc) (isP : Bool) (p : Inf) (h0 : 0 ≤ p.source) (h3 : p.source ≤ 3) : RoleIs br v isP p (roleR br v isP p) := by
  by_cases z : p.source = 0
  · rw [role_0 z]; exact .off z
  by_cases m : p.source < 3
  · rw [role_mid z m]; exact .mid z m
  have k : p.source = 3 := by omega
  cases isP with
  | true => rw [role_root k]; exact .root k rfl
  | false =>
    by_cases c : cmpR ⟨v.root, v.cost, br, p.id⟩ p.vec < 0
    · rw [role_desig k c]; exact .desig k rfl c
    · cases ho : ownB p.vec br with
      | true => rw [role_backup k c ho]; exact .backup k rfl c ho
      | false => rw [role_alt k c ho]; exact .alt k rfl c ho
/-- The root port's place, as a number. -/
def portI (o : Option Nat) : Int := match o with | some i => i | none => -1
theorem portI_neg {o : Option Nat} : portI o < 0 ↔ o = none := by
  cases o with
  | none => exact ⟨fun _ => rfl, fun _ => by show (-1 : Int) < 0; omega⟩
  | some i => exact ⟨fun h => by have : (i : Int) < 0 := h; omega, fun h => by cases h⟩
theorem portI_eq {o : Option Nat} {i : Nat} : portI o = (i : Int) ↔ o = some i := by
  cases o with
  | none => exact ⟨fun h => by have : (-1 : Int) = (i : Int) := h; omega, fun h => by cases h⟩
  | some j => exact ⟨fun h => by have : (j : Int) = (i : Int) := h; congr 1; omega, fun h => by cases h; rfl⟩
/-- How many root ports there are among the first n. -/
def rootsN (o : Option Nat) (n : Nat) : Nat := match o with | some i => if i < n then 1 else 0 | none => 0
theorem roots_zero (o : Option Nat) : rootsN o 0 = 0 := by
  cases o with
  | none => rfl
  | some i => show (if i < 0 then 1 else 0) = 0; rw [if_neg (Nat.not_lt_zero i)]
theorem roots_next (o : Option Nat) (n : Nat) : rootsN o (n + 1) = rootsN o n + if o = some n then 1 else 0 := by
  cases o with
  | none => rfl
  | some i =>
    show (if i < n + 1 then 1 else 0) = (if i < n then 1 else 0) + _
    by_cases e : i = n
    · subst e; rw [if_pos (by omega), if_neg (by omega), if_pos rfl]
    · by_cases h : i < n
      · rw [if_pos (by omega), if_pos h, if_neg (fun c => e (by cases c; rfl))]
      · rw [if_neg (by omega), if_neg h, if_neg (fun c => e (by cases c; rfl))]
theorem roots_all {br : Int} {l : List Inf} : rootsN (rootP br l) l.length ≤ 1 ∧ (rootsN (rootP br l) l.length = 1 ↔ 0 ≤ portI (rootP br l)) := by
  cases h : rootP br l with
  | none => exact ⟨Nat.zero_le _, ⟨nofun, fun e => by have : (0 : Int) ≤ -1 := e; omega⟩⟩
  | some i =>
    have hi := (rootP_some h).lt
    show (if i < l.length then 1 else 0) ≤ 1 ∧ ((if i < l.length then 1 else 0) = 1 ↔ 0 ≤ (i : Int))
    rw [if_pos hi]
    exact ⟨Nat.le_refl _, ⟨fun _ => by omega, fun _ => rfl⟩⟩
/-- The root port heard; its way is the root's. -/
theorem rootP_way {br : Int} {l : List Inf} {i : Nat} {p : Inf} (h : rootP br l = some i) (hp : l[i]? = some p) : p.source = 3 ∧ ownB p.vec br = false ∧ raiseR p.vec p.cost = rootV br l := by
  obtain ⟨_, q, hq, hw, _⟩ := rootP_some h
  rw [hp] at hq
  cases hq
  exact way_some hw
/-- A bridge that heard nothing. -/
def deafR (p : Inf) : Inf := ⟨p.id, p.cost, min p.source 2, zeroV⟩
theorem deaf_way (br : Int) (p : Inf) : wayR br (deafR p) = none := by
  unfold wayR deafR
  rw [if_neg]
  intro h
  have : min p.source 2 = 3 := h.1
  omega
theorem deaf_root (br : Int) (l : List Inf) : rootV br (l.map deafR) = mineR br := root_deaf (fun p hp => by obtain ⟨q, _, rfl⟩ := List.mem_map.1 hp; exact deaf_way br q)
theorem deaf_port (br : Int) (l : List Inf) : rootP br (l.map deafR) = none := rootP_none.2 (deaf_root br l)
theorem deaf_inf {p : Inf} (h : infB p = true) : infB (deafR p) = true := by
  unfold infB at h ⊢
  obtain ⟨h1, h2, h3, h4, h5⟩ := of_decide_eq_true h
  refine decide_eq_true ⟨h1, h2, ?_, ?_, fun _ => rfl⟩
  · show 0 ≤ min p.source 2 ∧ min p.source 2 ≤ 3
    omega
  · show (0 : Int) ≤ 4294967295
    omega
theorem deaf_right {l : List Inf} (h : rightR l = true) : rightR (l.map deafR) = true := by
  unfold rightR at h ⊢
  simp only [Bool.and_eq_true, decide_eq_true_eq, List.all_eq_true] at h ⊢
  obtain ⟨⟨h1, h2⟩, h3⟩ := h
  refine ⟨⟨by rw [List.length_map]; exact h1, fun p hp => ?_⟩, ?_⟩
  · obtain ⟨q, hq, rfl⟩ := List.mem_map.1 hp
    exact deaf_inf (h2 q hq)
  · rw [List.pairwise_map]
    exact h3
theorem turned_right {l : List Inf} (h : rightR l = true) : rightR l.reverse = true := by
  unfold rightR at h ⊢
  simp only [Bool.and_eq_true, decide_eq_true_eq, List.all_eq_true] at h ⊢
  obtain ⟨⟨h1, h2⟩, h3⟩ := h
  refine ⟨⟨by rw [List.length_reverse]; exact h1, fun p hp => h2 p (List.mem_reverse.1 hp)⟩, ?_⟩
  rw [List.pairwise_reverse]
  exact h3.imp (fun hne e => hne e.symm)
theorem deaf_role {br : Int} {v : Vc} (p : Inf) (h : infB p = true) : roleR br v false (deafR p) = if p.source = 0 then 0 else 2 := by
  have hs := inf_source h
  by_cases z : p.source = 0
  · rw [if_pos z]; exact role_0 (show min p.source 2 = 0 by omega)
  · rw [if_neg z]; exact role_mid (show ¬ min p.source 2 = 0 by omega) (show min p.source 2 < 3 by omega)
end Rm
end Go.Proofs.Ytlfmjinllffifaa

namespace Go.Proofs.Ytlfmjinllffifaa
set_option linter.unusedVariables false
set_option linter.unusedSimpArgs false
open Vm
namespace Rm

/-- The root port among the first k, for the root vector of these. -/
def scanP (br : Int) (l : List Inf) (k : Nat) : Option Nat := if rootV br (l.take k) = mineR br then none else portN br (rootV br (l.take k)) l k
theorem scan_zero (br : Int) (l : List Inf) : rootV br (l.take 0) = mineR br ∧ scanP br l 0 = none := by
  have e : rootV br (l.take 0) = mineR br := rfl
  refine ⟨e, ?_⟩
  unfold scanP
  rw [if_pos e]
theorem scan_end (br : Int) (l : List Inf) : rootV br (l.take l.length) = rootV br l ∧ scanP br l l.length = rootP br l := by
  unfold scanP rootP
  rw [List.take_length]
  exact ⟨rfl, rfl⟩
theorem root_next {br : Int} {l : List Inf} {k : Nat} {p : Inf} (h : l[k]? = some p) : rootV br (l.take (k + 1)) = stepV br (rootV br (l.take k)) p := take_next (stepV br) (mineR br) h
theorem port_next_no {br : Int} {v : Vc} {l : List Inf} {k : Nat} {p : Inf} (h : l[k]? = some p) (hw : ¬ wayR br p = some v) : portN br v l (k + 1) = portN br v l k := by
  rw [portN, h]
  simp only
  rw [if_neg hw]
theorem scan_none {br : Int} {l : List Inf} {k : Nat} {p : Inf} (h : l[k]? = some p) (hw : wayR br p = none) : rootV br (l.take (k + 1)) = rootV br (l.take k) ∧ scanP br l (k + 1) = scanP br l k := by
  have e : rootV br (l.take (k + 1)) = rootV br (l.take k) := by rw [root_next h]; unfold stepV; rw [hw]
  refine ⟨e, ?_⟩
  unfold scanP
  rw [e, port_next_no h (by rw [hw]; exact nofun)]
theorem scan_more {br : Int} {l : List Inf} {k : Nat} {p : Inf} {w : Vc} (h : l[k]? = some p) (hw : wayR br p = some w) (hc : 0 < cmpR w (rootV br (l.take k))) : rootV br (l.take (k + 1)) = rootV br (l.take k) ∧ scanP br l (k + 1) = scanP br l k := by
  have e : rootV br (l.take (k + 1)) = rootV br (l.take k) := by
    rw [root_next h]; unfold stepV; rw [hw]; simp only
    rw [if_neg (by omega)]
  refine ⟨e, ?_⟩
  unfold scanP
  rw [e, port_next_no h]
  rw [hw]
  intro he
  cases he
  rw [cmp_self] at hc
  omega
theorem root_take_way {br : Int} {l : List Inf} {k i : Nat} {p : Inf} {w : Vc} (hi : i < k) (h : l[i]? = some p) (hw : wayR br p = some w) : cmpR (rootV br (l.take k)) w ≤ 0 :=
  (root_is br (l.take k)).way p (List.mem_of_getElem? (by rw [List.getElem?_take_of_lt hi]; exact h)) w hw
theorem scan_less {br : Int} {l : List Inf} {k : Nat} {p : Inf} {w : Vc} (h : l[k]? = some p) (hw : wayR br p = some w) (hc : cmpR w (rootV br (l.take k)) < 0) : rootV br (l.take (k + 1)) = w ∧ scanP br l (k + 1) = some k := by
  have e : rootV br (l.take (k + 1)) = w := by
    rw [root_next h]; unfold stepV; rw [hw]; simp only
    rw [if_pos hc]
  refine ⟨e, ?_⟩
  have hk : k < l.length := (List.getElem?_eq_some_iff.1 h).1
  have hm : ¬ w = mineR br := by
    rintro rfl
    have h1 := (root_is br (l.take k)).own
    have h2 := cmp_neg (mineR br) (rootV br (l.take k))
    omega
  unfold scanP
  rw [e, if_neg hm, portN, h]
  simp only
  rw [if_pos hw]
  have hp : portN br w l k = none := by
    cases ho : portN br w l k with
    | none => rfl
    | some o =>
      obtain ⟨hlt, q, hq, hqw, _⟩ := (port_spec br w l k (by omega)).2 o ho
      have h1 := root_take_way hlt hq hqw
      have h2 := cmp_neg w (rootV br (l.take k))
      omega
  rw [hp]
theorem scan_eq {br : Int} {l : List Inf} {k : Nat} {p : Inf} {w : Vc} (h : l[k]? = some p) (hw : wayR br p = some w) (hc : cmpR w (rootV br (l.take k)) = 0) : rootV br (l.take k) = w ∧ rootV br (l.take (k + 1)) = w := by
  have e0 : w = rootV br (l.take k) := cmp_zero.1 hc
  refine ⟨e0.symm, ?_⟩
  rw [root_next h]; unfold stepV; rw [hw]; simp only
  rw [if_neg (by omega)]
  exact e0.symm
theorem scan_same_none {br : Int} {l : List Inf} {k : Nat} {p : Inf} {w : Vc} (h : l[k]? = some p) (hw : wayR br p = some w) (hc : cmpR w (rootV br (l.take k)) = 0) (ho : scanP br l k = none) : rootV br (l.take (k + 1)) = rootV br (l.take k) ∧ scanP br l (k + 1) = none := by
  obtain ⟨e0, e1⟩ := scan_eq h hw hc
  refine ⟨e1.trans e0.symm, ?_⟩
  have hk : k < l.length := (List.getElem?_eq_some_iff.1 h).1
  unfold scanP at ho ⊢
  rw [e1]
  rw [e0] at ho
  by_cases hm : w = mineR br
  · rw [if_pos hm]
  · exfalso
    rw [if_neg hm] at ho
    rcases (root_is br (l.take k)).is with h1 | ⟨q, hq, hqw⟩
    · exact hm (e0.symm.trans h1)
    · rw [e0] at hqw
      obtain ⟨i, hi⟩ := List.getElem?_of_mem hq
      have hik := (List.getElem?_eq_some_iff.1 hi).1
      rw [List.length_take] at hik
      rw [List.getElem?_take_of_lt (by omega)] at hi
      exact (port_spec br w l k (by omega)).1 ho i q (by omega) hi hqw
theorem scan_same_some {br : Int} {l : List Inf} {k j : Nat} {p q : Inf} {w : Vc} (h : l[k]? = some p) (hw : wayR br p = some w) (hc : cmpR w (rootV br (l.take k)) = 0) (ho : scanP br l k = some j) (hq : l[j]? = some q) : rootV br (l.take (k + 1)) = rootV br (l.take k) ∧ rootV br (l.take k) = w ∧ scanP br l (k + 1) = if p.id < q.id then some k else some j := by
  obtain ⟨e0, e1⟩ := scan_eq h hw hc
  refine ⟨e1.trans e0.symm, e0, ?_⟩
  unfold scanP at ho ⊢
  rw [e1]
  rw [e0] at ho
  by_cases hm : w = mineR br
  · rw [if_pos hm] at ho; cases ho
  · rw [if_neg hm] at ho ⊢
    rw [portN, h]
    simp only
    rw [if_pos hw, ho]
    simp only [hq]
theorem scan_lt {br : Int} {l : List Inf} {k j : Nat} (hk : k ≤ l.length) (ho : scanP br l k = some j) : j < k := by
  unfold scanP at ho
  split at ho
  · cases ho
  · exact ((port_spec br _ l k hk).2 j ho).lt
end Rm
end Go.Proofs.Ytlfmjinllffifaa

namespace Go.Proofs.Ytlfmjinllffifaa
set_option linter.unusedVariables false
set_option linter.unusedSimpArgs false
namespace Im
open Vm Rm Bm

/-- Times, in ticks. -/
structure Tm where
  age : Int
  max : Int
  hello : Int
  delay : Int
deriving DecidableEq
set_option maxRecDepth 100000 in
/-- What a port knows: 61 cells. -/
structure Pt where
  id : Int
  cost : Int
  on : Bool
  admin : Bool
  oper : Bool
  source : Int
  vec : Vc
  times : Tm
  offer : Vc
  given : Tm
  role : Int
  selected : Int
  ready : Bool
  update : Bool
  reselect : Bool
  learn : Bool
  learning : Bool
  forward : Bool
  forwarding : Bool
  agree : Bool
  agreed : Bool
  proposed : Bool
  proposing : Bool
  sync : Bool
  synced : Bool
  reroot : Bool
  disputed : Bool
  newInfo : Bool
  heardTc : Bool
  heardTcn : Bool
  heardAck : Bool
  tcAck : Bool
  tcProp : Bool
  flush : Bool
  sendRstp : Bool
  heardRstp : Bool
  heardStp : Bool
  check : Bool
  fd : Int
  rr : Int
  rb : Int
  tc : Int
  edge : Int
  md : Int
  info : Int
  hello : Int
  txCount : Int
  change : Int
  migrate : Int
deriving DecidableEq

/-! ### Layer 10 -/
def zeroT : Tm := ⟨0, 0, 0, 0⟩
def newP (id cost : Int) (edge : Bool) : Pt :=
  ⟨id, cost, false, edge, edge, 0, zeroV, zeroT, zeroV, zeroT, 0, 0, false, false, false, false, false, false, false, false, false, false, false, false, false, false, false, false, false, false, false, false, false, false, true, false, false, false, 0, 0, 0, 0, 0, 0, 0, 0, 0, 0, 0⟩
def lessI (n : Int) : Int := if 0 < n then n - 1 else n
def tickP (p : Pt) : Pt := { p with fd := lessI p.fd, rr := lessI p.rr, rb := lessI p.rb, tc := lessI p.tc, edge := lessI p.edge, md := lessI p.md, info := lessI p.info, hello := lessI p.hello, txCount := lessI p.txCount }
def vecOf (b : Bp) : Vc := ⟨b.root, b.cost, b.bridge, b.port⟩
def timesOf (b : Bp) : Tm := ⟨b.age / 256, b.max / 256, if b.hello / 256 < 1 then 1 else b.hello / 256, b.delay / 256⟩
/-- Is it heard at all? -/
def heardB (b : Bp) : Bool := rightB b && !decide (b.kind = 2)
def roleF (flags : Int) : Int := flags / 4 % 4
/-- What was heard: 0 to 4. -/
def heardP (p : Pt) (b : Bp) : Int :=
  if heardB b = false then 0
  else if b.kind = 1 ∨ roleF b.flags = 3 then
    (if p.source = 3 ∧ vecOf b = p.vec ∧ timesOf b = p.times then 2 else if superB (vecOf b) p.vec = true then 1 else 3)
  else if ¬ roleF b.flags = 0 ∧ ¬ cmpR (vecOf b) p.vec = -1 then 4 else 0
theorem heard_range (p : Pt) (b : Bp) : 0 ≤ heardP p b ∧ heardP p b ≤ 4 := by
  unfold heardP
  repeat' split
  all_goals omega

/-! ### Layer 11 -/
def bitB (flags : Int) (n : Nat) : Bool := decide (flags / 2 ^ n % 2 = 1)
def powerP (p : Pt) (on : Bool) : Pt :=
  if on = p.on then p
  else if on then { p with on := true, source := 1, reselect := true, ready := false }
  else { p with on := false, source := 0, proposing := false, proposed := false, agree := false, agreed := false, info := 0, reselect := true, ready := false, oper := p.admin }
/-- Behind what was heard, but for what it was. -/
def firstP (p : Pt) (b : Bp) : Pt := { p with heardRstp := p.heardRstp || decide (b.kind = 3), heardStp := p.heardStp || !decide (b.kind = 3), oper := false }
/-- What is recorded of 1 and 2. -/
def recordP (p : Pt) (b : Bp) : Pt :=
  { p with
    proposed := p.proposed || (decide (b.kind = 3) && bitB b.flags 1)
    heardTc := p.heardTc || bitB b.flags 0
    heardAck := p.heardAck || (!decide (b.kind = 3) && bitB b.flags 7)
    info := if (timesOf b).age + 1 > (timesOf b).max then 0 else 3 * (timesOf b).hello }
def superP (p : Pt) (b : Bp) : Pt :=
  { recordP { p with agreed := false, proposing := false } b with
    agree := p.agree && decide (vecOf b = p.vec)
    synced := p.synced && decide (vecOf b = p.vec)
    vec := vecOf b
    times := timesOf b
    source := 3
    reselect := true
    ready := false }
def inferiorP (p : Pt) (b : Bp) : Pt := if b.kind = 3 ∧ bitB b.flags 4 = true then { p with disputed := true, agreed := false } else p
def otherP (p : Pt) (b : Bp) : Pt :=
  { p with
    agreed := p.agreed || (decide (b.kind = 3) && p.sendRstp && bitB b.flags 6)
    proposing := p.proposing && !(decide (b.kind = 3) && p.sendRstp && bitB b.flags 6)
    heardTc := p.heardTc || bitB b.flags 0 }
def hearP (p : Pt) (b : Bp) : Pt :=
  if p.on = false ∨ heardB b = false then p
  else match heardP p b with
    | 1 => superP (firstP p b) b
    | 2 => recordP (firstP p b) b
    | 3 => inferiorP (firstP p b) b
    | 4 => otherP (firstP p b) b
    | _ => firstP p b
def ageP (p : Pt) : Pt := if p.source = 3 ∧ p.info = 0 ∧ p.update = false then { p with source := 1, reselect := true, ready := false } else p
def settleP (p : Pt) : Pt :=
  if p.ready = true ∧ p.update = true then
    { p with
      proposing := false
      proposed := false
      agreed := p.agreed && decide (p.offer = p.vec)
      synced := p.synced && (p.agreed && decide (p.offer = p.vec))
      vec := p.offer
      times := p.given
      update := false
      source := 2
      newInfo := true }
  else p

/-! What InfoOff asks. -/
theorem off_on (p : Pt) : (powerP p false).on = false := by
  unfold powerP
  cases h : p.on
  · rw [if_pos rfl, h]
  · rw [if_neg (by simp), if_neg (by simp)]
theorem power_same {p : Pt} {c : Bool} (h : p.on = c) : powerP p c = p := by unfold powerP; rw [if_pos h.symm]
theorem off_off (p : Pt) : powerP (powerP p false) false = powerP p false := power_same (off_on p)
theorem off_hears (p : Pt) (b : Bp) : hearP (powerP p false) b = powerP p false := by
  unfold hearP
  rw [if_pos (.inl (off_on p))]
theorem off_was {p : Pt} (h : p.on = false) : powerP p false = p := power_same h
theorem on_is (p : Pt) : powerP (powerP p false) true = { powerP p false with on := true, source := 1, reselect := true, ready := false } := by
  have h := off_on p
  rw [show powerP (powerP p false) true = if true = (powerP p false).on then powerP p false else if true then { powerP p false with on := true, source := 1, reselect := true, ready := false } else _ from rfl]
  rw [if_neg (by rw [h]; simp), if_pos rfl]
theorem off_is {p : Pt} (h : p.on = true) : powerP p false = { p with on := false, source := 0, proposing := false, proposed := false, agree := false, agreed := false, info := 0, reselect := true, ready := false, oper := p.admin } := by
  unfold powerP
  rw [if_neg (by rw [h]; simp), if_neg (by simp)]

/-! Settling. -/
theorem settle_update (p : Pt) (h : p.ready = true) : (settleP p).update = false := by
  unfold settleP
  by_cases hu : p.update = true
  · rw [if_pos ⟨h, hu⟩]
  · rw [if_neg (fun c => hu c.2)]
    cases hc : p.update
    · rfl
    · exact absurd hc hu
theorem settle_again (p : Pt) (h : p.ready = true) : settleP (settleP p) = settleP p := by
  have hu := settle_update p h
  obtain ⟨q, hq⟩ : ∃ q, settleP p = q := ⟨_, rfl⟩
  rw [hq] at hu ⊢
  unfold settleP
  rw [if_neg (fun c => by rw [hu] at c; cases c.2)]
theorem settle_is {p : Pt} (h : p.ready = true) (hu : p.update = true) : (settleP p).vec = p.offer ∧ (settleP p).source = 2 := by
  unfold settleP
  rw [if_pos ⟨h, hu⟩]
  exact ⟨rfl, rfl⟩

/-! ### Choosing -/
def rightBr (t : Tm) : Bool := decide (t.age = 0 ∧ (6 ≤ t.max ∧ t.max ≤ 40) ∧ (1 ≤ t.hello ∧ t.hello ≤ 2) ∧ 4 ≤ t.delay ∧ t.delay ≤ 30)
def infP (p : Pt) : Inf := ⟨p.id, p.cost, if p.on then p.source else 0, if (if p.on then p.source else 0) = 3 then p.vec else zeroV⟩
def infosP (l : List Pt) : List Inf := l.map infP
/-- One more, as numbers of 64 bits are counted. -/
def inc64 (n : Int) : Int := if n = 9223372036854775807 then -9223372036854775808 else n + 1
def givenP (br : Int) (t : Tm) (l : List Pt) : Tm := match rootP br (infosP l) with
  | none => t
  | some k => match l[k]? with | some p => { p.times with age := inc64 p.times.age } | none => t
def mayB (br : Int) (t : Tm) (l : List Pt) : Bool := l.any Pt.reselect && (rightBr t && rightR (infosP l))
def chosenP (br : Int) (v : Vc) (gv : Tm) (sel : Int) (p : Pt) : Pt :=
  { p with
    reselect := false
    ready := true
    offer := ⟨v.root, v.cost, br, p.id⟩
    given := gv
    selected := sel
    update := decide ((infP p).source = 1) || (decide ((infP p).source = 2) && !(decide (p.vec = ⟨v.root, v.cost, br, p.id⟩) && decide (p.times = gv))) || (decide ((infP p).source = 3) && decide (sel = 2)) }
end Im
end Go.Proofs.Ytlfmjinllffifaa

namespace Go.Proofs.Ytlfmjinllffifaa
set_option linter.unusedVariables false
set_option linter.unusedSimpArgs false
namespace Im
open Vm Rm Bm

def chooseAt (br : Int) (t : Tm) (l : List Pt) (i : Nat) (p : Pt) : Pt := chosenP br (rootV br (infosP l)) (givenP br t l) (roleAt br (infosP l) i (infP p)) p
def chooseP (br : Int) (t : Tm) (l : List Pt) : List Pt × Bool := if mayB br t l = true then (l.mapIdx (chooseAt br t l), true) else (l, false)
theorem choose_not {br : Int} {t : Tm} {l : List Pt} (h : mayB br t l = false) : chooseP br t l = (l, false) := by unfold chooseP; rw [if_neg (by rw [h]; simp)]
theorem choose_may {br : Int} {t : Tm} {l : List Pt} (h : mayB br t l = true) : chooseP br t l = (l.mapIdx (chooseAt br t l), true) := by unfold chooseP; rw [if_pos h]
theorem choose_ok (br : Int) (t : Tm) (l : List Pt) : (chooseP br t l).2 = mayB br t l := by
  cases h : mayB br t l with
  | false => rw [choose_not h]
  | true => rw [choose_may h]
theorem choose_len (br : Int) (t : Tm) (l : List Pt) : (chooseP br t l).1.length = l.length := by
  cases h : mayB br t l with
  | false => rw [choose_not h]
  | true => rw [choose_may h]; simp
theorem choose_at {br : Int} {t : Tm} {l : List Pt} (h : mayB br t l = true) {i : Nat} {p : Pt} (hp : l[i]? = some p) : (chooseP br t l).1[i]? = some (chooseAt br t l i p) := by
  rw [choose_may h]
  simp [hp]
/-- Behind a choosing none is to be chosen anew. -/
theorem chosen_rests {br : Int} {t : Tm} {l : List Pt} (h : mayB br t l = true) : (chooseP br t l).1.any Pt.reselect = false := by
  rw [List.any_eq_false]
  intro p hp
  obtain ⟨i, hi⟩ := List.getElem?_of_mem hp
  have hl : i < l.length := by
    have := (List.getElem?_eq_some_iff.1 hi).1
    rw [choose_len] at this
    exact this
  have := choose_at h (List.getElem?_eq_getElem hl)
  rw [hi] at this
  cases this
  simp [chooseAt, chosenP]
/-- Choosing again changes nothing. -/
theorem choose_again (br : Int) (t : Tm) (l : List Pt) : chooseP br t (chooseP br t l).1 = ((chooseP br t l).1, false) := by
  cases h : mayB br t l with
  | false =>
    rw [choose_not h]
    exact choose_not h
  | true =>
    refine choose_not ?_
    unfold mayB
    rw [chosen_rests h]
    rfl
theorem off_source {p : Pt} (h : p.on = false) : (infP p).source = 0 := by unfold infP; simp [h]
/-- A port that is off is selected as disabled. -/
theorem off_role {br : Int} {l : List Pt} {i : Nat} {p : Pt} (h : p.on = false) : roleAt br (infosP l) i (infP p) = 0 := role_0 (off_source h)
theorem infos_at {l : List Pt} {i : Nat} {p : Pt} (h : l[i]? = some p) : (infosP l)[i]? = some (infP p) := by unfold infosP; rw [List.getElem?_map, h]; rfl
/-- It is the root port that is selected as such. -/
theorem root_role {br : Int} {l : List Inf} {i : Nat} {p : Inf} (hr : rightR l = true) (hp : l[i]? = some p) : roleAt br l i p = 1 ↔ rootP br l = some i := by
  have hb := right_each hr (List.mem_of_getElem? hp)
  obtain ⟨h0, h3⟩ := inf_source hb
  unfold roleAt
  constructor
  · intro h
    by_cases hc : rootP br l = some i
    · exact hc
    · exfalso
      rw [decide_eq_false hc] at h
      unfold roleR at h
      revert h
      repeat' split
      all_goals (intro h; first | contradiction | omega | simp_all)
  · intro hc
    rw [decide_eq_true hc]
    exact role_root (rootP_way hc hp).1
theorem roots_step {br : Int} {l : List Inf} {i : Nat} {p : Inf} (hr : rightR l = true) (hp : l[i]? = some p) : rootsN (rootP br l) (i + 1) = rootsN (rootP br l) i + if roleAt br l i p = 1 then 1 else 0 := by
  rw [roots_next]
  by_cases h : rootP br l = some i
  · rw [if_pos h, if_pos ((root_role hr hp).2 h)]
  · rw [if_neg h, if_neg (fun e => h ((root_role hr hp).1 e))]
theorem may_parts {br : Int} {t : Tm} {l : List Pt} (h : mayB br t l = true) : l.any Pt.reselect = true ∧ rightBr t = true ∧ rightR (infosP l) = true := by
  unfold mayB at h
  simp only [Bool.and_eq_true] at h
  exact ⟨h.1, h.2.1, h.2.2⟩
theorem chosen_facts {br : Int} {t : Tm} {l : List Pt} (h : mayB br t l = true) {i : Nat} {p : Pt} (hp : l[i]? = some p) :
    (chooseAt br t l i p).reselect = false ∧ (chooseAt br t l i p).ready = true ∧ (chooseAt br t l i p).on = p.on ∧ (p.on = false → (chooseAt br t l i p).selected = 0) ∧ ((chooseAt br t l i p).selected = 1 ↔ rootP br (infosP l) = some i) :=
  ⟨rfl, rfl, rfl, fun ho => off_role ho, root_role (may_parts h).2.2 (infos_at hp)⟩
end Im
end Go.Proofs.Ytlfmjinllffifaa

namespace Go.Proofs.Ytlfmjinllffifaa
set_option linter.unusedVariables false
set_option linter.unusedSimpArgs false
namespace Im
open Vm Rm Bm

/-- What a move makes of the port itself, and whether it is to sync, or to reroot, all. -/
structure Mv where
  own : Pt
  syncAll : Bool
  rerootAll : Bool

def syncedO (p : Pt) : Bool := p.ready && (decide (p.role = p.selected) && (decide (p.role = 1) || p.synced))
def rerootedO (p : Pt) : Bool := decide (p.rr = 0) || decide (p.role = 1)
/-- All others are so. -/
def othersB (f : Pt → Bool) (l : List Pt) (k : Nat) : Bool := l.zipIdx.all fun x => decide (x.2 = k) || f x.1

def stillB (p : Pt) : Bool := !p.learning && !p.forwarding
def agreesB (so : Bool) (p : Pt) : Bool := (!p.agree && so) || (p.proposed && p.agree)
/-- Of 0, 3 and 4: moves 3 to 6. -/
def blockF (t : Tm) (so : Bool) (p : Pt) : Option Mv :=
  if (!decide (p.role = 0) && (stillB p && (p.proposed && !p.agree))) = true then some ⟨{ p with proposed := false }, true, false⟩
  else if (!decide (p.role = 0) && agreesB so p) = true then some ⟨{ p with proposed := false, agree := true, newInfo := true }, false, false⟩
  else if (stillB p && (!decide (p.fd = if p.role = 0 then t.max else t.delay) || (p.sync || (p.reroot || !p.synced)))) = true then
    some ⟨{ p with fd := if p.role = 0 then t.max else t.delay, synced := true, rr := 0, sync := false, reroot := false }, false, false⟩
  else if (decide (p.role = 4) && !decide (p.rb = 2 * t.hello)) = true then some ⟨{ p with rb := 2 * t.hello }, false, false⟩
  else none
/-- Of 1: moves 7 to 13. -/
def rootF (t : Tm) (so ro : Bool) (p : Pt) : Option Mv :=
  if (p.proposed && !p.agree) = true then some ⟨{ p with proposed := false }, true, false⟩
  else if agreesB so p = true then some ⟨{ p with proposed := false, sync := false, agree := true, newInfo := true }, false, false⟩
  else if ((p.agreed && !p.synced) || (p.sync && p.synced)) = true then some ⟨{ p with synced := true, sync := false }, false, false⟩
  else if (!p.forward && !p.reroot) = true then some ⟨p, false, true⟩
  else if (!decide (p.rr = t.delay)) = true then some ⟨{ p with rr := t.delay }, false, false⟩
  else if (p.reroot && p.forward) = true then some ⟨{ p with reroot := false }, false, false⟩
  else if ((decide (p.fd = 0) || (decide (p.rb = 0) && (p.sendRstp && ro))) && !p.learn) = true then some ⟨{ p with learn := true, fd := t.delay }, false, false⟩
  else if ((decide (p.fd = 0) || (decide (p.rb = 0) && (p.sendRstp && ro))) && !p.forward) = true then some ⟨{ p with forward := true, fd := 0 }, false, false⟩
  else none
def desMay (p : Pt) : Bool := (decide (p.fd = 0) || (p.agreed || p.oper)) && ((decide (p.rr = 0) || !p.reroot) && (!p.sync && !p.disputed))
def desStops (p : Pt) : Bool := (p.sync && !p.synced) || ((p.reroot && !decide (p.rr = 0)) || p.disputed)
/-- Of 2: moves 14 to 18. -/
def desF (t : Tm) (p : Pt) : Option Mv :=
  if (!p.forward && (!p.agreed && (!p.proposing && (!p.oper && p.sendRstp)))) = true then some ⟨{ p with proposing := true, newInfo := true, edge := 3 }, false, false⟩
  else if ((!p.synced && (stillB p || (p.agreed || p.oper))) || (p.sync && p.synced)) = true then some ⟨{ p with rr := 0, synced := true, sync := false }, false, false⟩
  else if (decide (p.rr = 0) && p.reroot) = true then some ⟨{ p with reroot := false }, false, false⟩
  else if (desStops p && (!p.oper && (p.learn || p.forward))) = true then some ⟨{ p with learn := false, forward := false, disputed := false, fd := t.delay }, false, false⟩
  else if (desMay p && !p.learn) = true then some ⟨{ p with learn := true, fd := t.delay }, false, false⟩
  else if (desMay p && !p.forward) = true then some ⟨{ p with forward := true, fd := 0, agreed := p.sendRstp }, false, false⟩
  else none
/-- Moves 1 and 2. -/
def roleF' (t : Tm) (p : Pt) : Option Mv :=
  if p.selected = 0 ∨ p.selected = 3 ∨ p.selected = 4 then some ⟨{ p with role := p.selected, learn := false, forward := false }, false, false⟩
  else if p.selected = 1 then some ⟨{ p with role := 1, rr := t.delay }, false, false⟩
  else if p.selected = 2 then some ⟨{ p with role := 2 }, false, false⟩
  else none
/-- A port's move, by what the others are. -/
def moveF (t : Tm) (so ro : Bool) (p : Pt) : Option Mv :=
  if (p.ready && !p.update) = false then none
  else if ¬ p.selected = p.role then roleF' t p
  else if p.role = 0 ∨ p.role = 3 ∨ p.role = 4 then blockF t so p
  else if p.role = 1 then rootF t so ro p
  else if p.role = 2 then desF t p
  else none
/-- What a move makes of port i. -/
def spreadAt (m : Mv) (k i : Nat) (q : Pt) : Pt :=
  if i = k then { m.own with reroot := m.own.reroot || m.rerootAll }
  else { q with sync := q.sync || m.syncAll, reroot := q.reroot || m.rerootAll }
def moveAtP (t : Tm) (l : List Pt) (k : Nat) : Option (List Pt) :=
  if rightBr t = true then
    match l[k]? with
    | none => none
    | some p => (moveF t (othersB syncedO l k) (othersB rerootedO l k) p).map fun m => l.mapIdx (spreadAt m k)
  else none
def moveP (t : Tm) (l : List Pt) (k : Nat) : List Pt × Bool := match moveAtP t l k with | none => (l, false) | some m => (m, true)
def stateP (p : Pt) : Pt :=
  if p.learn = false then { p with learning := false, forwarding := false }
  else if p.learning = false then { p with forwarding := p.forwarding && p.forward, learning := true }
  else { p with forwarding := p.forward }
/-- Behind the moves and states of the first k ports. -/
def passN (t : Tm) (l : List Pt) : Nat → List Pt
  | 0 => l
  | k + 1 => ((moveP t (passN t l k) k).1).modify k stateP
def passP (t : Tm) (l : List Pt) : List Pt × Bool := (passN t l l.length, !decide (passN t l l.length = l))
/-- Behind n passes, as long as each changes something; and how many did. -/
def restN (t : Tm) : Nat → List Pt → List Pt × Nat
  | 0, l => (l, 0)
  | n + 1, l => if (passP t l).2 = true then ((restN t n (passP t l).1).1, (restN t n (passP t l).1).2 + 1) else (l, 0)
def restP (t : Tm) (l : List Pt) : List Pt × Nat := restN t 200 l

/-! What TransSafe asks. -/
/-- What names a port, and what it was told. -/
structure Kpt (q p : Pt) : Prop where
  id : p.id = q.id
  cost : p.cost = q.cost
  on : p.on = q.on
  source : p.source = q.source
  vec : p.vec = q.vec
  times : p.times = q.times
  selected : p.selected = q.selected
  offer : p.offer = q.offer
  update : p.update = q.update
  ready : p.ready = q.ready
  reselect : p.reselect = q.reselect
  oper : p.oper = q.oper
  txCount : p.txCount = q.txCount
  role : p.role = q.role ∨ p.role = q.selected
theorem Kpt.refl (p : Pt) : Kpt p p := ⟨rfl, rfl, rfl, rfl, rfl, rfl, rfl, rfl, rfl, rfl, rfl, rfl, rfl, .inl rfl⟩
theorem Kpt.trans {a b c : Pt} (h : Kpt a b) (k : Kpt b c) : Kpt a c :=
  ⟨k.id.trans h.id, k.cost.trans h.cost, k.on.trans h.on, k.source.trans h.source, k.vec.trans h.vec, k.times.trans h.times, k.selected.trans h.selected, k.offer.trans h.offer, k.update.trans h.update, k.ready.trans h.ready, k.reselect.trans h.reselect, k.oper.trans h.oper, k.txCount.trans h.txCount, by
    rcases k.role with e | e
    · rw [e]; exact h.role
    · exact .inr (e.trans h.selected)⟩
/-- It learns where it may, and forwards where it may, and learns. -/
def safeB (p : Pt) : Bool := (p.learn || (!p.learning && !p.forwarding)) && ((p.forward || !p.forwarding) && (!p.forwarding || p.learning))
theorem safe_iff (p : Pt) : safeB p = true ↔ ((!p.learn && (p.learning || p.forwarding)) || ((!p.forward && p.forwarding) || (p.forwarding && !p.learning))) = false := by
  unfold safeB
  cases p.learn <;> cases p.learning <;> cases p.forward <;> cases p.forwarding <;> decide
theorem state_safe (p : Pt) : safeB (stateP p) = true := by
  unfold stateP
  by_cases h : p.learn = false
  · rw [if_pos h]; simp [safeB]
  · rw [if_neg h]
    have h' : p.learn = true := by cases hl : p.learn; exact absurd hl h; rfl
    by_cases h2 : p.learning = false
    · rw [if_pos h2]; simp only [safeB, h']; cases p.forwarding <;> cases p.forward <;> decide
    · rw [if_neg h2]
      have h3 : p.learning = true := by cases hl : p.learning; exact absurd hl h2; rfl
      simp only [safeB, h', h3]; cases p.forward <;> decide
theorem state_kept (p : Pt) : Kpt p (stateP p) := by
  unfold stateP
  split
  · exact ⟨rfl, rfl, rfl, rfl, rfl, rfl, rfl, rfl, rfl, rfl, rfl, rfl, rfl, .inl rfl⟩
  · split
    · exact ⟨rfl, rfl, rfl, rfl, rfl, rfl, rfl, rfl, rfl, rfl, rfl, rfl, rfl, .inl rfl⟩
    · exact ⟨rfl, rfl, rfl, rfl, rfl, rfl, rfl, rfl, rfl, rfl, rfl, rfl, rfl, .inl rfl⟩
theorem role_kept {t : Tm} {p : Pt} {m : Mv} (h : roleF' t p = some m) : Kpt p m.own := by
  unfold roleF' at h
  split at h
  · cases h; exact ⟨rfl, rfl, rfl, rfl, rfl, rfl, rfl, rfl, rfl, rfl, rfl, rfl, rfl, .inr rfl⟩
  · split at h
    · rename_i e; cases h; exact ⟨rfl, rfl, rfl, rfl, rfl, rfl, rfl, rfl, rfl, rfl, rfl, rfl, rfl, .inr e.symm⟩
    · split at h
      · rename_i e; cases h; exact ⟨rfl, rfl, rfl, rfl, rfl, rfl, rfl, rfl, rfl, rfl, rfl, rfl, rfl, .inr e.symm⟩
      · cases h
theorem block_kept {t : Tm} {so : Bool} {p : Pt} {m : Mv} (h : blockF t so p = some m) : Kpt p m.own := by
  unfold blockF at h
  repeat' split at h
  all_goals first | (cases h; done) | (cases h; exact ⟨rfl, rfl, rfl, rfl, rfl, rfl, rfl, rfl, rfl, rfl, rfl, rfl, rfl, .inl rfl⟩)
theorem root_kept {t : Tm} {so ro : Bool} {p : Pt} {m : Mv} (h : rootF t so ro p = some m) : Kpt p m.own := by
  unfold rootF at h
  repeat' split at h
  all_goals first | (cases h; done) | (cases h; exact ⟨rfl, rfl, rfl, rfl, rfl, rfl, rfl, rfl, rfl, rfl, rfl, rfl, rfl, .inl rfl⟩)
theorem des_kept {t : Tm} {p : Pt} {m : Mv} (h : desF t p = some m) : Kpt p m.own := by
  unfold desF at h
  repeat' split at h
  all_goals first | (cases h; done) | (cases h; exact ⟨rfl, rfl, rfl, rfl, rfl, rfl, rfl, rfl, rfl, rfl, rfl, rfl, rfl, .inl rfl⟩)
theorem move_kept {t : Tm} {so ro : Bool} {p : Pt} {m : Mv} (h : moveF t so ro p = some m) : Kpt p m.own := by
  unfold moveF at h
  split at h
  · cases h
  · split at h
    · exact role_kept h
    · split at h
      · exact block_kept h
      · split at h
        · exact root_kept h
        · split at h
          · exact des_kept h
          · cases h
/-- What another port's move leaves of a port. -/
theorem spread_other {m : Mv} {k i : Nat} {q : Pt} (hne : ¬ i = k) : Kpt q (spreadAt m k i q) ∧ safeB (spreadAt m k i q) = safeB q := by
  unfold spreadAt
  rw [if_neg hne]
  exact ⟨⟨rfl, rfl, rfl, rfl, rfl, rfl, rfl, rfl, rfl, rfl, rfl, rfl, rfl, .inl rfl⟩, rfl⟩
theorem spread_own {m : Mv} {k : Nat} {q : Pt} (h : Kpt q m.own) : Kpt q (spreadAt m k k q) := by
  unfold spreadAt
  rw [if_pos rfl]
  exact h.trans ⟨rfl, rfl, rfl, rfl, rfl, rfl, rfl, rfl, rfl, rfl, rfl, rfl, rfl, .inl rfl⟩
theorem moveP_len (t : Tm) (l : List Pt) (k : Nat) : (moveP t l k).1.length = l.length := by
  unfold moveP moveAtP
  by_cases h : rightBr t = true
  · rw [if_pos h]
    cases hp : l[k]? with
    | none => rfl
    | some p =>
      dsimp only
      cases moveF t (othersB syncedO l k) (othersB rerootedO l k) p with
      | none => rfl
      | some m => simp
  · rw [if_neg h]
theorem moveP_at {t : Tm} {l : List Pt} {k i : Nat} {q : Pt} (hi : l[i]? = some q) : ∃ p, (moveP t l k).1[i]? = some p ∧ Kpt q p ∧ (¬ i = k → safeB p = safeB q) := by
  unfold moveP moveAtP
  by_cases h : rightBr t = true
  · rw [if_pos h]
    cases hp : l[k]? with
    | none => exact ⟨q, hi, Kpt.refl q, fun _ => rfl⟩
    | some p =>
      dsimp only
      cases hm : moveF t (othersB syncedO l k) (othersB rerootedO l k) p with
      | none => exact ⟨q, hi, Kpt.refl q, fun _ => rfl⟩
      | some m =>
        refine ⟨spreadAt m k i q, by simp [hi], ?_, fun hne => (spread_other hne).2⟩
        by_cases hne : i = k
        · subst hne
          rw [hi] at hp
          cases hp
          exact spread_own (move_kept hm)
        · exact (spread_other hne).1
  · rw [if_neg h]
    exact ⟨q, hi, Kpt.refl q, fun _ => rfl⟩
theorem passN_len (t : Tm) (l : List Pt) : ∀ k, (passN t l k).length = l.length
  | 0 => rfl
  | k + 1 => by
    show ((moveP t (passN t l k) k).1.modify k stateP).length = _
    rw [List.length_modify, moveP_len, passN_len t l k]
theorem passN_at {t : Tm} {l : List Pt} {i : Nat} {q : Pt} (hi : l[i]? = some q) : ∀ k, ∃ p, (passN t l k)[i]? = some p ∧ Kpt q p ∧ (i < k → safeB p = true)
  | 0 => ⟨q, hi, Kpt.refl q, fun h => absurd h (by omega)⟩
  | k + 1 => by
    obtain ⟨p, hp, hk, hs⟩ := passN_at (t := t) hi k
    obtain ⟨r, hr, hk2, hs2⟩ := moveP_at (t := t) (k := k) hp
    show ∃ p, ((moveP t (passN t l k) k).1.modify k stateP)[i]? = some p ∧ _
    rw [List.getElem?_modify, hr]
    by_cases e : k = i
    · subst e
      refine ⟨stateP r, by simp, (hk.trans hk2).trans (state_kept r), fun _ => state_safe r⟩
    · refine ⟨r, by simp [e], hk.trans hk2, fun h => ?_⟩
      rw [hs2 (fun h => e h.symm)]
      exact hs (by omega)
/-- P12.2. -/
theorem pass_safe {t : Tm} {l : List Pt} {i : Nat} {q : Pt} (hi : l[i]? = some q) : ∃ p, (passP t l).1[i]? = some p ∧ Kpt q p ∧ safeB p = true := by
  obtain ⟨p, hp, hk, hs⟩ := passN_at (t := t) hi l.length
  exact ⟨p, hp, hk, hs (List.getElem?_eq_some_iff.1 hi).1⟩
theorem pass_len (t : Tm) (l : List Pt) : (passP t l).1.length = l.length := passN_len t l l.length
theorem rest_len (t : Tm) : ∀ n l, (restN t n l).1.length = l.length
  | 0, l => rfl
  | n + 1, l => by
    unfold restN
    split
    · show (restN t n (passP t l).1).1.length = _
      rw [rest_len t n, pass_len]
    · rfl
/-- Step by step, as a loop goes. -/
theorem restN_step {t : Tm} {n : Nat} {l : List Pt} (h : (passP t l).2 = true) : restN t (n + 1) l = ((restN t n (passP t l).1).1, (restN t n (passP t l).1).2 + 1) := by rw [restN, if_pos h]
theorem restN_stop {t : Tm} {n : Nat} {l : List Pt} (h : (passP t l).2 = false) : restN t (n + 1) l = (l, 0) := by rw [restN, if_neg (by rw [h]; simp)]
end Im
end Go.Proofs.Ytlfmjinllffifaa

namespace Go.Proofs.Ytlfmjinllffifaa
set_option linter.unusedVariables false
set_option linter.unusedSimpArgs false
namespace Im
open Vm Rm Bm

/-- A port counts down anew. -/
def countP (t : Tm) (p : Pt) : Pt :=
  if ¬ p.tc = 0 then p else if p.sendRstp = true then { p with tc := t.hello + 1, newInfo := true } else { p with tc := t.max + t.delay }
def forgetP (p : Pt) : Pt := { p with heardTc := false, heardTcn := false, heardAck := false, tcProp := false }
def inB (p : Pt) : Bool := decide (p.role = 1) || decide (p.role = 2)
def toldB (p : Pt) : Bool := p.heardTc || (p.heardTcn || (p.heardAck || p.tcProp))
/-- Step 6: what it heard. -/
def heedP13 (p : Pt) : Pt := if p.role = 2 then { p with heardTc := false, heardTcn := false, tcAck := true } else { p with heardTc := false, heardTcn := false }
/-- A port's step: what it makes of the port, and whether all others are told. -/
def stepF (t : Tm) (p : Pt) : Option (Pt × Bool) :=
  if (decide (p.change = 0) && (p.learn && !p.flush)) = true then some (forgetP { p with change := 1 }, false)
  else if (decide (p.change = 1) && (inB p && (p.forward && !p.oper))) = true then some ({ countP t p with newInfo := true, change := 2 }, true)
  else if (decide (p.change = 1) && (!inB p && (!p.learn && (!p.learning && !toldB p)))) = true then some ({ p with change := 0, flush := true, tc := 0, tcAck := false }, false)
  else if (decide (p.change = 1) && toldB p) = true then some (forgetP p, false)
  else if (decide (p.change = 2) && (!inB p || p.oper)) = true then some (forgetP { p with change := 1 }, false)
  else if (decide (p.change = 2) && (p.heardTcn || p.heardTc)) = true then some (heedP13 (if p.heardTcn = true then countP t p else p), true)
  else if (decide (p.change = 2) && p.tcProp) = true then some ({ countP t p with flush := true, tcProp := false }, false)
  else if (decide (p.change = 2) && p.heardAck) = true then some ({ p with tc := 0, heardAck := false }, false)
  else none
def tellAt (X : Pt) (tells : Bool) (k i : Nat) (q : Pt) : Pt := if i = k then X else { q with tcProp := q.tcProp || tells }
def stepP (t : Tm) (l : List Pt) (k : Nat) : List Pt × Bool :=
  if rightBr t = true then
    match l[k]? with
    | none => (l, false)
    | some p => match stepF t p with
      | none => (l, false)
      | some m => (l.mapIdx (tellAt m.1 m.2 k), true)
  else (l, false)
/-- At any number at all. -/
def stepI (t : Tm) (l : List Pt) (k : Int) : List Pt × Bool := if 0 ≤ k then stepP t l k.toNat else (l, false)
def cpassN (t : Tm) (l : List Pt) : Nat → List Pt
  | 0 => l
  | k + 1 => (stepP t (cpassN t l k) k).1
def cpassP (t : Tm) (l : List Pt) : List Pt × Bool := (cpassN t l l.length, !decide (cpassN t l l.length = l))
/-- Flush off in all; the Ids of those in which it was on. -/
def offP (p : Pt) : Pt := { p with flush := false }
def flushedP (l : List Pt) : List Pt × List Int := (l.map offP, (l.filter Pt.flush).map Pt.id)

theorem stepP_wrong {t : Tm} {l : List Pt} {k : Nat} (h : rightBr t = false) : stepP t l k = (l, false) := by
  unfold stepP
  rw [if_neg (by rw [h]; decide)]
theorem stepP_out {t : Tm} {l : List Pt} {k : Nat} (h : ¬ k < l.length) : stepP t l k = (l, false) := by
  unfold stepP
  rw [List.getElem?_eq_none (by omega)]
  by_cases hb : rightBr t = true
  · rw [if_pos hb]
  · rw [if_neg hb]
theorem stepP_no {t : Tm} {l : List Pt} {k : Nat} {p : Pt} (hp : l[k]? = some p) (hm : stepF t p = none) : stepP t l k = (l, false) := by
  unfold stepP
  rw [hp]
  by_cases hb : rightBr t = true
  · rw [if_pos hb]
    simp only [hm]
  · rw [if_neg hb]
theorem stepP_yes {t : Tm} {l : List Pt} {k : Nat} {p : Pt} {X : Pt} {T : Bool} (hb : rightBr t = true) (hp : l[k]? = some p) (hm : stepF t p = some (X, T)) : stepP t l k = (l.mapIdx (tellAt X T k), true) := by
  unfold stepP
  rw [if_pos hb, hp]
  simp only [hm]
theorem stepP_len (t : Tm) (l : List Pt) (k : Nat) : (stepP t l k).1.length = l.length := by
  unfold stepP
  split
  · split
    · rfl
    · split
      · rfl
      · simp
  · rfl
theorem cpassN_len (t : Tm) (l : List Pt) : ∀ k, (cpassN t l k).length = l.length
  | 0 => rfl
  | k + 1 => by
    show (stepP t (cpassN t l k) k).1.length = _
    rw [stepP_len, cpassN_len t l k]

/-! What ChangeTells asks. -/
/-- What a step leaves of the port itself. -/
structure Kch (q p : Pt) : Prop where
  role : p.role = q.role
  learn : p.learn = q.learn
  forward : p.forward = q.forward
  learning : p.learning = q.learning
  forwarding : p.forwarding = q.forwarding
  vec : p.vec = q.vec
  source : p.source = q.source
  tcProp : p.tcProp = true → q.tcProp = true
theorem Kch.refl (p : Pt) : Kch p p := ⟨rfl, rfl, rfl, rfl, rfl, rfl, rfl, id⟩
theorem count_kch (t : Tm) (p : Pt) : Kch p (countP t p) := by
  unfold countP
  split
  · exact Kch.refl p
  · split
    · exact ⟨rfl, rfl, rfl, rfl, rfl, rfl, rfl, id⟩
    · exact ⟨rfl, rfl, rfl, rfl, rfl, rfl, rfl, id⟩
theorem step_kch {t : Tm} {p X : Pt} {T : Bool} (h : stepF t p = some (X, T)) : Kch p X := by
  unfold stepF at h
  have c := count_kch t p
  split at h
  · cases h; exact ⟨rfl, rfl, rfl, rfl, rfl, rfl, rfl, fun e => by cases e⟩
  split at h
  · cases h; exact ⟨c.role, c.learn, c.forward, c.learning, c.forwarding, c.vec, c.source, c.tcProp⟩
  split at h
  · cases h; exact ⟨rfl, rfl, rfl, rfl, rfl, rfl, rfl, id⟩
  split at h
  · cases h; exact ⟨rfl, rfl, rfl, rfl, rfl, rfl, rfl, fun e => by cases e⟩
  split at h
  · cases h; exact ⟨rfl, rfl, rfl, rfl, rfl, rfl, rfl, fun e => by cases e⟩
  split at h
  · cases h
    have key : ∀ q, Kch p q → Kch p (heedP13 q) := fun q c => by
      unfold heedP13
      split
      · exact ⟨c.role, c.learn, c.forward, c.learning, c.forwarding, c.vec, c.source, c.tcProp⟩
      · exact ⟨c.role, c.learn, c.forward, c.learning, c.forwarding, c.vec, c.source, c.tcProp⟩
    refine key _ ?_
    split
    · exact c
    · exact Kch.refl p
  split at h
  · cases h; exact ⟨c.role, c.learn, c.forward, c.learning, c.forwarding, c.vec, c.source, fun e => by cases e⟩
  split at h
  · cases h; exact ⟨rfl, rfl, rfl, rfl, rfl, rfl, rfl, id⟩
  · cases h
def mustB13 (p : Pt) : Bool := decide (p.change = 2) && (inB p && (!p.oper && (p.heardTc || p.heardTcn)))
theorem step_must {t : Tm} {p : Pt} (h : mustB13 p = true) : ∃ X, stepF t p = some (X, true) := by
  unfold mustB13 at h
  simp only [Bool.and_eq_true, decide_eq_true_eq, Bool.or_eq_true, Bool.not_eq_true'] at h
  obtain ⟨h1, h2, h3, h4⟩ := h
  have d0 : decide (p.change = 0) = false := by rw [h1]; rfl
  have d1 : decide (p.change = 1) = false := by rw [h1]; rfl
  have d2 : decide (p.change = 2) = true := by rw [h1]; rfl
  have d4 : (p.heardTcn || p.heardTc) = true := by rw [Bool.or_comm]; simpa using h4
  unfold stepF
  rw [d0, d1, d2, h2, h3, d4]
  exact ⟨_, rfl⟩
/-- Behind a step, of a port's own place and of any other. -/
theorem step_at {t : Tm} {l : List Pt} {k i : Nat} {p q : Pt} (hb : rightBr t = true) (hp : l[k]? = some p) (hq : l[i]? = some q) :
    ∃ r, (stepP t l k).1[i]? = some r ∧ (i = k → Kch q r) ∧ (¬ i = k → ∃ T : Bool, r = { q with tcProp := q.tcProp || T } ∧ (mustB13 p = true → T = true)) := by
  cases hs : stepF t p with
  | none =>
    rw [stepP_no hp hs]
    refine ⟨q, hq, fun _ => Kch.refl q, fun _ => ⟨false, by simp, fun hm => ?_⟩⟩
    obtain ⟨X, hX⟩ := step_must (t := t) hm
    rw [hs] at hX
    cases hX
  | some m =>
    obtain ⟨X, T⟩ := m
    rw [stepP_yes hb hp hs]
    refine ⟨tellAt X T k i q, by simp [hq], fun e => ?_, fun e => ⟨T, ?_, fun hm => ?_⟩⟩
    · subst e
      rw [hp] at hq
      cases hq
      unfold tellAt
      rw [if_pos rfl]
      exact step_kch hs
    · unfold tellAt
      rw [if_neg e]
    · obtain ⟨Y, hY⟩ := step_must (t := t) hm
      rw [hs] at hY
      cases hY
      rfl
end Im
end Go.Proofs.Ytlfmjinllffifaa
