/-
  Plain mathematics of layer 5 (identifiers and vectors): no program is named here. The order of vectors, the best of a row, a raised cost, an identifier's parts.
-/
import Derived.WalkKit
namespace Go.Proofs.YtngdilmgbgdkcaaDoor
set_option linter.unusedVariables false
set_option linter.unusedSimpArgs false
namespace Vm

/-- A vector: root, cost, bridge, port. -/
@[ext] structure Vc where
  root : Int
  cost : Int
  bridge : Int
  port : Int
deriving DecidableEq

def u64B (n : Int) : Prop := 0 ≤ n ∧ n < 18446744073709551616
structure Vc.ok (v : Vc) : Prop where
  r : u64B v.root
  c : u64B v.cost
  b : u64B v.bridge
  p : u64B v.port

def cmpN (a b : Int) (rest : Int) : Int := if a < b then -1 else if b < a then 1 else rest
/-- -1, if a comes first; 1, if b does; else 0. -/
def cmpR (a b : Vc) : Int := cmpN a.root b.root (cmpN a.cost b.cost (cmpN a.bridge b.bridge (cmpN a.port b.port 0)))

theorem cmp_self (a : Vc) : cmpR a a = 0 := by simp [cmpR, cmpN]
theorem cmp_range (a b : Vc) : cmpR a b = -1 ∨ cmpR a b = 0 ∨ cmpR a b = 1 := by
  unfold cmpR cmpN
  repeat' split
  all_goals omega
theorem cmp_neg (a b : Vc) : cmpR a b = -(cmpR b a) := by
  unfold cmpR cmpN
  repeat' split
  all_goals omega
theorem cmp_zero {a b : Vc} : cmpR a b = 0 ↔ a = b := by
  constructor
  · intro h
    unfold cmpR cmpN at h
    repeat' split at h
    all_goals first | omega | (apply Vc.ext <;> omega)
  · rintro rfl; exact cmp_self a
theorem cmp_less {a b : Vc} : cmpR a b < 0 ↔ (a.root < b.root ∨ a.root = b.root ∧ (a.cost < b.cost ∨ a.cost = b.cost ∧ (a.bridge < b.bridge ∨ a.bridge = b.bridge ∧ a.port < b.port))) := by
  unfold cmpR cmpN
  repeat' split
  all_goals omega
theorem cmp_trans {a b c : Vc} (h : cmpR a b < 0) (k : cmpR b c < 0) : cmpR a c < 0 := by
  rw [cmp_less] at *
  omega
theorem cmp_lt_of_lt_of_le {a b c : Vc} (h : cmpR a b < 0) (k : cmpR b c ≤ 0) : cmpR a c < 0 := by
  rcases Int.lt_or_eq_of_le k with k | k
  · exact cmp_trans h k
  · rw [cmp_zero] at k; exact k ▸ h
theorem cmp_le_trans {a b c : Vc} (h : cmpR a b ≤ 0) (k : cmpR b c ≤ 0) : cmpR a c ≤ 0 := by
  rcases Int.lt_or_eq_of_le h with h | h
  · exact Int.le_of_lt (cmp_lt_of_lt_of_le h k)
  · rw [cmp_zero] at h; exact h ▸ k
theorem cmp_le_of_not {a b : Vc} (h : ¬ cmpR a b < 0) : cmpR b a ≤ 0 := by have := cmp_neg a b; omega

/-- The lower 48 bits of the bridge and the lower 12 of the port are the other one's. -/
def sameB (a b : Vc) : Bool := decide (a.bridge % 281474976710656 = b.bridge % 281474976710656 ∧ a.port % 4096 = b.port % 4096)
def superB (a b : Vc) : Bool := decide (cmpR a b < 0) || sameB a b

def topC : Int := 4294967295
def raiseR (v : Vc) (c : Int) : Vc := { v with cost := if v.cost + c ≤ topC then v.cost + c else topC }
theorem raise_ok {v : Vc} {c : Int} (h : v.ok) (hc : u64B c) : (raiseR v c).ok := by
  obtain ⟨h1, ⟨h2, h3⟩, h4, h5⟩ := h
  obtain ⟨k1, k2⟩ := hc
  refine ⟨h1, ?_, h4, h5⟩
  unfold raiseR topC u64B
  simp only
  split <;> omega
theorem raise_hi {r c b p m : Int} (h : topC < c + m) : raiseR ⟨r, c, b, p⟩ m = ⟨r, 4294967295, b, p⟩ := by
  unfold raiseR
  simp only
  rw [if_neg (by omega)]
  rfl
theorem raise_lo {r c b p m : Int} (h : c + m ≤ topC) : raiseR ⟨r, c, b, p⟩ m = ⟨r, c + m, b, p⟩ := by
  unfold raiseR
  simp only
  rw [if_pos h]
theorem raise_raise (v : Vc) (m n : Int) (hv : 0 ≤ v.cost) (hm : 0 ≤ m) (hn : 0 ≤ n) : raiseR (raiseR v m) n = raiseR v (m + n) := by
  unfold raiseR topC
  simp only [Vc.mk.injEq, true_and, and_true]
  repeat' split
  all_goals omega
theorem raise_cmp (a b : Vc) (m : Int) (ha : a.cost + m < topC) (hb : b.cost + m < topC) : cmpR (raiseR a m) (raiseR b m) = cmpR a b := by
  unfold raiseR
  rw [if_pos (by omega), if_pos (by omega)]
  unfold cmpR cmpN
  simp only
  repeat' split
  all_goals omega
theorem raise_none (a : Vc) (h : a.cost ≤ topC) : raiseR a 0 = a := by
  unfold raiseR
  rw [if_pos (by omega)]
  simp

/-- A bridge's identifier, and an error's number; the address as a number, and its length. -/
def bridgeR (p v : Int) (a : Nat) (l : Nat) : Int × Int := if (0 ≤ p ∧ p ≤ 15) ∧ 0 ≤ v ∧ v ≤ 4095 then if l = 6 then (p * 1152921504606846976 + v * 281474976710656 + a, 0) else (0, 2) else (0, 1)
/-- A port's identifier, and an error's number. -/
def portR (p n : Int) : Int × Int := if (0 ≤ p ∧ p ≤ 15) ∧ 1 ≤ n ∧ n ≤ 4095 then (p * 4096 + n, 0) else (0, 1)

theorem at_some {α : Type} {l : List α} {i : Nat} (h : i < l.length) : ∃ v, l[i]? = some v := ⟨l[i], List.getElem?_eq_getElem h⟩
/-- k is the place of the first best one among the first n of a row. -/
structure First (l : List Vc) (n : Nat) (k : Nat) : Prop where
  lt : k < n
  le : ∀ i v u, i < n → l[k]? = some v → l[i]? = some u → cmpR v u ≤ 0
  eq : ∀ i v u, i < n → l[k]? = some v → l[i]? = some u → cmpR v u = 0 → k ≤ i
theorem first_one (l : List Vc) (h : 0 < l.length) : First l 1 0 := by
  refine ⟨by omega, ?_, fun _ _ _ _ _ _ _ => Nat.zero_le _⟩
  intro i v u hi hv hu
  obtain rfl : i = 0 := by omega
  rw [hv] at hu
  obtain rfl := Option.some.inj hu
  rw [cmp_self]; omega
theorem first_next {l : List Vc} {n k : Nat} {v u : Vc} (h : First l n k) (hv : l[k]? = some v) (hu : l[n]? = some u) : First l (n + 1) (if cmpR u v < 0 then n else k) := by
  by_cases hc : cmpR u v < 0
  · rw [if_pos hc]
    refine ⟨by omega, ?_, ?_⟩
    · intro i v' u' hi hv' hu'
      rw [hu] at hv'; obtain rfl := Option.some.inj hv'
      by_cases hin : i < n
      · exact Int.le_of_lt (cmp_lt_of_lt_of_le hc (h.le i v u' hin hv hu'))
      · obtain rfl : i = n := by omega
        rw [hu] at hu'; obtain rfl := Option.some.inj hu'
        rw [cmp_self]; omega
    · intro i v' u' hi hv' hu' he
      rw [hu] at hv'; obtain rfl := Option.some.inj hv'
      by_cases hin : i < n
      · have := cmp_lt_of_lt_of_le hc (h.le i v u' hin hv hu')
        omega
      · omega
  · rw [if_neg hc]
    refine ⟨by have := h.lt; omega, ?_, ?_⟩
    · intro i v' u' hi hv' hu'
      rw [hv] at hv'; obtain rfl := Option.some.inj hv'
      by_cases hin : i < n
      · exact h.le i v u' hin hv hu'
      · obtain rfl : i = n := by omega
        rw [hu] at hu'; obtain rfl := Option.some.inj hu'
        exact cmp_le_of_not hc
    · intro i v' u' hi hv' hu' he
      rw [hv] at hv'; obtain rfl := Option.some.inj hv'
      by_cases hin : i < n
      · exact h.eq i v u' hin hv hu' he
      · have := h.lt; omega

/-- The place of the first best one, behind n of a row. -/
def bestN (l : List Vc) : Nat → Nat
  | 0 => 0
  | n + 1 => match l[bestN l n]?, l[n]? with
    | some v, some u => if cmpR u v < 0 then n else bestN l n
    | _, _ => bestN l n
theorem bestN_first {l : List Vc} : ∀ n, 0 < n → n ≤ l.length → First l n (bestN l n)
  | 0, h, _ => absurd h (by omega)
  | 1, _, hn => by
    have e : bestN l 1 = 0 := by
      unfold bestN
      simp only [bestN]
      obtain ⟨v, hv⟩ : ∃ v, l[0]? = some v := at_some (by omega)
      rw [hv]
      simp [cmp_self]
    rw [e]
    exact first_one l (by omega)
  | n + 2, _, hn => by
    have ih := bestN_first (l := l) (n + 1) (by omega) (by omega)
    have hk := ih.lt
    have hkl : bestN l (n + 1) < l.length := Nat.lt_of_lt_of_le hk (Nat.le_of_succ_le hn)
    obtain ⟨v, hv⟩ : ∃ v, l[bestN l (n + 1)]? = some v := at_some hkl
    have hnl : n + 1 < l.length := Nat.lt_of_succ_le hn
    obtain ⟨u, hu⟩ : ∃ u, l[n + 1]? = some u := at_some hnl
    have e : bestN l (n + 2) = if cmpR u v < 0 then n + 1 else bestN l (n + 1) := by
      rw [bestN.eq_def]
      simp only [hv, hu]
    rw [e]
    exact first_next ih hv hu
theorem first_same {l : List Vc} {n k m : Nat} (h : First l n k) (h' : First l n m) (hn : n ≤ l.length) : k = m := by
  have hk := h.lt
  have hm := h'.lt
  obtain ⟨v, hv⟩ : ∃ v, l[k]? = some v := at_some (by omega)
  obtain ⟨u, hu⟩ : ∃ u, l[m]? = some u := at_some (by omega)
  have a := h.le m v u hm hv hu
  have b := h'.le k u v hk hu hv
  have c := cmp_neg v u
  have z : cmpR v u = 0 := by omega
  have z' : cmpR u v = 0 := by omega
  have := h.eq m v u hm hv hu z
  have := h'.eq k u v hk hu hv z'
  omega
end Vm
end Go.Proofs.YtngdilmgbgdkcaaDoor
