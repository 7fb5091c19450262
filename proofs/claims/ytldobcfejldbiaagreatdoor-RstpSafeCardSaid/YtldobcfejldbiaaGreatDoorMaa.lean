/-
  Plain mathematics of layer 5 (identifiers and vectors): no program is named here. The order of vectors, the best of a row, a raised cost, an identifier's parts.
  Plain mathematics of layer 8 (roles): no program is named here. Ways, the root vector, the root port, roles; in whatever order ports are told.
  Plain mathematics of layer 8 (roles), second part: what each role says; how many root ports there are; a deaf bridge.
  Plain mathematics of layer 3 (BPDUs as bytes): no program is named here. What a BPDU is, when it is right, its bytes, and what bytes say.
  Plain mathematics of layers 10 and 11 (what a port knows; what it does with what it hears; how a bridge chooses): no program is named here.
  Plain mathematics of layer 11, second part: choosing, and choosing again.
  Plain mathematics of layer 8 (roles), third part: the scan over the ports that the package makes, step by step, comes to the root vector and the root port.
  Plain mathematics of layer 12 (how a port comes to its role, and to forward): no program is named here.
  Plain mathematics of layer 13 (how a bridge tells that its tree changed): no program is named here.
  Plain mathematics of layer 14 (what a port sends, and in which tongue): no program is named here.
  Plain mathematics of layer 15 (an instance that runs till nothing moves): no program is named here.
  Plain mathematics of layer 15: timers and counts stay 64 bits wide, whatever happens. No program is named here.
  Plain mathematics of layer 15: what is known of ages stays small; what each row of ports of an instance keeps. No program is named here.
-/
import Derived.WalkKit
namespace Go.Proofs.YtldobcfejldbiaaGreatDoor
set_option linter.unusedVariables false
set_option linter.unusedSimpArgs false
namespace Vm

/-- A vector: root, cost, bridge, port. -/
@[ext] structure Vc where
  root : Int
  cost : Int
  bridge : Int
  port : Int
deriving DecidableEq

def u64B (n : Int) : Prop := 0 ≤ n ∧ n < 18446744073709551616
structure Vc.ok (v : Vc) : Prop where
  r : u64B v.root
  c : u64B v.cost
  b : u64B v.bridge
  p : u64B v.port

def cmpN (a b : Int) (rest : Int) : Int := if a < b then -1 else if b < a then 1 else rest
/-- -1, if a comes first; 1, if b does; else 0. -/
def cmpR (a b : Vc) : Int := cmpN a.root b.root (cmpN a.cost b.cost (cmpN a.bridge b.bridge (cmpN a.port b.port 0)))

theorem cmp_self (a : Vc) : cmpR a a = 0 := by simp [cmpR, cmpN]
theorem cmp_range (a b : Vc) : cmpR a b = -1 ∨ cmpR a b = 0 ∨ cmpR a b = 1 := by
  unfold cmpR cmpN
  repeat' split
  all_goals omega
theorem cmp_neg (a b : Vc) : cmpR a b = -(cmpR b a) := by
  unfold cmpR cmpN
  repeat' split
  all_goals omega
theorem cmp_zero {a b : Vc} : cmpR a b = 0 ↔ a = b := by
  constructor
  · intro h
    unfold cmpR cmpN at h
    repeat' split at h
    all_goals first | omega | (apply Vc.ext <;> omega)
  · rintro rfl; exact cmp_self a
theorem cmp_less {a b : Vc} : cmpR a b < 0 ↔ (a.root < b.root ∨ a.root = b.root ∧ (a.cost < b.cost ∨ a.cost = b.cost ∧ (a.bridge < b.bridge ∨ a.bridge = b.bridge ∧ a.port < b.port))) := by
  unfold cmpR cmpN
  repeat' split
  all_goals omega
theorem cmp_trans {a b c : Vc} (h : cmpR a b < 0) (k : cmpR b c < 0) : cmpR a c < 0 := by
  rw [cmp_less] at *
  omega
theorem cmp_lt_of_lt_of_le {a b c : Vc} (h : cmpR a b < 0) (k : cmpR b c ≤ 0) : cmpR a c < 0 := by
  rcases Int.lt_or_eq_of_le k with k | k
  · exact cmp_trans h k
  · rw [cmp_zero] at k; exact k ▸ h
theorem cmp_le_trans {a b c : Vc} (h : cmpR a b ≤ 0) (k : cmpR b c ≤ 0) : cmpR a c ≤ 0 := by
  rcases Int.lt_or_eq_of_le h with h | h
  · exact Int.le_of_lt (cmp_lt_of_lt_of_le h k)
  · rw [cmp_zero] at h; exact h ▸ k
theorem cmp_le_of_not {a b : Vc} (h : ¬ cmpR a b < 0) : cmpR b a ≤ 0 := by have := cmp_neg a b; omega

/-- The lower 48 bits of the bridge and the lower 12 of the port are the other one's. -/
def sameB (a b : Vc) : Bool := decide (a.bridge % 281474976710656 = b.bridge % 281474976710656 ∧ a.port % 4096 = b.port % 4096)
def superB (a b : Vc) : Bool := decide (cmpR a b < 0) || sameB a b

def topC : Int := 4294967295
def raiseR (v : Vc) (c : Int) : Vc := { v with cost := if v.cost + c ≤ topC then v.cost + c else topC }
theorem raise_hi {r c b p m : Int} (h : topC < c + m) : raiseR ⟨r, c, b, p⟩ m = ⟨r, 4294967295, b, p⟩ := by
  unfold raiseR
  simp only
  rw [if_neg (by omega)]
  rfl
theorem raise_lo {r c b p m : Int} (h : c + m ≤ topC) : raiseR ⟨r, c, b, p⟩ m = ⟨r, c + m, b, p⟩ := by
  unfold raiseR
  simp only
  rw [if_pos h]
theorem at_some {α : Type} {l : List α} {i : Nat} (h : i < l.length) : ∃ v, l[i]? = some v := ⟨l[i], List.getElem?_eq_getElem h⟩
end Vm
end Go.Proofs.YtldobcfejldbiaaGreatDoor

namespace Go.Proofs.YtldobcfejldbiaaGreatDoor
set_option linter.unusedVariables false
set_option linter.unusedSimpArgs false
open Vm
namespace Rm

/-- What is known of a port. -/
structure Inf where
  id : Int
  cost : Int
  source : Int
  vec : Vc
deriving DecidableEq

def ownB (v : Vc) (br : Int) : Bool := decide (v.bridge % 281474976710656 = br % 281474976710656)
def zeroV : Vc := ⟨0, 0, 0, 0⟩
def mineR (br : Int) : Vc := ⟨br, 0, br, 0⟩
/-- The root's way by a port. -/
def wayR (br : Int) (p : Inf) : Option Vc := if p.source = 3 ∧ ownB p.vec br = false then some (raiseR p.vec p.cost) else none
def stepV (br : Int) (b : Vc) (p : Inf) : Vc := match wayR br p with | some w => if cmpR w b < 0 then w else b | none => b
/-- The bridge's root vector. -/
def rootV (br : Int) (l : List Inf) : Vc := l.foldl (stepV br) (mineR br)

theorem take_next {α β : Type} (f : β → α → β) (b : β) {l : List α} {j : Nat} {x : α} (h : l[j]? = some x) : (l.take (j + 1)).foldl f b = f ((l.take j).foldl f b) x := by
  rw [List.take_add_one, h]
  simp only [Option.toList, List.foldl_append, List.foldl_cons, List.foldl_nil]

theorem step_le (br : Int) (b : Vc) (p : Inf) : cmpR (stepV br b p) b ≤ 0 := by
  unfold stepV
  split
  · split
    · omega
    · rw [cmp_self]; omega
  · rw [cmp_self]; omega
theorem step_way {br : Int} {p : Inf} {w : Vc} (h : wayR br p = some w) (b : Vc) : cmpR (stepV br b p) w ≤ 0 := by
  unfold stepV
  rw [h]
  simp only
  split
  · rw [cmp_self]; omega
  · rename_i hn
    exact cmp_le_of_not hn
theorem step_is (br : Int) (b : Vc) (p : Inf) : stepV br b p = b ∨ wayR br p = some (stepV br b p) := by
  unfold stepV
  split
  · rename_i w hw
    split
    · exact .inr hw
    · exact .inl rfl
  · exact .inl rfl
theorem fold_le (br : Int) : ∀ (l : List Inf) (b : Vc), cmpR (l.foldl (stepV br) b) b ≤ 0
  | [], b => by show cmpR b b ≤ 0; rw [cmp_self]; omega
  | p :: l, b => cmp_le_trans (fold_le br l (stepV br b p)) (step_le br b p)
theorem fold_way {br : Int} : ∀ (l : List Inf) (b : Vc) (p : Inf) (w : Vc), p ∈ l → wayR br p = some w → cmpR (l.foldl (stepV br) b) w ≤ 0
  | [], _, p, _, h, _ => by cases h
  | q :: l, b, p, w, h, hw => by
    rcases List.mem_cons.1 h with rfl | h
    · exact cmp_le_trans (fold_le br l (stepV br b p)) (step_way hw b)
    · exact fold_way l (stepV br b q) p w h hw
theorem fold_is (br : Int) : ∀ (l : List Inf) (b : Vc), l.foldl (stepV br) b = b ∨ ∃ p ∈ l, wayR br p = some (l.foldl (stepV br) b)
  | [], b => .inl rfl
  | q :: l, b => by
    rcases fold_is br l (stepV br b q) with h | ⟨p, hp, h⟩
    · rcases step_is br b q with k | k
      · exact .inl (h.trans k)
      · exact .inr ⟨q, List.mem_cons_self, by rw [show (q :: l).foldl (stepV br) b = l.foldl (stepV br) (stepV br b q) from rfl, h]; exact k⟩
    · exact .inr ⟨p, List.mem_cons_of_mem _ hp, h⟩
/-- The root vector is the own one, or a port's way; none of these is better. -/
structure IsRoot (br : Int) (l : List Inf) (v : Vc) : Prop where
  own : cmpR v (mineR br) ≤ 0
  way : ∀ p ∈ l, ∀ w, wayR br p = some w → cmpR v w ≤ 0
  is : v = mineR br ∨ ∃ p ∈ l, wayR br p = some v
theorem root_is (br : Int) (l : List Inf) : IsRoot br l (rootV br l) := ⟨fold_le br l _, fun p hp w hw => fold_way l _ p w hp hw, fold_is br l _⟩
/-- A bridge that heard nothing is the root. -/
theorem root_deaf {br : Int} {l : List Inf} (h : ∀ p ∈ l, wayR br p = none) : rootV br l = mineR br := by
  rcases (root_is br l).is with h1 | ⟨p, hp, hw⟩
  · exact h1
  · rw [h p hp] at hw; cases hw

/-- The root port among the first n: of the ports by which the root's way is, the one of the least Id. -/
def portN (br : Int) (v : Vc) (l : List Inf) : Nat → Option Nat
  | 0 => none
  | n + 1 => match l[n]? with
    | none => portN br v l n
    | some p => if wayR br p = some v then (match portN br v l n with
        | none => some n
        | some o => match l[o]? with
          | none => some n
          | some q => if p.id < q.id then some n else some o) else portN br v l n
structure IsPort (br : Int) (v : Vc) (l : List Inf) (n o : Nat) : Prop where
  lt : o < n
  at_ : ∃ q, l[o]? = some q ∧ wayR br q = some v ∧ ∀ i p, i < n → l[i]? = some p → wayR br p = some v → q.id ≤ p.id
theorem port_spec (br : Int) (v : Vc) (l : List Inf) : ∀ n, n ≤ l.length → (portN br v l n = none → ∀ i p, i < n → l[i]? = some p → ¬ wayR br p = some v) ∧ (∀ o, portN br v l n = some o → IsPort br v l n o)
  | 0, _ => ⟨fun _ i p h => by omega, fun o h => by cases h⟩
  | n + 1, hn => by
    obtain ⟨ih1, ih2⟩ := port_spec br v l n (by omega)
    obtain ⟨p, hp⟩ : ∃ p, l[n]? = some p := at_some (by omega)
    unfold portN
    rw [hp]
    simp only
    by_cases hw : wayR br p = some v
    · rw [if_pos hw]
      cases ho : portN br v l n with
      | none =>
        simp only
        refine ⟨nofun, fun o h => ?_⟩
        cases h
        refine ⟨by omega, p, hp, hw, fun i q hi hq hqw => ?_⟩
        by_cases hin : i < n
        · exact absurd hqw (ih1 ho i q hin hq)
        · obtain rfl : i = n := by omega
          rw [hp] at hq; cases hq; omega
      | some o =>
        obtain ⟨hlt, q, hq, hqw, hle⟩ := ih2 o ho
        simp only [hq]
        by_cases hid : p.id < q.id
        · rw [if_pos hid]
          refine ⟨nofun, fun o' h => ?_⟩
          cases h
          refine ⟨by omega, p, hp, hw, fun i r hi hr hrw => ?_⟩
          by_cases hin : i < n
          · have := hle i r hin hr hrw; omega
          · obtain rfl : i = n := by omega
            rw [hp] at hr; cases hr; omega
        · rw [if_neg hid]
          refine ⟨nofun, fun o' h => ?_⟩
          cases h
          refine ⟨by omega, q, hq, hqw, fun i r hi hr hrw => ?_⟩
          by_cases hin : i < n
          · exact hle i r hin hr hrw
          · obtain rfl : i = n := by omega
            rw [hp] at hr; cases hr; omega
    · rw [if_neg hw]
      refine ⟨fun h i q hi hq => ?_, fun o h => ?_⟩
      · by_cases hin : i < n
        · exact ih1 h i q hin hq
        · obtain rfl : i = n := by omega
          rw [hp] at hq; cases hq; exact hw
      · obtain ⟨hlt, q, hq, hqw, hle⟩ := ih2 o h
        refine ⟨by omega, q, hq, hqw, fun i r hi hr hrw => ?_⟩
        by_cases hin : i < n
        · exact hle i r hin hr hrw
        · obtain rfl : i = n := by omega
          rw [hp] at hr; cases hr; exact absurd hrw hw
/-- The root port; none, if the root vector is the own one. -/
def rootP (br : Int) (l : List Inf) : Option Nat := if rootV br l = mineR br then none else portN br (rootV br l) l l.length
theorem rootP_none {br : Int} {l : List Inf} : rootP br l = none ↔ rootV br l = mineR br := by
  unfold rootP
  by_cases h : rootV br l = mineR br
  · rw [if_pos h]; exact ⟨fun _ => h, fun _ => rfl⟩
  · rw [if_neg h]
    refine ⟨fun hn => ?_, fun e => absurd e h⟩
    rcases (root_is br l).is with h1 | ⟨p, hp, hw⟩
    · exact h1
    · obtain ⟨i, hi⟩ := List.getElem?_of_mem hp
      exact absurd hw ((port_spec br _ l _ (Nat.le_refl _)).1 hn i p (List.getElem?_eq_some_iff.1 hi).1 hi)
theorem rootP_some {br : Int} {l : List Inf} {o : Nat} (h : rootP br l = some o) : IsPort br (rootV br l) l l.length o := by
  unfold rootP at h
  by_cases e : rootV br l = mineR br
  · rw [if_pos e] at h; cases h
  · rw [if_neg e] at h
    exact (port_spec br _ l _ (Nat.le_refl _)).2 o h
/-- No Id twice. -/
def Apart (l : List Inf) : Prop := ∀ (i j : Nat) (p q : Inf), l[i]? = some p → l[j]? = some q → p.id = q.id → i = j
/-- A port's role, where the root vector is v; is it the root port? -/
def roleR (br : Int) (v : Vc) (isP : Bool) (p : Inf) : Int :=
  if p.source = 0 then 0 else if p.source < 3 then 2 else if isP then 1 else if cmpR ⟨v.root, v.cost, br, p.id⟩ p.vec < 0 then 2 else if ownB p.vec br then 4 else 3
def roleAt (br : Int) (l : List Inf) (i : Nat) (p : Inf) : Int := roleR br (rootV br l) (decide (rootP br l = some i)) p
/-- May this be known of a port? -/
def infB (p : Inf) : Bool := decide ((1 ≤ p.id ∧ p.id ≤ 65535) ∧ p.cost ≤ 4294967295 ∧ (0 ≤ p.source ∧ p.source ≤ 3) ∧ p.vec.cost ≤ 4294967295 ∧ (p.source < 3 → p.vec = zeroV))
/-- May these be? -/
def rightR (l : List Inf) : Bool := decide (l.length ≤ 16) && l.all infB && decide (l.Pairwise (fun p q => ¬ p.id = q.id))
theorem right_each {l : List Inf} (h : rightR l = true) {p : Inf} (hp : p ∈ l) : infB p = true := by
  unfold rightR at h
  simp only [Bool.and_eq_true, List.all_eq_true] at h
  exact h.1.2 p hp
theorem right_len {l : List Inf} (h : rightR l = true) : l.length ≤ 16 := by
  unfold rightR at h
  simp only [Bool.and_eq_true, decide_eq_true_eq] at h
  exact h.1.1
end Rm
end Go.Proofs.YtldobcfejldbiaaGreatDoor

namespace Go.Proofs.YtldobcfejldbiaaGreatDoor
set_option linter.unusedVariables false
set_option linter.unusedSimpArgs false
open Vm
namespace Rm

theorem way_some {br : Int} {p : Inf} {w : Vc} (h : wayR br p = some w) : p.source = 3 ∧ ownB p.vec br = false ∧ raiseR p.vec p.cost = w := by
  unfold wayR at h
  split at h
  · rename_i hc
    cases h
    exact ⟨hc.1, hc.2, rfl⟩
  · cases h
theorem inf_source {p : Inf} (h : infB p = true) : 0 ≤ p.source ∧ p.source ≤ 3 := by
  unfold infB at h
  exact (of_decide_eq_true h).2.2.1
theorem role_0 {br : Int} {v : Vc} {b : Bool} {p : Inf} (h : p.source = 0) : roleR br v b p = 0 := by unfold roleR; rw [if_pos h]
theorem role_mid {br : Int} {v : Vc} {b : Bool} {p : Inf} (h : ¬ p.source = 0) (k : p.source < 3) : roleR br v b p = 2 := by unfold roleR; rw [if_neg h, if_pos k]
theorem role_root {br : Int} {v : Vc} {p : Inf} (k : p.source = 3) : roleR br v true p = 1 := by unfold roleR; rw [if_neg (by omega), if_neg (by omega), if_pos rfl]
theorem role_desig {br : Int} {v : Vc} {p : Inf} (k : p.source = 3) (h : cmpR ⟨v.root, v.cost, br, p.id⟩ p.vec < 0) : roleR br v false p = 2 := by
  unfold roleR; rw [if_neg (by omega), if_neg (by omega), if_neg Bool.false_ne_true, if_pos h]
theorem role_backup {br : Int} {v : Vc} {p : Inf} (k : p.source = 3) (h : ¬ cmpR ⟨v.root, v.cost, br, p.id⟩ p.vec < 0) (ho : ownB p.vec br = true) : roleR br v false p = 4 := by
  unfold roleR; rw [if_neg (by omega), if_neg (by omega), if_neg Bool.false_ne_true, if_neg h, if_pos ho]
theorem role_alt {br : Int} {v : Vc} {p : Inf} (k : p.source = 3) (h : ¬ cmpR ⟨v.root, v.cost, br, p.id⟩ p.vec < 0) (ho : ownB p.vec br = false) : roleR br v false p = 3 := by
  unfold roleR; rw [if_neg (by omega), if_neg (by omega), if_neg Bool.false_ne_true, if_neg h, if_neg (by rw [ho]; exact Bool.false_ne_true)]
/-- The root port's place, as a number. -/
def portI (o : Option Nat) : Int := match o with | some i => i | none => -1
theorem portI_eq {o : Option Nat} {i : Nat} : portI o = (i : Int) ↔ o = some i := by
  cases o with
  | none => exact ⟨fun h => by have : (-1 : Int) = (i : Int) := h; omega, fun h => by cases h⟩
  | some j => exact ⟨fun h => by have : (j : Int) = (i : Int) := h; congr 1; omega, fun h => by cases h; rfl⟩
/-- The root port heard; its way is the root's. -/
theorem rootP_way {br : Int} {l : List Inf} {i : Nat} {p : Inf} (h : rootP br l = some i) (hp : l[i]? = some p) : p.source = 3 ∧ ownB p.vec br = false ∧ raiseR p.vec p.cost = rootV br l := by
  obtain ⟨_, q, hq, hw, _⟩ := rootP_some h
  rw [hp] at hq
  cases hq
  exact way_some hw
/-- A bridge that heard nothing. -/
def deafR (p : Inf) : Inf := ⟨p.id, p.cost, min p.source 2, zeroV⟩
theorem deaf_inf {p : Inf} (h : infB p = true) : infB (deafR p) = true := by
  unfold infB at h ⊢
  obtain ⟨h1, h2, h3, h4, h5⟩ := of_decide_eq_true h
  refine decide_eq_true ⟨h1, h2, ?_, ?_, fun _ => rfl⟩
  · show 0 ≤ min p.source 2 ∧ min p.source 2 ≤ 3
    omega
  · show (0 : Int) ≤ 4294967295
    omega
theorem deaf_right {l : List Inf} (h : rightR l = true) : rightR (l.map deafR) = true := by
  unfold rightR at h ⊢
  simp only [Bool.and_eq_true, decide_eq_true_eq, List.all_eq_true] at h ⊢
  obtain ⟨⟨h1, h2⟩, h3⟩ := h
  refine ⟨⟨by rw [List.length_map]; exact h1, fun p hp => ?_⟩, ?_⟩
  · obtain ⟨q, hq, rfl⟩ := List.mem_map.1 hp
    exact deaf_inf (h2 q hq)
  · rw [List.pairwise_map]
    exact h3
end Rm
end Go.Proofs.YtldobcfejldbiaaGreatDoor

namespace Go.Proofs.YtldobcfejldbiaaGreatDoor
set_option linter.unusedVariables false
set_option linter.unusedSimpArgs false
namespace Bm
open Go.RowKit

theorem ofInt_any (x : Int) : (BitVec.ofInt 64 x).toNat = (x % 18446744073709551616).toNat := by
  rw [BitVec.toNat_ofInt]; rfl
/-- '&' of whatever number and a small one. -/
theorem i64_and_any (x : Int) (b : Nat) (hb : b < 256) : bits .and .i64 x (b : Int) = (((x % 18446744073709551616).toNat &&& b : Nat) : Int) := by
  have hx : (x % 18446744073709551616).toNat &&& b ≤ b := Nat.and_le_right
  show IntKind.i64.wrap ((BitVec.ofInt 64 x &&& BitVec.ofInt 64 (b : Int)).toNat : Int) = _
  rw [BitVec.toNat_and, ofInt_any x, BitVec.ofInt_natCast, BitVec.toNat_ofNat, Nat.mod_eq_of_lt (show b < 2 ^ 64 by omega), IntKind.wrap_i64]
  omega
theorem and_3 (x : Int) : bits .and .i64 x 3 = x % 4 := by
  have h := i64_and_any x 3 (by omega)
  have e : (x % 18446744073709551616).toNat &&& 3 = (x % 18446744073709551616).toNat % 4 := Nat.and_two_pow_sub_one_eq_mod _ 2
  rw [e] at h
  rw [show ((3 : Nat) : Int) = 3 from rfl] at h
  rw [h]
  omega
theorem and_bit (x : Int) (i : Nat) (hi : i < 8) : (bits .and .i64 x ((2 ^ i : Nat) : Int) != 0) = decide (x / (2 ^ i : Nat) % 2 = 1) := by
  have hp : (2 : Nat) ^ i ≤ 2 ^ 7 := Nat.pow_le_pow_right (by omega) (by omega)
  rw [i64_and_any x (2 ^ i) (by omega), nat_bit i]
  rw [Bool.eq_iff_iff]
  simp only [bne_iff_ne, ne_eq, decide_eq_true_eq]
  match i, hi with
  | 0, _ => simp; omega
  | 1, _ => simp; omega
  | 2, _ => simp; omega
  | 3, _ => simp; omega
  | 4, _ => simp; omega
  | 5, _ => simp; omega
  | 6, _ => simp; omega
  | 7, _ => simp; omega
/-- A BPDU, as ten numbers. -/
structure Bp where
  kind : Int
  flags : Int
  root : Int
  cost : Int
  bridge : Int
  port : Int
  age : Int
  max : Int
  hello : Int
  delay : Int

abbrev bv (k f r c b p a m h d : Int) : Value := .agg #[.int .i64 k, .int .i64 f, .int .u64 r, .int .u64 c, .int .u64 b, .int .u64 p, .int .i64 a, .int .i64 m, .int .i64 h, .int .i64 d]
abbrev Bp.val (b : Bp) : Value := bv b.kind b.flags b.root b.cost b.bridge b.port b.age b.max b.hello b.delay
def zero : Bp := ⟨0, 0, 0, 0, 0, 0, 0, 0, 0, 0⟩
def notice : Bp := ⟨2, 0, 0, 0, 0, 0, 0, 0, 0, 0⟩

def withinB (n m : Int) : Bool := decide (0 ≤ n ∧ n ≤ m)
def numsB (b : Bp) : Bool := withinB b.flags 255 && (decide (b.cost ≤ 4294967295) && (decide (b.port ≤ 65535) && (withinB b.age 65535 && (withinB b.max 65535 && (withinB b.hello 65535 && withinB b.delay 65535)))))
def bpEq (f g : Bp) : Bool := (f.kind == g.kind) && ((f.flags == g.flags) && ((f.root == g.root) && ((f.cost == g.cost) && ((f.bridge == g.bridge) && ((f.port == g.port) && ((f.age == g.age) && ((f.max == g.max) && ((f.hello == g.hello) && (f.delay == g.delay)))))))))
def rightB (b : Bp) : Bool := if b.kind = 2 then bpEq b notice else if b.kind = 1 ∨ b.kind = 3 then numsB b else false

/-- Numbers of 64 bits, as a uint64 holds them. -/
def u64B (n : Int) : Prop := 0 ≤ n ∧ n < 18446744073709551616
def Bp.ok (b : Bp) : Prop := u64B b.root ∧ u64B b.cost ∧ u64B b.bridge ∧ u64B b.port

/-- So many of a number's lowest bytes, the highest of these first. -/
def be (n : Nat) : Nat → ByteArray
  | 0 => ⟨#[]⟩
  | k + 1 => ⟨#[UInt8.ofNat (n / 256 ^ k % 256)]⟩ ++ be n k
theorem be_size (n k : Nat) : (be n k).size = k := by
  induction k with
  | zero => rfl
  | succ k ih => rw [be, ByteArray.size_append, ih]; show 1 + k = k + 1; omega

/-- A byte's number; 0 behind the end. -/
def byteN (s : ByteArray) (i : Nat) : Nat := (s.data.getD i 0).toNat
/-- The number of so many bytes at a place. -/
def num (s : ByteArray) (a : Nat) : Nat → Nat
  | 0 => 0
  | k + 1 => num s a k * 256 + byteN s (a + k)
theorem num_head (s : ByteArray) (a k : Nat) : num s a (k + 1) = byteN s a * 256 ^ k + num s (a + 1) k := by
  induction k with
  | zero => simp [num]
  | succ k ih =>
    rw [num, ih, num, Nat.pow_succ, Nat.add_mul, Nat.mul_assoc]
    have e : a + (k + 1) = a + 1 + k := by omega
    rw [e]
    omega
theorem num_congr {s t : ByteArray} {a b k : Nat} (h : ∀ i, i < k → byteN s (a + i) = byteN t (b + i)) : num s a k = num t b k := by
  induction k with
  | zero => rfl
  | succ k ih => rw [num, num, ih (fun i hi => h i (by omega)), h k (by omega)]

theorem byteN_left {a b : ByteArray} {i : Nat} (h : i < a.size) : byteN (a ++ b) i = byteN a i := by
  unfold byteN
  have h' : i < a.data.size := h
  simp [Array.getElem?_append_left h']
theorem byteN_right {a b : ByteArray} {i : Nat} (h : a.size ≤ i) : byteN (a ++ b) i = byteN b (i - a.size) := by
  unfold byteN
  have h' : a.data.size ≤ i := h
  simp [Array.getElem?_append_right h']
theorem num_right {a b : ByteArray} {i k : Nat} (h : a.size ≤ i) : num (a ++ b) i k = num b (i - a.size) k := num_congr fun j hj => by
  rw [byteN_right (by omega)]
  congr 1
  omega
theorem byteN_one (x : UInt8) : byteN ⟨#[x]⟩ 0 = x.toNat := rfl
theorem num_be (n k : Nat) : num (be n k) 0 k = n % 256 ^ k := by
  induction k with
  | zero => simp [num, Nat.mod_one]
  | succ k ih =>
    rw [num_head, be]
    have e1 : byteN (⟨#[UInt8.ofNat (n / 256 ^ k % 256)]⟩ ++ be n k) 0 = n / 256 ^ k % 256 := by
      rw [byteN_left (by show 0 < 1; omega), byteN_one, UInt8.toNat_ofNat']
      omega
    have e2 : num (⟨#[UInt8.ofNat (n / 256 ^ k % 256)]⟩ ++ be n k) (0 + 1) k = num (be n k) 0 k := num_right (a := ⟨#[UInt8.ofNat (n / 256 ^ k % 256)]⟩) (by show 1 ≤ 0 + 1; omega)
    rw [e1, e2, ih, Nat.pow_succ, Nat.mod_mul, Nat.mul_comm]
    omega

end Bm
end Go.Proofs.YtldobcfejldbiaaGreatDoor

namespace Go.Proofs.YtldobcfejldbiaaGreatDoor
set_option linter.unusedVariables false
set_option linter.unusedSimpArgs false
namespace Im
open Vm Rm Bm

/-- Times, in ticks. -/
structure Tm where
  age : Int
  max : Int
  hello : Int
  delay : Int
deriving DecidableEq
set_option maxRecDepth 100000 in
/-- What a port knows: 61 cells. -/
structure Pt where
  id : Int
  cost : Int
  on : Bool
  admin : Bool
  oper : Bool
  source : Int
  vec : Vc
  times : Tm
  offer : Vc
  given : Tm
  role : Int
  selected : Int
  ready : Bool
  update : Bool
  reselect : Bool
  learn : Bool
  learning : Bool
  forward : Bool
  forwarding : Bool
  agree : Bool
  agreed : Bool
  proposed : Bool
  proposing : Bool
  sync : Bool
  synced : Bool
  reroot : Bool
  disputed : Bool
  newInfo : Bool
  heardTc : Bool
  heardTcn : Bool
  heardAck : Bool
  tcAck : Bool
  tcProp : Bool
  flush : Bool
  sendRstp : Bool
  heardRstp : Bool
  heardStp : Bool
  check : Bool
  fd : Int
  rr : Int
  rb : Int
  tc : Int
  edge : Int
  md : Int
  info : Int
  hello : Int
  txCount : Int
  change : Int
  migrate : Int
deriving DecidableEq

/-! ### Layer 10 -/
def zeroT : Tm := ⟨0, 0, 0, 0⟩
def newP (id cost : Int) (edge : Bool) : Pt :=
  ⟨id, cost, false, edge, edge, 0, zeroV, zeroT, zeroV, zeroT, 0, 0, false, false, false, false, false, false, false, false, false, false, false, false, false, false, false, false, false, false, false, false, false, false, true, false, false, false, 0, 0, 0, 0, 0, 0, 0, 0, 0, 0, 0⟩
def lessI (n : Int) : Int := if 0 < n then n - 1 else n
def tickP (p : Pt) : Pt := { p with fd := lessI p.fd, rr := lessI p.rr, rb := lessI p.rb, tc := lessI p.tc, edge := lessI p.edge, md := lessI p.md, info := lessI p.info, hello := lessI p.hello, txCount := lessI p.txCount }
def vecOf (b : Bp) : Vc := ⟨b.root, b.cost, b.bridge, b.port⟩
def timesOf (b : Bp) : Tm := ⟨b.age / 256, b.max / 256, if b.hello / 256 < 1 then 1 else b.hello / 256, b.delay / 256⟩
/-- Is it heard at all? -/
def heardB (b : Bp) : Bool := rightB b && !decide (b.kind = 2)
def roleF (flags : Int) : Int := flags / 4 % 4
/-- What was heard: 0 to 4. -/
def heardP (p : Pt) (b : Bp) : Int :=
  if heardB b = false then 0
  else if b.kind = 1 ∨ roleF b.flags = 3 then
    (if p.source = 3 ∧ vecOf b = p.vec ∧ timesOf b = p.times then 2 else if superB (vecOf b) p.vec = true then 1 else 3)
  else if ¬ roleF b.flags = 0 ∧ ¬ cmpR (vecOf b) p.vec = -1 then 4 else 0
theorem heard_range (p : Pt) (b : Bp) : 0 ≤ heardP p b ∧ heardP p b ≤ 4 := by
  unfold heardP
  repeat' split
  all_goals omega

/-! ### Layer 11 -/
def bitB (flags : Int) (n : Nat) : Bool := decide (flags / 2 ^ n % 2 = 1)
def powerP (p : Pt) (on : Bool) : Pt :=
  if on = p.on then p
  else if on then { p with on := true, source := 1, reselect := true, ready := false }
  else { p with on := false, source := 0, proposing := false, proposed := false, agree := false, agreed := false, info := 0, reselect := true, ready := false, oper := p.admin }
/-- Behind what was heard, but for what it was. -/
def firstP (p : Pt) (b : Bp) : Pt := { p with heardRstp := p.heardRstp || decide (b.kind = 3), heardStp := p.heardStp || !decide (b.kind = 3), oper := false }
/-- What is recorded of 1 and 2. -/
def recordP (p : Pt) (b : Bp) : Pt :=
  { p with
    proposed := p.proposed || (decide (b.kind = 3) && bitB b.flags 1)
    heardTc := p.heardTc || bitB b.flags 0
    heardAck := p.heardAck || (!decide (b.kind = 3) && bitB b.flags 7)
    info := if (timesOf b).age + 1 > (timesOf b).max then 0 else 3 * (timesOf b).hello }
def superP (p : Pt) (b : Bp) : Pt :=
  { recordP { p with agreed := false, proposing := false } b with
    agree := p.agree && decide (vecOf b = p.vec)
    synced := p.synced && decide (vecOf b = p.vec)
    vec := vecOf b
    times := timesOf b
    source := 3
    reselect := true
    ready := false }
def inferiorP (p : Pt) (b : Bp) : Pt := if b.kind = 3 ∧ bitB b.flags 4 = true then { p with disputed := true, agreed := false } else p
def otherP (p : Pt) (b : Bp) : Pt :=
  { p with
    agreed := p.agreed || (decide (b.kind = 3) && p.sendRstp && bitB b.flags 6)
    proposing := p.proposing && !(decide (b.kind = 3) && p.sendRstp && bitB b.flags 6)
    heardTc := p.heardTc || bitB b.flags 0 }
def hearP (p : Pt) (b : Bp) : Pt :=
  if p.on = false ∨ heardB b = false then p
  else match heardP p b with
    | 1 => superP (firstP p b) b
    | 2 => recordP (firstP p b) b
    | 3 => inferiorP (firstP p b) b
    | 4 => otherP (firstP p b) b
    | _ => firstP p b
def ageP (p : Pt) : Pt := if p.source = 3 ∧ p.info = 0 ∧ p.update = false then { p with source := 1, reselect := true, ready := false } else p
def settleP (p : Pt) : Pt :=
  if p.ready = true ∧ p.update = true then
    { p with
      proposing := false
      proposed := false
      agreed := p.agreed && decide (p.offer = p.vec)
      synced := p.synced && (p.agreed && decide (p.offer = p.vec))
      vec := p.offer
      times := p.given
      update := false
      source := 2
      newInfo := true }
  else p

/-! What InfoOff asks. -/
/-! Settling. -/
/-! ### Choosing -/
def rightBr (t : Tm) : Bool := decide (t.age = 0 ∧ (6 ≤ t.max ∧ t.max ≤ 40) ∧ (1 ≤ t.hello ∧ t.hello ≤ 2) ∧ 4 ≤ t.delay ∧ t.delay ≤ 30)
def infP (p : Pt) : Inf := ⟨p.id, p.cost, if p.on then p.source else 0, if (if p.on then p.source else 0) = 3 then p.vec else zeroV⟩
def infosP (l : List Pt) : List Inf := l.map infP
/-- One more, as numbers of 64 bits are counted. -/
def inc64 (n : Int) : Int := if n = 9223372036854775807 then -9223372036854775808 else n + 1
def givenP (br : Int) (t : Tm) (l : List Pt) : Tm := match rootP br (infosP l) with
  | none => t
  | some k => match l[k]? with | some p => { p.times with age := inc64 p.times.age } | none => t
def mayB (br : Int) (t : Tm) (l : List Pt) : Bool := l.any Pt.reselect && (rightBr t && rightR (infosP l))
def chosenP (br : Int) (v : Vc) (gv : Tm) (sel : Int) (p : Pt) : Pt :=
  { p with
    reselect := false
    ready := true
    offer := ⟨v.root, v.cost, br, p.id⟩
    given := gv
    selected := sel
    update := decide ((infP p).source = 1) || (decide ((infP p).source = 2) && !(decide (p.vec = ⟨v.root, v.cost, br, p.id⟩) && decide (p.times = gv))) || (decide ((infP p).source = 3) && decide (sel = 2)) }
end Im
end Go.Proofs.YtldobcfejldbiaaGreatDoor

namespace Go.Proofs.YtldobcfejldbiaaGreatDoor
set_option linter.unusedVariables false
set_option linter.unusedSimpArgs false
namespace Im
open Vm Rm Bm

def chooseAt (br : Int) (t : Tm) (l : List Pt) (i : Nat) (p : Pt) : Pt := chosenP br (rootV br (infosP l)) (givenP br t l) (roleAt br (infosP l) i (infP p)) p
def chooseP (br : Int) (t : Tm) (l : List Pt) : List Pt × Bool := if mayB br t l = true then (l.mapIdx (chooseAt br t l), true) else (l, false)
theorem choose_not {br : Int} {t : Tm} {l : List Pt} (h : mayB br t l = false) : chooseP br t l = (l, false) := by unfold chooseP; rw [if_neg (by rw [h]; simp)]
theorem choose_may {br : Int} {t : Tm} {l : List Pt} (h : mayB br t l = true) : chooseP br t l = (l.mapIdx (chooseAt br t l), true) := by unfold chooseP; rw [if_pos h]
theorem choose_len (br : Int) (t : Tm) (l : List Pt) : (chooseP br t l).1.length = l.length := by
  cases h : mayB br t l with
  | false => rw [choose_not h]
  | true => rw [choose_may h]; simp
theorem choose_at {br : Int} {t : Tm} {l : List Pt} (h : mayB br t l = true) {i : Nat} {p : Pt} (hp : l[i]? = some p) : (chooseP br t l).1[i]? = some (chooseAt br t l i p) := by
  rw [choose_may h]
  simp [hp]
theorem off_source {p : Pt} (h : p.on = false) : (infP p).source = 0 := by unfold infP; simp [h]
/-- A port that is off is selected as disabled. -/
theorem off_role {br : Int} {l : List Pt} {i : Nat} {p : Pt} (h : p.on = false) : roleAt br (infosP l) i (infP p) = 0 := role_0 (off_source h)
theorem infos_at {l : List Pt} {i : Nat} {p : Pt} (h : l[i]? = some p) : (infosP l)[i]? = some (infP p) := by unfold infosP; rw [List.getElem?_map, h]; rfl
/-- It is the root port that is selected as such. -/
theorem root_role {br : Int} {l : List Inf} {i : Nat} {p : Inf} (hr : rightR l = true) (hp : l[i]? = some p) : roleAt br l i p = 1 ↔ rootP br l = some i := by
  have hb := right_each hr (List.mem_of_getElem? hp)
  obtain ⟨h0, h3⟩ := inf_source hb
  unfold roleAt
  constructor
  · intro h
    by_cases hc : rootP br l = some i
    · exact hc
    · exfalso
      rw [decide_eq_false hc] at h
      unfold roleR at h
      revert h
      repeat' split
      all_goals (intro h; first | contradiction | omega | simp_all)
  · intro hc
    rw [decide_eq_true hc]
    exact role_root (rootP_way hc hp).1
theorem may_parts {br : Int} {t : Tm} {l : List Pt} (h : mayB br t l = true) : l.any Pt.reselect = true ∧ rightBr t = true ∧ rightR (infosP l) = true := by
  unfold mayB at h
  simp only [Bool.and_eq_true] at h
  exact ⟨h.1, h.2.1, h.2.2⟩
theorem chosen_facts {br : Int} {t : Tm} {l : List Pt} (h : mayB br t l = true) {i : Nat} {p : Pt} (hp : l[i]? = some p) :
    (chooseAt br t l i p).reselect = false ∧ (chooseAt br t l i p).ready = true ∧ (chooseAt br t l i p).on = p.on ∧ (p.on = false → (chooseAt br t l i p).selected = 0) ∧ ((chooseAt br t l i p).selected = 1 ↔ rootP br (infosP l) = some i) :=
  ⟨rfl, rfl, rfl, fun ho => off_role ho, root_role (may_parts h).2.2 (infos_at hp)⟩
end Im
end Go.Proofs.YtldobcfejldbiaaGreatDoor

namespace Go.Proofs.YtldobcfejldbiaaGreatDoor
set_option linter.unusedVariables false
set_option linter.unusedSimpArgs false
open Vm
namespace Rm

/-- The root port among the first k, for the root vector of these. -/
def scanP (br : Int) (l : List Inf) (k : Nat) : Option Nat := if rootV br (l.take k) = mineR br then none else portN br (rootV br (l.take k)) l k
theorem scan_zero (br : Int) (l : List Inf) : rootV br (l.take 0) = mineR br ∧ scanP br l 0 = none := by
  have e : rootV br (l.take 0) = mineR br := rfl
  refine ⟨e, ?_⟩
  unfold scanP
  rw [if_pos e]
theorem scan_end (br : Int) (l : List Inf) : rootV br (l.take l.length) = rootV br l ∧ scanP br l l.length = rootP br l := by
  unfold scanP rootP
  rw [List.take_length]
  exact ⟨rfl, rfl⟩
theorem root_next {br : Int} {l : List Inf} {k : Nat} {p : Inf} (h : l[k]? = some p) : rootV br (l.take (k + 1)) = stepV br (rootV br (l.take k)) p := take_next (stepV br) (mineR br) h
theorem port_next_no {br : Int} {v : Vc} {l : List Inf} {k : Nat} {p : Inf} (h : l[k]? = some p) (hw : ¬ wayR br p = some v) : portN br v l (k + 1) = portN br v l k := by
  rw [portN, h]
  simp only
  rw [if_neg hw]
theorem scan_none {br : Int} {l : List Inf} {k : Nat} {p : Inf} (h : l[k]? = some p) (hw : wayR br p = none) : rootV br (l.take (k + 1)) = rootV br (l.take k) ∧ scanP br l (k + 1) = scanP br l k := by
  have e : rootV br (l.take (k + 1)) = rootV br (l.take k) := by rw [root_next h]; unfold stepV; rw [hw]
  refine ⟨e, ?_⟩
  unfold scanP
  rw [e, port_next_no h (by rw [hw]; exact nofun)]
theorem scan_more {br : Int} {l : List Inf} {k : Nat} {p : Inf} {w : Vc} (h : l[k]? = some p) (hw : wayR br p = some w) (hc : 0 < cmpR w (rootV br (l.take k))) : rootV br (l.take (k + 1)) = rootV br (l.take k) ∧ scanP br l (k + 1) = scanP br l k := by
  have e : rootV br (l.take (k + 1)) = rootV br (l.take k) := by
    rw [root_next h]; unfold stepV; rw [hw]; simp only
    rw [if_neg (by omega)]
  refine ⟨e, ?_⟩
  unfold scanP
  rw [e, port_next_no h]
  rw [hw]
  intro he
  cases he
  rw [cmp_self] at hc
  omega
theorem root_take_way {br : Int} {l : List Inf} {k i : Nat} {p : Inf} {w : Vc} (hi : i < k) (h : l[i]? = some p) (hw : wayR br p = some w) : cmpR (rootV br (l.take k)) w ≤ 0 :=
  (root_is br (l.take k)).way p (List.mem_of_getElem? (by rw [List.getElem?_take_of_lt hi]; exact h)) w hw
theorem scan_less {br : Int} {l : List Inf} {k : Nat} {p : Inf} {w : Vc} (h : l[k]? = some p) (hw : wayR br p = some w) (hc : cmpR w (rootV br (l.take k)) < 0) : rootV br (l.take (k + 1)) = w ∧ scanP br l (k + 1) = some k := by
  have e : rootV br (l.take (k + 1)) = w := by
    rw [root_next h]; unfold stepV; rw [hw]; simp only
    rw [if_pos hc]
  refine ⟨e, ?_⟩
  have hk : k < l.length := (List.getElem?_eq_some_iff.1 h).1
  have hm : ¬ w = mineR br := by
    rintro rfl
    have h1 := (root_is br (l.take k)).own
    have h2 := cmp_neg (mineR br) (rootV br (l.take k))
    omega
  unfold scanP
  rw [e, if_neg hm, portN, h]
  simp only
  rw [if_pos hw]
  have hp : portN br w l k = none := by
    cases ho : portN br w l k with
    | none => rfl
    | some o =>
      obtain ⟨hlt, q, hq, hqw, _⟩ := (port_spec br w l k (by omega)).2 o ho
      have h1 := root_take_way hlt hq hqw
      have h2 := cmp_neg w (rootV br (l.take k))
      omega
  rw [hp]
theorem scan_eq {br : Int} {l : List Inf} {k : Nat} {p : Inf} {w : Vc} (h : l[k]? = some p) (hw : wayR br p = some w) (hc : cmpR w (rootV br (l.take k)) = 0) : rootV br (l.take k) = w ∧ rootV br (l.take (k + 1)) = w := by
  have e0 : w = rootV br (l.take k) := cmp_zero.1 hc
  refine ⟨e0.symm, ?_⟩
  rw [root_next h]; unfold stepV; rw [hw]; simp only
  rw [if_neg (by omega)]
  exact e0.symm
theorem scan_same_none {br : Int} {l : List Inf} {k : Nat} {p : Inf} {w : Vc} (h : l[k]? = some p) (hw : wayR br p = some w) (hc : cmpR w (rootV br (l.take k)) = 0) (ho : scanP br l k = none) : rootV br (l.take (k + 1)) = rootV br (l.take k) ∧ scanP br l (k + 1) = none := by
  obtain ⟨e0, e1⟩ := scan_eq h hw hc
  refine ⟨e1.trans e0.symm, ?_⟩
  have hk : k < l.length := (List.getElem?_eq_some_iff.1 h).1
  unfold scanP at ho ⊢
  rw [e1]
  rw [e0] at ho
  by_cases hm : w = mineR br
  · rw [if_pos hm]
  · exfalso
    rw [if_neg hm] at ho
    rcases (root_is br (l.take k)).is with h1 | ⟨q, hq, hqw⟩
    · exact hm (e0.symm.trans h1)
    · rw [e0] at hqw
      obtain ⟨i, hi⟩ := List.getElem?_of_mem hq
      have hik := (List.getElem?_eq_some_iff.1 hi).1
      rw [List.length_take] at hik
      rw [List.getElem?_take_of_lt (by omega)] at hi
      exact (port_spec br w l k (by omega)).1 ho i q (by omega) hi hqw
theorem scan_same_some {br : Int} {l : List Inf} {k j : Nat} {p q : Inf} {w : Vc} (h : l[k]? = some p) (hw : wayR br p = some w) (hc : cmpR w (rootV br (l.take k)) = 0) (ho : scanP br l k = some j) (hq : l[j]? = some q) : rootV br (l.take (k + 1)) = rootV br (l.take k) ∧ rootV br (l.take k) = w ∧ scanP br l (k + 1) = if p.id < q.id then some k else some j := by
  obtain ⟨e0, e1⟩ := scan_eq h hw hc
  refine ⟨e1.trans e0.symm, e0, ?_⟩
  unfold scanP at ho ⊢
  rw [e1]
  rw [e0] at ho
  by_cases hm : w = mineR br
  · rw [if_pos hm] at ho; cases ho
  · rw [if_neg hm] at ho ⊢
    rw [portN, h]
    simp only
    rw [if_pos hw, ho]
    simp only [hq]
theorem scan_lt {br : Int} {l : List Inf} {k j : Nat} (hk : k ≤ l.length) (ho : scanP br l k = some j) : j < k := by
  unfold scanP at ho
  split at ho
  · cases ho
  · exact ((port_spec br _ l k hk).2 j ho).lt
end Rm
end Go.Proofs.YtldobcfejldbiaaGreatDoor

namespace Go.Proofs.YtldobcfejldbiaaGreatDoor
set_option linter.unusedVariables false
set_option linter.unusedSimpArgs false
namespace Im
open Vm Rm Bm

/-- What a move makes of the port itself, and whether it is to sync, or to reroot, all. -/
structure Mv where
  own : Pt
  syncAll : Bool
  rerootAll : Bool

def syncedO (p : Pt) : Bool := p.ready && (decide (p.role = p.selected) && (decide (p.role = 1) || p.synced))
def rerootedO (p : Pt) : Bool := decide (p.rr = 0) || decide (p.role = 1)
/-- All others are so. -/
def othersB (f : Pt → Bool) (l : List Pt) (k : Nat) : Bool := l.zipIdx.all fun x => decide (x.2 = k) || f x.1

def stillB (p : Pt) : Bool := !p.learning && !p.forwarding
def agreesB (so : Bool) (p : Pt) : Bool := (!p.agree && so) || (p.proposed && p.agree)
/-- Of 0, 3 and 4: moves 3 to 6. -/
def blockF (t : Tm) (so : Bool) (p : Pt) : Option Mv :=
  if (!decide (p.role = 0) && (stillB p && (p.proposed && !p.agree))) = true then some ⟨{ p with proposed := false }, true, false⟩
  else if (!decide (p.role = 0) && agreesB so p) = true then some ⟨{ p with proposed := false, agree := true, newInfo := true }, false, false⟩
  else if (stillB p && (!decide (p.fd = if p.role = 0 then t.max else t.delay) || (p.sync || (p.reroot || !p.synced)))) = true then
    some ⟨{ p with fd := if p.role = 0 then t.max else t.delay, synced := true, rr := 0, sync := false, reroot := false }, false, false⟩
  else if (decide (p.role = 4) && !decide (p.rb = 2 * t.hello)) = true then some ⟨{ p with rb := 2 * t.hello }, false, false⟩
  else none
/-- Of 1: moves 7 to 13. -/
def rootF (t : Tm) (so ro : Bool) (p : Pt) : Option Mv :=
  if (p.proposed && !p.agree) = true then some ⟨{ p with proposed := false }, true, false⟩
  else if agreesB so p = true then some ⟨{ p with proposed := false, sync := false, agree := true, newInfo := true }, false, false⟩
  else if ((p.agreed && !p.synced) || (p.sync && p.synced)) = true then some ⟨{ p with synced := true, sync := false }, false, false⟩
  else if (!p.forward && !p.reroot) = true then some ⟨p, false, true⟩
  else if (!decide (p.rr = t.delay)) = true then some ⟨{ p with rr := t.delay }, false, false⟩
  else if (p.reroot && p.forward) = true then some ⟨{ p with reroot := false }, false, false⟩
  else if ((decide (p.fd = 0) || (decide (p.rb = 0) && (p.sendRstp && ro))) && !p.learn) = true then some ⟨{ p with learn := true, fd := t.delay }, false, false⟩
  else if ((decide (p.fd = 0) || (decide (p.rb = 0) && (p.sendRstp && ro))) && !p.forward) = true then some ⟨{ p with forward := true, fd := 0 }, false, false⟩
  else none
def desMay (p : Pt) : Bool := (decide (p.fd = 0) || (p.agreed || p.oper)) && ((decide (p.rr = 0) || !p.reroot) && (!p.sync && !p.disputed))
def desStops (p : Pt) : Bool := (p.sync && !p.synced) || ((p.reroot && !decide (p.rr = 0)) || p.disputed)
/-- Of 2: moves 14 to 18. -/
def desF (t : Tm) (p : Pt) : Option Mv :=
  if (!p.forward && (!p.agreed && (!p.proposing && (!p.oper && p.sendRstp)))) = true then some ⟨{ p with proposing := true, newInfo := true, edge := 3 }, false, false⟩
  else if ((!p.synced && (stillB p || (p.agreed || p.oper))) || (p.sync && p.synced)) = true then some ⟨{ p with rr := 0, synced := true, sync := false }, false, false⟩
  else if (decide (p.rr = 0) && p.reroot) = true then some ⟨{ p with reroot := false }, false, false⟩
  else if (desStops p && (!p.oper && (p.learn || p.forward))) = true then some ⟨{ p with learn := false, forward := false, disputed := false, fd := t.delay }, false, false⟩
  else if (desMay p && !p.learn) = true then some ⟨{ p with learn := true, fd := t.delay }, false, false⟩
  else if (desMay p && !p.forward) = true then some ⟨{ p with forward := true, fd := 0, agreed := p.sendRstp }, false, false⟩
  else none
/-- Moves 1 and 2. -/
def roleF' (t : Tm) (p : Pt) : Option Mv :=
  if p.selected = 0 ∨ p.selected = 3 ∨ p.selected = 4 then some ⟨{ p with role := p.selected, learn := false, forward := false }, false, false⟩
  else if p.selected = 1 then some ⟨{ p with role := 1, rr := t.delay }, false, false⟩
  else if p.selected = 2 then some ⟨{ p with role := 2 }, false, false⟩
  else none
/-- A port's move, by what the others are. -/
def moveF (t : Tm) (so ro : Bool) (p : Pt) : Option Mv :=
  if (p.ready && !p.update) = false then none
  else if ¬ p.selected = p.role then roleF' t p
  else if p.role = 0 ∨ p.role = 3 ∨ p.role = 4 then blockF t so p
  else if p.role = 1 then rootF t so ro p
  else if p.role = 2 then desF t p
  else none
/-- What a move makes of port i. -/
def spreadAt (m : Mv) (k i : Nat) (q : Pt) : Pt :=
  if i = k then { m.own with reroot := m.own.reroot || m.rerootAll }
  else { q with sync := q.sync || m.syncAll, reroot := q.reroot || m.rerootAll }
def moveAtP (t : Tm) (l : List Pt) (k : Nat) : Option (List Pt) :=
  if rightBr t = true then
    match l[k]? with
    | none => none
    | some p => (moveF t (othersB syncedO l k) (othersB rerootedO l k) p).map fun m => l.mapIdx (spreadAt m k)
  else none
def moveP (t : Tm) (l : List Pt) (k : Nat) : List Pt × Bool := match moveAtP t l k with | none => (l, false) | some m => (m, true)
def stateP (p : Pt) : Pt :=
  if p.learn = false then { p with learning := false, forwarding := false }
  else if p.learning = false then { p with forwarding := p.forwarding && p.forward, learning := true }
  else { p with forwarding := p.forward }
/-- Behind the moves and states of the first k ports. -/
def passN (t : Tm) (l : List Pt) : Nat → List Pt
  | 0 => l
  | k + 1 => ((moveP t (passN t l k) k).1).modify k stateP
def passP (t : Tm) (l : List Pt) : List Pt × Bool := (passN t l l.length, !decide (passN t l l.length = l))
/-! What TransSafe asks. -/
/-- What names a port, and what it was told. -/
structure Kpt (q p : Pt) : Prop where
  id : p.id = q.id
  cost : p.cost = q.cost
  on : p.on = q.on
  source : p.source = q.source
  vec : p.vec = q.vec
  times : p.times = q.times
  selected : p.selected = q.selected
  offer : p.offer = q.offer
  update : p.update = q.update
  ready : p.ready = q.ready
  reselect : p.reselect = q.reselect
  oper : p.oper = q.oper
  txCount : p.txCount = q.txCount
  role : p.role = q.role ∨ p.role = q.selected
theorem Kpt.refl (p : Pt) : Kpt p p := ⟨rfl, rfl, rfl, rfl, rfl, rfl, rfl, rfl, rfl, rfl, rfl, rfl, rfl, .inl rfl⟩
theorem Kpt.trans {a b c : Pt} (h : Kpt a b) (k : Kpt b c) : Kpt a c :=
  ⟨k.id.trans h.id, k.cost.trans h.cost, k.on.trans h.on, k.source.trans h.source, k.vec.trans h.vec, k.times.trans h.times, k.selected.trans h.selected, k.offer.trans h.offer, k.update.trans h.update, k.ready.trans h.ready, k.reselect.trans h.reselect, k.oper.trans h.oper, k.txCount.trans h.txCount, by
    rcases k.role with e | e
    · rw [e]; exact h.role
    · exact .inr (e.trans h.selected)⟩
/-- It learns where it may, and forwards where it may, and learns. -/
def safeB (p : Pt) : Bool := (p.learn || (!p.learning && !p.forwarding)) && ((p.forward || !p.forwarding) && (!p.forwarding || p.learning))
theorem state_safe (p : Pt) : safeB (stateP p) = true := by
  unfold stateP
  by_cases h : p.learn = false
  · rw [if_pos h]; simp [safeB]
  · rw [if_neg h]
    have h' : p.learn = true := by cases hl : p.learn; exact absurd hl h; rfl
    by_cases h2 : p.learning = false
    · rw [if_pos h2]; simp only [safeB, h']; cases p.forwarding <;> cases p.forward <;> decide
    · rw [if_neg h2]
      have h3 : p.learning = true := by cases hl : p.learning; exact absurd hl h2; rfl
      simp only [safeB, h', h3]; cases p.forward <;> decide
theorem state_kept (p : Pt) : Kpt p (stateP p) := by
  unfold stateP
  split
  · exact ⟨rfl, rfl, rfl, rfl, rfl, rfl, rfl, rfl, rfl, rfl, rfl, rfl, rfl, .inl rfl⟩
  · split
    · exact ⟨rfl, rfl, rfl, rfl, rfl, rfl, rfl, rfl, rfl, rfl, rfl, rfl, rfl, .inl rfl⟩
    · exact ⟨rfl, rfl, rfl, rfl, rfl, rfl, rfl, rfl, rfl, rfl, rfl, rfl, rfl, .inl rfl⟩
theorem role_kept {t : Tm} {p : Pt} {m : Mv} (h : roleF' t p = some m) : Kpt p m.own := by
  unfold roleF' at h
  split at h
  · cases h; exact ⟨rfl, rfl, rfl, rfl, rfl, rfl, rfl, rfl, rfl, rfl, rfl, rfl, rfl, .inr rfl⟩
  · split at h
    · rename_i e; cases h; exact ⟨rfl, rfl, rfl, rfl, rfl, rfl, rfl, rfl, rfl, rfl, rfl, rfl, rfl, .inr e.symm⟩
    · split at h
      · rename_i e; cases h; exact ⟨rfl, rfl, rfl, rfl, rfl, rfl, rfl, rfl, rfl, rfl, rfl, rfl, rfl, .inr e.symm⟩
      · cases h
theorem block_kept {t : Tm} {so : Bool} {p : Pt} {m : Mv} (h : blockF t so p = some m) : Kpt p m.own := by
  unfold blockF at h
  repeat' split at h
  all_goals first | (cases h; done) | (cases h; exact ⟨rfl, rfl, rfl, rfl, rfl, rfl, rfl, rfl, rfl, rfl, rfl, rfl, rfl, .inl rfl⟩)
theorem root_kept {t : Tm} {so ro : Bool} {p : Pt} {m : Mv} (h : rootF t so ro p = some m) : Kpt p m.own := by
  unfold rootF at h
  repeat' split at h
  all_goals first | (cases h; done) | (cases h; exact ⟨rfl, rfl, rfl, rfl, rfl, rfl, rfl, rfl, rfl, rfl, rfl, rfl, rfl, .inl rfl⟩)
theorem des_kept {t : Tm} {p : Pt} {m : Mv} (h : desF t p = some m) : Kpt p m.own := by
  unfold desF at h
  repeat' split at h
  all_goals first | (cases h; done) | (cases h; exact ⟨rfl, rfl, rfl, rfl, rfl, rfl, rfl, rfl, rfl, rfl, rfl, rfl, rfl, .inl rfl⟩)
theorem move_kept {t : Tm} {so ro : Bool} {p : Pt} {m : Mv} (h : moveF t so ro p = some m) : Kpt p m.own := by
  unfold moveF at h
  split at h
  · cases h
  · split at h
    · exact role_kept h
    · split at h
      · exact block_kept h
      · split at h
        · exact root_kept h
        · split at h
          · exact des_kept h
          · cases h
/-- What another port's move leaves of a port. -/
theorem spread_other {m : Mv} {k i : Nat} {q : Pt} (hne : ¬ i = k) : Kpt q (spreadAt m k i q) ∧ safeB (spreadAt m k i q) = safeB q := by
  unfold spreadAt
  rw [if_neg hne]
  exact ⟨⟨rfl, rfl, rfl, rfl, rfl, rfl, rfl, rfl, rfl, rfl, rfl, rfl, rfl, .inl rfl⟩, rfl⟩
theorem spread_own {m : Mv} {k : Nat} {q : Pt} (h : Kpt q m.own) : Kpt q (spreadAt m k k q) := by
  unfold spreadAt
  rw [if_pos rfl]
  exact h.trans ⟨rfl, rfl, rfl, rfl, rfl, rfl, rfl, rfl, rfl, rfl, rfl, rfl, rfl, .inl rfl⟩
theorem moveP_len (t : Tm) (l : List Pt) (k : Nat) : (moveP t l k).1.length = l.length := by
  unfold moveP moveAtP
  by_cases h : rightBr t = true
  · rw [if_pos h]
    cases hp : l[k]? with
    | none => rfl
    | some p =>
      dsimp only
      cases moveF t (othersB syncedO l k) (othersB rerootedO l k) p with
      | none => rfl
      | some m => simp
  · rw [if_neg h]
theorem moveP_at {t : Tm} {l : List Pt} {k i : Nat} {q : Pt} (hi : l[i]? = some q) : ∃ p, (moveP t l k).1[i]? = some p ∧ Kpt q p ∧ (¬ i = k → safeB p = safeB q) := by
  unfold moveP moveAtP
  by_cases h : rightBr t = true
  · rw [if_pos h]
    cases hp : l[k]? with
    | none => exact ⟨q, hi, Kpt.refl q, fun _ => rfl⟩
    | some p =>
      dsimp only
      cases hm : moveF t (othersB syncedO l k) (othersB rerootedO l k) p with
      | none => exact ⟨q, hi, Kpt.refl q, fun _ => rfl⟩
      | some m =>
        refine ⟨spreadAt m k i q, by simp [hi], ?_, fun hne => (spread_other hne).2⟩
        by_cases hne : i = k
        · subst hne
          rw [hi] at hp
          cases hp
          exact spread_own (move_kept hm)
        · exact (spread_other hne).1
  · rw [if_neg h]
    exact ⟨q, hi, Kpt.refl q, fun _ => rfl⟩
theorem passN_len (t : Tm) (l : List Pt) : ∀ k, (passN t l k).length = l.length
  | 0 => rfl
  | k + 1 => by
    show ((moveP t (passN t l k) k).1.modify k stateP).length = _
    rw [List.length_modify, moveP_len, passN_len t l k]
theorem passN_at {t : Tm} {l : List Pt} {i : Nat} {q : Pt} (hi : l[i]? = some q) : ∀ k, ∃ p, (passN t l k)[i]? = some p ∧ Kpt q p ∧ (i < k → safeB p = true)
  | 0 => ⟨q, hi, Kpt.refl q, fun h => absurd h (by omega)⟩
  | k + 1 => by
    obtain ⟨p, hp, hk, hs⟩ := passN_at (t := t) hi k
    obtain ⟨r, hr, hk2, hs2⟩ := moveP_at (t := t) (k := k) hp
    show ∃ p, ((moveP t (passN t l k) k).1.modify k stateP)[i]? = some p ∧ _
    rw [List.getElem?_modify, hr]
    by_cases e : k = i
    · subst e
      refine ⟨stateP r, by simp, (hk.trans hk2).trans (state_kept r), fun _ => state_safe r⟩
    · refine ⟨r, by simp [e], hk.trans hk2, fun h => ?_⟩
      rw [hs2 (fun h => e h.symm)]
      exact hs (by omega)
/-- P12.2. -/
theorem pass_safe {t : Tm} {l : List Pt} {i : Nat} {q : Pt} (hi : l[i]? = some q) : ∃ p, (passP t l).1[i]? = some p ∧ Kpt q p ∧ safeB p = true := by
  obtain ⟨p, hp, hk, hs⟩ := passN_at (t := t) hi l.length
  exact ⟨p, hp, hk, hs (List.getElem?_eq_some_iff.1 hi).1⟩
theorem pass_len (t : Tm) (l : List Pt) : (passP t l).1.length = l.length := passN_len t l l.length
end Im
end Go.Proofs.YtldobcfejldbiaaGreatDoor

namespace Go.Proofs.YtldobcfejldbiaaGreatDoor
set_option linter.unusedVariables false
set_option linter.unusedSimpArgs false
namespace Im
open Vm Rm Bm

/-- A port counts down anew. -/
def countP (t : Tm) (p : Pt) : Pt :=
  if ¬ p.tc = 0 then p else if p.sendRstp = true then { p with tc := t.hello + 1, newInfo := true } else { p with tc := t.max + t.delay }
def forgetP (p : Pt) : Pt := { p with heardTc := false, heardTcn := false, heardAck := false, tcProp := false }
def inB (p : Pt) : Bool := decide (p.role = 1) || decide (p.role = 2)
def toldB (p : Pt) : Bool := p.heardTc || (p.heardTcn || (p.heardAck || p.tcProp))
/-- Step 6: what it heard. -/
def heedP13 (p : Pt) : Pt := if p.role = 2 then { p with heardTc := false, heardTcn := false, tcAck := true } else { p with heardTc := false, heardTcn := false }
/-- A port's step: what it makes of the port, and whether all others are told. -/
def stepF (t : Tm) (p : Pt) : Option (Pt × Bool) :=
  if (decide (p.change = 0) && (p.learn && !p.flush)) = true then some (forgetP { p with change := 1 }, false)
  else if (decide (p.change = 1) && (inB p && (p.forward && !p.oper))) = true then some ({ countP t p with newInfo := true, change := 2 }, true)
  else if (decide (p.change = 1) && (!inB p && (!p.learn && (!p.learning && !toldB p)))) = true then some ({ p with change := 0, flush := true, tc := 0, tcAck := false }, false)
  else if (decide (p.change = 1) && toldB p) = true then some (forgetP p, false)
  else if (decide (p.change = 2) && (!inB p || p.oper)) = true then some (forgetP { p with change := 1 }, false)
  else if (decide (p.change = 2) && (p.heardTcn || p.heardTc)) = true then some (heedP13 (if p.heardTcn = true then countP t p else p), true)
  else if (decide (p.change = 2) && p.tcProp) = true then some ({ countP t p with flush := true, tcProp := false }, false)
  else if (decide (p.change = 2) && p.heardAck) = true then some ({ p with tc := 0, heardAck := false }, false)
  else none
def tellAt (X : Pt) (tells : Bool) (k i : Nat) (q : Pt) : Pt := if i = k then X else { q with tcProp := q.tcProp || tells }
def stepP (t : Tm) (l : List Pt) (k : Nat) : List Pt × Bool :=
  if rightBr t = true then
    match l[k]? with
    | none => (l, false)
    | some p => match stepF t p with
      | none => (l, false)
      | some m => (l.mapIdx (tellAt m.1 m.2 k), true)
  else (l, false)
def cpassN (t : Tm) (l : List Pt) : Nat → List Pt
  | 0 => l
  | k + 1 => (stepP t (cpassN t l k) k).1
def cpassP (t : Tm) (l : List Pt) : List Pt × Bool := (cpassN t l l.length, !decide (cpassN t l l.length = l))
/-- Flush off in all; the Ids of those in which it was on. -/
def offP (p : Pt) : Pt := { p with flush := false }
def flushedP (l : List Pt) : List Pt × List Int := (l.map offP, (l.filter Pt.flush).map Pt.id)

theorem stepP_wrong {t : Tm} {l : List Pt} {k : Nat} (h : rightBr t = false) : stepP t l k = (l, false) := by
  unfold stepP
  rw [if_neg (by rw [h]; decide)]
theorem stepP_out {t : Tm} {l : List Pt} {k : Nat} (h : ¬ k < l.length) : stepP t l k = (l, false) := by
  unfold stepP
  rw [List.getElem?_eq_none (by omega)]
  by_cases hb : rightBr t = true
  · rw [if_pos hb]
  · rw [if_neg hb]
theorem stepP_no {t : Tm} {l : List Pt} {k : Nat} {p : Pt} (hp : l[k]? = some p) (hm : stepF t p = none) : stepP t l k = (l, false) := by
  unfold stepP
  rw [hp]
  by_cases hb : rightBr t = true
  · rw [if_pos hb]
    simp only [hm]
  · rw [if_neg hb]
theorem stepP_yes {t : Tm} {l : List Pt} {k : Nat} {p : Pt} {X : Pt} {T : Bool} (hb : rightBr t = true) (hp : l[k]? = some p) (hm : stepF t p = some (X, T)) : stepP t l k = (l.mapIdx (tellAt X T k), true) := by
  unfold stepP
  rw [if_pos hb, hp]
  simp only [hm]
theorem stepP_len (t : Tm) (l : List Pt) (k : Nat) : (stepP t l k).1.length = l.length := by
  unfold stepP
  split
  · split
    · rfl
    · split
      · rfl
      · simp
  · rfl
theorem cpassN_len (t : Tm) (l : List Pt) : ∀ k, (cpassN t l k).length = l.length
  | 0 => rfl
  | k + 1 => by
    show (stepP t (cpassN t l k) k).1.length = _
    rw [stepP_len, cpassN_len t l k]

/-! What ChangeTells asks. -/
/-- What a step leaves of the port itself. -/
structure Kch (q p : Pt) : Prop where
  role : p.role = q.role
  learn : p.learn = q.learn
  forward : p.forward = q.forward
  learning : p.learning = q.learning
  forwarding : p.forwarding = q.forwarding
  vec : p.vec = q.vec
  source : p.source = q.source
  tcProp : p.tcProp = true → q.tcProp = true
theorem Kch.refl (p : Pt) : Kch p p := ⟨rfl, rfl, rfl, rfl, rfl, rfl, rfl, id⟩
theorem count_kch (t : Tm) (p : Pt) : Kch p (countP t p) := by
  unfold countP
  split
  · exact Kch.refl p
  · split
    · exact ⟨rfl, rfl, rfl, rfl, rfl, rfl, rfl, id⟩
    · exact ⟨rfl, rfl, rfl, rfl, rfl, rfl, rfl, id⟩
theorem step_kch {t : Tm} {p X : Pt} {T : Bool} (h : stepF t p = some (X, T)) : Kch p X := by
  unfold stepF at h
  have c := count_kch t p
  split at h
  · cases h; exact ⟨rfl, rfl, rfl, rfl, rfl, rfl, rfl, fun e => by cases e⟩
  split at h
  · cases h; exact ⟨c.role, c.learn, c.forward, c.learning, c.forwarding, c.vec, c.source, c.tcProp⟩
  split at h
  · cases h; exact ⟨rfl, rfl, rfl, rfl, rfl, rfl, rfl, id⟩
  split at h
  · cases h; exact ⟨rfl, rfl, rfl, rfl, rfl, rfl, rfl, fun e => by cases e⟩
  split at h
  · cases h; exact ⟨rfl, rfl, rfl, rfl, rfl, rfl, rfl, fun e => by cases e⟩
  split at h
  · cases h
    have key : ∀ q, Kch p q → Kch p (heedP13 q) := fun q c => by
      unfold heedP13
      split
      · exact ⟨c.role, c.learn, c.forward, c.learning, c.forwarding, c.vec, c.source, c.tcProp⟩
      · exact ⟨c.role, c.learn, c.forward, c.learning, c.forwarding, c.vec, c.source, c.tcProp⟩
    refine key _ ?_
    split
    · exact c
    · exact Kch.refl p
  split at h
  · cases h; exact ⟨c.role, c.learn, c.forward, c.learning, c.forwarding, c.vec, c.source, fun e => by cases e⟩
  split at h
  · cases h; exact ⟨rfl, rfl, rfl, rfl, rfl, rfl, rfl, id⟩
  · cases h
def mustB13 (p : Pt) : Bool := decide (p.change = 2) && (inB p && (!p.oper && (p.heardTc || p.heardTcn)))
theorem step_must {t : Tm} {p : Pt} (h : mustB13 p = true) : ∃ X, stepF t p = some (X, true) := by
  unfold mustB13 at h
  simp only [Bool.and_eq_true, decide_eq_true_eq, Bool.or_eq_true, Bool.not_eq_true'] at h
  obtain ⟨h1, h2, h3, h4⟩ := h
  have d0 : decide (p.change = 0) = false := by rw [h1]; rfl
  have d1 : decide (p.change = 1) = false := by rw [h1]; rfl
  have d2 : decide (p.change = 2) = true := by rw [h1]; rfl
  have d4 : (p.heardTcn || p.heardTc) = true := by rw [Bool.or_comm]; simpa using h4
  unfold stepF
  rw [d0, d1, d2, h2, h3, d4]
  exact ⟨_, rfl⟩
/-- Behind a step, of a port's own place and of any other. -/
theorem step_at {t : Tm} {l : List Pt} {k i : Nat} {p q : Pt} (hb : rightBr t = true) (hp : l[k]? = some p) (hq : l[i]? = some q) :
    ∃ r, (stepP t l k).1[i]? = some r ∧ (i = k → Kch q r) ∧ (¬ i = k → ∃ T : Bool, r = { q with tcProp := q.tcProp || T } ∧ (mustB13 p = true → T = true)) := by
  cases hs : stepF t p with
  | none =>
    rw [stepP_no hp hs]
    refine ⟨q, hq, fun _ => Kch.refl q, fun _ => ⟨false, by simp, fun hm => ?_⟩⟩
    obtain ⟨X, hX⟩ := step_must (t := t) hm
    rw [hs] at hX
    cases hX
  | some m =>
    obtain ⟨X, T⟩ := m
    rw [stepP_yes hb hp hs]
    refine ⟨tellAt X T k i q, by simp [hq], fun e => ?_, fun e => ⟨T, ?_, fun hm => ?_⟩⟩
    · subst e
      rw [hp] at hq
      cases hq
      unfold tellAt
      rw [if_pos rfl]
      exact step_kch hs
    · unfold tellAt
      rw [if_neg e]
    · obtain ⟨Y, hY⟩ := step_must (t := t) hm
      rw [hs] at hY
      cases hY
      rfl
end Im
end Go.Proofs.YtldobcfejldbiaaGreatDoor

namespace Go.Proofs.YtldobcfejldbiaaGreatDoor
set_option linter.unusedVariables false
set_option linter.unusedSimpArgs false
namespace Im
open Vm Rm Bm

/-! ### The tongue -/
def checksP (p : Pt) : Pt := { p with migrate := 0, check := false, sendRstp := true, md := 3 }
def sensesP (p : Pt) : Pt := { p with migrate := 2, heardRstp := false, heardStp := false }
def oldP (p : Pt) : Pt := { p with sendRstp := false, md := 3, migrate := 1 }
def tongueP (p : Pt) : Pt :=
  if p.migrate = 0 then (if p.on = false ∧ ¬ p.md = 3 then checksP p else if p.md = 0 then sensesP p else p)
  else if p.migrate = 1 then (if p.md = 0 ∨ p.on = false ∨ p.check = true then sensesP p else p)
  else if p.migrate = 2 then
    (if p.on = false ∨ p.check = true ∨ (p.sendRstp = false ∧ p.heardRstp = true) then checksP p
     else if p.sendRstp = true ∧ p.heardStp = true then oldP p else p)
  else p
def edgeB (p : Pt) : Bool := p.on && (!p.oper && (p.proposing && (p.sendRstp && decide (p.edge = 0))))
def edgeP (p : Pt) : Pt := if edgeB p = true then { p with oper := true } else p
/-- Nothing but the tongue's own cells is touched. -/
structure Tg (p q : Pt) : Prop where
  on : q.on = p.on
  role : q.role = p.role
  learn : q.learn = p.learn
  vec : q.vec = p.vec
theorem tongue_keeps (p : Pt) : Tg p (tongueP p) := by
  unfold tongueP
  repeat' split
  all_goals exact ⟨rfl, rfl, rfl, rfl⟩
theorem tongue_far {p : Pt} (h : p.migrate < 0 ∨ 2 < p.migrate) : tongueP p = p := by
  unfold tongueP
  rw [if_neg (by omega), if_neg (by omega), if_neg (by omega)]
theorem tongue_old {p : Pt} (h : p.migrate = 2) (ho : p.on = true) (hc : p.check = false) (hs : p.sendRstp = true) (hh : p.heardStp = true) : tongueP p = oldP p := by
  unfold tongueP
  rw [if_neg (by omega), if_neg (by omega), if_pos h, if_neg (by simp [ho, hc, hs]), if_pos ⟨hs, hh⟩]
theorem tongue_new {p : Pt} (h : p.migrate = 2) (hs : p.sendRstp = false) (hh : p.heardRstp = true) : tongueP p = checksP p := by
  unfold tongueP
  rw [if_neg (by omega), if_neg (by omega), if_pos h, if_pos (.inr (.inr ⟨hs, hh⟩))]
theorem tongue_told {p : Pt} (h : p.migrate = 2) (hc : p.check = true ∨ p.on = false) : tongueP p = checksP p := by
  unfold tongueP
  rw [if_neg (by omega), if_neg (by omega), if_pos h, if_pos (hc.elim (fun h => .inr (.inl h)) .inl)]
theorem edge_oper {p : Pt} (h : p.oper = true) : edgeP p = p := by
  unfold edgeP edgeB
  rw [if_neg (by simp [h])]
theorem edge_back (p : Pt) : { edgeP p with oper := p.oper } = p := by
  unfold edgeP
  split <;> rfl
theorem edge_when {p : Pt} (h : (edgeP p).oper = true) (h0 : p.oper = false) : p.on = true ∧ p.proposing = true ∧ p.edge = 0 := by
  unfold edgeP at h
  split at h
  · rename_i hb
    simp [edgeB] at hb
    exact ⟨hb.1, hb.2.2.1, hb.2.2.2.2⟩
  · rw [h0] at h; cases h

/-! ### What goes out -/
def bI (b : Bool) (n : Int) : Int := if b = true then n else 0
def toldRole (r : Int) : Int := if r = 1 then 2 else if r = 2 then 3 else if r = 3 ∨ r = 4 then 1 else 0
def flagsI (p : Pt) (config : Bool) : Int :=
  if config = true then bI (decide (0 < p.tc)) 1 + bI p.tcAck 128
  else bI (decide (0 < p.tc)) 1 + bI p.proposing 2 + 4 * toldRole p.role + bI p.learning 16 + bI p.forwarding 32 + bI p.agree 64
def scaledI (n : Int) : Int := if 65535 < n * 256 then 65535 else n * 256
def kindP (p : Pt) : Int :=
  if p.sendRstp = true then (if 1 ≤ p.role ∧ p.role ≤ 4 then 3 else 0)
  else if p.role = 2 then 1 else if p.role = 1 then 2 else 0
def helloP (t : Tm) (p : Pt) : Pt :=
  if p.hello = 0 then { p with newInfo := p.newInfo || (decide (p.role = 2) || (decide (p.role = 1) && !decide (p.tc = 0))), hello := t.hello } else p
def msgP (p : Pt) : Bp :=
  ⟨kindP p, flagsI p (decide (kindP p = 1)), p.offer.root, p.offer.cost, p.offer.bridge, p.offer.port, scaledI p.given.age, scaledI p.given.max, scaledI p.given.hello, scaledI p.given.delay⟩
def noticeM : Bp := ⟨2, 0, 0, 0, 0, 0, 0, 0, 0, 0⟩
def zeroM : Bp := ⟨0, 0, 0, 0, 0, 0, 0, 0, 0, 0⟩
def goesB (t : Tm) (p : Pt) : Bool := rightBr t && (p.on && (p.ready && !p.update))
def sendP (t : Tm) (p : Pt) : Pt × Bp × Bool :=
  if goesB t p = false then (p, zeroM, false)
  else if (helloP t p).newInfo = false ∨ 5 < (helloP t p).txCount then (helloP t p, zeroM, false)
  else if kindP p = 0 then ({ helloP t p with newInfo := false }, zeroM, false)
  else if kindP p = 2 then ({ helloP t p with newInfo := false, txCount := (helloP t p).txCount + 1 }, noticeM, true)
  else ({ helloP t p with newInfo := false, txCount := (helloP t p).txCount + 1, tcAck := false }, msgP (helloP t p), true)

theorem hello_tx (t : Tm) (p : Pt) : (helloP t p).txCount = p.txCount := by unfold helloP; split <;> rfl
theorem hello_new {t : Tm} {p : Pt} (h : p.newInfo = true) : (helloP t p).newInfo = true := by
  unfold helloP
  split
  · show (p.newInfo || _) = true
    rw [h]; rfl
  · exact h
/-- What sending leaves. -/
structure Sd (p q : Pt) : Prop where
  on : q.on = p.on
  ready : q.ready = p.ready
  update : q.update = p.update
  sendRstp : q.sendRstp = p.sendRstp
  role : q.role = p.role
  offer : q.offer = p.offer
  given : q.given = p.given
theorem Sd.refl (p : Pt) : Sd p p := ⟨rfl, rfl, rfl, rfl, rfl, rfl, rfl⟩
theorem Sd.trans {p q r : Pt} (h : Sd p q) (h' : Sd q r) : Sd p r :=
  ⟨h'.on.trans h.on, h'.ready.trans h.ready, h'.update.trans h.update, h'.sendRstp.trans h.sendRstp, h'.role.trans h.role, h'.offer.trans h.offer, h'.given.trans h.given⟩
theorem hello_keeps (t : Tm) (p : Pt) : Sd p (helloP t p) := by unfold helloP; split <;> exact ⟨rfl, rfl, rfl, rfl, rfl, rfl, rfl⟩
theorem send_keeps (t : Tm) (p : Pt) : Sd p (sendP t p).1 := by
  have h := hello_keeps t p
  unfold sendP
  repeat' split
  · exact Sd.refl p
  · exact h
  · exact ⟨h.on, h.ready, h.update, h.sendRstp, h.role, h.offer, h.given⟩
  · exact ⟨h.on, h.ready, h.update, h.sendRstp, h.role, h.offer, h.given⟩
  · exact ⟨h.on, h.ready, h.update, h.sendRstp, h.role, h.offer, h.given⟩
theorem kind_keeps {p q : Pt} (h : Sd p q) : kindP q = kindP p := by unfold kindP; rw [h.sendRstp, h.role]
theorem goes_keeps (t : Tm) {p q : Pt} (h : Sd p q) : goesB t q = goesB t p := by unfold goesB; rw [h.on, h.ready, h.update]
/-- May it send at all, whenever something is new? -/
def canB (t : Tm) (p : Pt) : Bool := goesB t p && !decide (kindP p = 0)
theorem can_keeps (t : Tm) {p q : Pt} (h : Sd p q) : canB t q = canB t p := by unfold canB; rw [goes_keeps t h, kind_keeps h]
theorem send_no {t : Tm} {p : Pt} (h : (sendP t p).2.2 = false) : (sendP t p).2.1 = zeroM ∧ (sendP t p).1.txCount = p.txCount := by
  have e := hello_tx t p
  unfold sendP at h ⊢
  repeat' split at h
  · rename_i h1; rw [if_pos h1]; exact ⟨rfl, rfl⟩
  · rename_i h1 h2; rw [if_neg h1, if_pos h2]; exact ⟨rfl, e⟩
  · rename_i h1 h2 h3; rw [if_neg h1, if_neg h2, if_pos h3]; exact ⟨rfl, e⟩
  · cases h
  · cases h
/-- Something is sent: just when it may, and fewer than six are counted. -/
theorem send_yes {t : Tm} {p : Pt} (h : (sendP t p).2.2 = true) :
    canB t p = true ∧ p.txCount ≤ 5 ∧ (sendP t p).1.txCount = p.txCount + 1 ∧ (sendP t p).2.1 = (if kindP p = 2 then noticeM else msgP (helloP t p)) := by
  have e := hello_tx t p
  unfold sendP at h ⊢
  repeat' split at h
  · cases h
  · cases h
  · cases h
  · rename_i h1 h2 h3 h4
    rw [if_neg h1, if_neg h2, if_neg h3, if_pos h4]
    refine ⟨by unfold canB; rw [Bool.not_eq_false] at h1; rw [h1, decide_eq_false h3]; rfl, by omega, ?_, by rw [if_pos h4]⟩
    show (helloP t p).txCount + 1 = _
    rw [e]
  · rename_i h1 h2 h3 h4
    rw [if_neg h1, if_neg h2, if_neg h3, if_neg h4]
    refine ⟨by unfold canB; rw [Bool.not_eq_false] at h1; rw [h1, decide_eq_false h3]; rfl, by omega, ?_, by rw [if_neg h4]⟩
    show (helloP t p).txCount + 1 = _
    rw [e]
theorem send_new {t : Tm} {p : Pt} (h : p.newInfo = true) (hc : canB t p = true) (h5 : p.txCount ≤ 5) : (sendP t p).2.2 = true := by
  unfold canB at hc
  rw [Bool.and_eq_true] at hc
  have hk : ¬ kindP p = 0 := by simpa using hc.2
  have e := hello_tx t p
  unfold sendP
  rw [if_neg (by rw [hc.1]; decide), if_neg (by rw [hello_new h]; simp; omega), if_neg hk]
  split <;> rfl

/-! ### What is sent is right -/
theorem bI_or (b : Bool) (n : Int) : (b = true ∧ bI b n = n) ∨ (b = false ∧ bI b n = 0) := by cases b <;> simp [bI]
theorem toldRole_in (r : Int) : 0 ≤ toldRole r ∧ toldRole r ≤ 3 := by
  unfold toldRole
  repeat' split
  all_goals omega
theorem flagsI_in (p : Pt) (c : Bool) : 0 ≤ flagsI p c ∧ flagsI p c ≤ 255 := by
  have h := toldRole_in p.role
  unfold flagsI
  have a1 := bI_or (decide (0 < p.tc)) 1
  have a2 := bI_or p.tcAck 128
  have a3 := bI_or p.proposing 2
  have a4 := bI_or p.learning 16
  have a5 := bI_or p.forwarding 32
  have a6 := bI_or p.agree 64
  split <;> omega
theorem flagsI_role (p : Pt) : roleF (flagsI p false) = toldRole p.role := by
  have h := toldRole_in p.role
  unfold flagsI roleF
  rw [if_neg (by decide)]
  have a1 := bI_or (decide (0 < p.tc)) 1
  have a3 := bI_or p.proposing 2
  have a4 := bI_or p.learning 16
  have a5 := bI_or p.forwarding 32
  have a6 := bI_or p.agree 64
  omega
theorem toldRole_three (r : Int) : toldRole r = 3 ↔ r = 2 := by
  unfold toldRole
  repeat' split
  all_goals omega
theorem scaledI_in {n : Int} (h : 0 ≤ n) : 0 ≤ scaledI n ∧ scaledI n ≤ 65535 := by unfold scaledI; split <;> omega
theorem withinB_of {n m : Int} (h : 0 ≤ n ∧ n ≤ m) : withinB n m = true := decide_eq_true h
theorem notice_right : rightB noticeM = true := by decide
theorem kind_is (p : Pt) : kindP p = 0 ∨ kindP p = 1 ∨ kindP p = 2 ∨ kindP p = 3 := by
  unfold kindP
  repeat' split
  all_goals first | exact .inl rfl | exact .inr (.inl rfl) | exact .inr (.inr (.inl rfl)) | exact .inr (.inr (.inr rfl))
theorem msg_right {p : Pt} (h0 : ¬ kindP p = 0) (h2 : ¬ kindP p = 2) (hc : p.offer.cost ≤ 4294967295) (hp : p.offer.port ≤ 65535) (ha : 0 ≤ p.given.age) (hm : 0 ≤ p.given.max) (hh : 0 ≤ p.given.hello) (hd : 0 ≤ p.given.delay) : rightB (msgP p) = true := by
  unfold rightB
  rw [if_neg (show ¬ (msgP p).kind = 2 from h2), if_pos (show (msgP p).kind = 1 ∨ (msgP p).kind = 3 by show kindP p = 1 ∨ kindP p = 3; rcases kind_is p with h | h | h | h <;> simp_all)]
  unfold numsB msgP
  simp only [Bool.and_eq_true]
  exact ⟨withinB_of (flagsI_in _ _), decide_eq_true hc, decide_eq_true hp, withinB_of (scaledI_in ha), withinB_of (scaledI_in hm), withinB_of (scaledI_in hh), withinB_of (scaledI_in hd)⟩

/-! ### Again and again -/
/-- The timers, and how many were sent, are 64 bits wide. -/
def TkP (p : Pt) : Prop := (-9223372036854775808 ≤ p.fd ∧ p.fd ≤ 9223372036854775807) ∧ (-9223372036854775808 ≤ p.rr ∧ p.rr ≤ 9223372036854775807) ∧ (-9223372036854775808 ≤ p.rb ∧ p.rb ≤ 9223372036854775807) ∧ (-9223372036854775808 ≤ p.tc ∧ p.tc ≤ 9223372036854775807) ∧ (-9223372036854775808 ≤ p.edge ∧ p.edge ≤ 9223372036854775807) ∧ (-9223372036854775808 ≤ p.md ∧ p.md ≤ 9223372036854775807) ∧ (-9223372036854775808 ≤ p.info ∧ p.info ≤ 9223372036854775807) ∧ (-9223372036854775808 ≤ p.hello ∧ p.hello ≤ 9223372036854775807) ∧ (-9223372036854775808 ≤ p.txCount ∧ p.txCount ≤ 9223372036854775807)
theorem hello_tk {t : Tm} {p : Pt} (hb : rightBr t = true) (h : TkP p) : TkP (helloP t p) := by
  obtain ⟨h1, h2, h3, h4, h5, h6, h7, h8, h9⟩ := h
  unfold helloP
  split
  · refine ⟨h1, h2, h3, h4, h5, h6, h7, ?_, h9⟩
    unfold rightBr at hb
    have := of_decide_eq_true hb
    show -9223372036854775808 ≤ t.hello ∧ t.hello ≤ 9223372036854775807
    omega
  · exact ⟨h1, h2, h3, h4, h5, h6, h7, h8, h9⟩
theorem send_tk {t : Tm} {p : Pt} (h : TkP p) : TkP (sendP t p).1 := by
  unfold sendP
  by_cases hg : goesB t p = false
  · rw [if_pos hg]; exact h
  · rw [if_neg hg]
    have hb : rightBr t = true := by
      cases hr : rightBr t
      · exact absurd (by unfold goesB; rw [hr]; rfl) hg
      · rfl
    have hh := hello_tk hb h
    obtain ⟨h1, h2, h3, h4, h5, h6, h7, h8, h9⟩ := hh
    by_cases h0 : (helloP t p).newInfo = false ∨ 5 < (helloP t p).txCount
    · rw [if_pos h0]; exact ⟨h1, h2, h3, h4, h5, h6, h7, h8, h9⟩
    · rw [if_neg h0]
      have ht : (helloP t p).txCount ≤ 5 := by omega
      have h9' : -9223372036854775808 ≤ (helloP t p).txCount + 1 ∧ (helloP t p).txCount + 1 ≤ 9223372036854775807 := by omega
      split
      · exact ⟨h1, h2, h3, h4, h5, h6, h7, h8, h9⟩
      · split
        · exact ⟨h1, h2, h3, h4, h5, h6, h7, h8, h9'⟩
        · exact ⟨h1, h2, h3, h4, h5, h6, h7, h8, h9'⟩
theorem less_tk {n : Int} (h : -9223372036854775808 ≤ n ∧ n ≤ 9223372036854775807) : -9223372036854775808 ≤ lessI n ∧ lessI n ≤ 9223372036854775807 := by
  unfold lessI
  split <;> omega
theorem tick_tk {p : Pt} (h : TkP p) : TkP (tickP p) := by
  obtain ⟨h1, h2, h3, h4, h5, h6, h7, h8, h9⟩ := h
  exact ⟨less_tk h1, less_tk h2, less_tk h3, less_tk h4, less_tk h5, less_tk h6, less_tk h7, less_tk h8, less_tk h9⟩
/-- Behind so many sendings, each with something new, of which 'sent' went out. -/
structure Ag (t : Tm) (p q : Pt) (sent : Nat) : Prop where
  keeps : Sd p q
  tx : q.txCount = p.txCount + sent
  can : 0 < sent → canB t p = true ∧ q.txCount ≤ 6
  tk : TkP p → TkP q
theorem ag_zero (t : Tm) (p : Pt) : Ag t p p 0 := ⟨Sd.refl p, by omega, fun h => absurd h (by decide), id⟩
def newP1 (q : Pt) : Pt := { q with newInfo := true }
theorem newP1_keeps (q : Pt) : Sd q (newP1 q) := ⟨rfl, rfl, rfl, rfl, rfl, rfl, rfl⟩
theorem Ag.next {t : Tm} {p q : Pt} {sent : Nat} (h : Ag t p q sent) : Ag t p (sendP t (newP1 q)).1 (if (sendP t (newP1 q)).2.2 = true then sent + 1 else sent) := by
  have hk := h.keeps.trans ((newP1_keeps q).trans (send_keeps t (newP1 q)))
  have ht : TkP p → TkP (sendP t (newP1 q)).1 := fun h0 => send_tk (p := newP1 q) (h.tk h0)
  cases hb : (sendP t (newP1 q)).2.2 with
  | false =>
    rw [if_neg (by decide)]
    have e : (sendP t (newP1 q)).1.txCount = q.txCount := (send_no hb).2
    exact ⟨hk, e.trans h.tx, fun hs => ⟨(h.can hs).1, by rw [e]; exact (h.can hs).2⟩, ht⟩
  | true =>
    rw [if_pos rfl]
    obtain ⟨h1, h2, h3, h4⟩ := send_yes hb
    have h2' : q.txCount ≤ 5 := h2
    have e : (sendP t (newP1 q)).1.txCount = q.txCount + 1 := h3
    refine ⟨hk, by rw [e, h.tx]; omega, fun _ => ⟨?_, by omega⟩, ht⟩
    rw [← can_keeps t (h.keeps.trans (newP1_keeps q))]
    exact h1
theorem Ag.six {t : Tm} {p q : Pt} {sent : Nat} (h : Ag t p q sent) (h0 : 0 ≤ p.txCount) : sent ≤ 6 ∧ q.txCount ≤ max 6 p.txCount := by
  have := h.tx
  by_cases hs : 0 < sent
  · have := (h.can hs).2
    omega
  · omega
theorem newP1_tk {q : Pt} (h : TkP q) : TkP (newP1 q) := h
def tick6 (p : Pt) : Pt := tickP (tickP (tickP (tickP (tickP (tickP p)))))
theorem tick_keeps (p : Pt) : Sd p (tickP p) := ⟨rfl, rfl, rfl, rfl, rfl, rfl, rfl⟩
theorem tick6_keeps (p : Pt) : Sd p (tick6 p) :=
  (tick_keeps _).trans ((tick_keeps _).trans ((tick_keeps _).trans ((tick_keeps _).trans ((tick_keeps _).trans (tick_keeps _)))))
theorem less_le {n m : Int} (h : n ≤ m + 1) (hm : 0 ≤ m) : lessI n ≤ m := by unfold lessI; split <;> omega
theorem tick6_tx {p : Pt} (h : p.txCount ≤ 6) : (tick6 p).txCount ≤ 0 :=
  less_le (less_le (less_le (less_le (less_le (less_le (m := 5) h (by decide)) (by decide)) (by decide)) (by decide)) (by decide)) (by decide)
theorem tick6_tk {p : Pt} (h : TkP p) : TkP (tick6 p) := tick_tk (tick_tk (tick_tk (tick_tk (tick_tk (tick_tk h)))))
theorem ticks_tk {p : Pt} (h : TkP p) : ∀ j : Nat, TkP (Nat.rec p (fun _ x => tickP x) j)
  | 0 => h
  | j + 1 => tick_tk (ticks_tk h j)
/-- With ticks it sends again. -/
theorem Ag.again {t : Tm} {p q : Pt} {sent : Nat} (h : Ag t p q sent) (hs : 0 < sent) : (sendP t (newP1 (tick6 q))).2.2 = true := by
  obtain ⟨h1, h2⟩ := h.can hs
  refine send_new rfl ?_ ?_
  · rw [can_keeps t (h.keeps.trans ((tick6_keeps q).trans (newP1_keeps _)))]
    exact h1
  · have := tick6_tx h2
    show (tick6 q).txCount ≤ 5
    omega
end Im
end Go.Proofs.YtldobcfejldbiaaGreatDoor

namespace Go.Proofs.YtldobcfejldbiaaGreatDoor
set_option linter.unusedVariables false
set_option linter.unusedSimpArgs false
namespace Im
open Vm Rm Bm

/-! ### A run -/
def endP (p : Pt) : Pt := edgeP (tongueP p)
/-- Behind a round, but for what is to be forgotten. -/
def chainP (br : Int) (t : Tm) (l : List Pt) : List Pt :=
  (cpassP t (passP t ((chooseP br t (l.map ageP)).1.map settleP)).1).1.map endP
def roundP (br : Int) (t : Tm) (l : List Pt) : List Pt := (chainP br t l).map offP
def idsP (br : Int) (t : Tm) (l : List Pt) : List Int := (flushedP (chainP br t l)).2
/-- An Id, in its place. -/
def addI (n : Int) : List Int → List Int
  | [] => [n]
  | x :: l => if x = n then x :: l else if n < x then n :: x :: l else x :: addI n l
def addAll (f : List Int) (ids : List Int) : List Int := ids.foldl (fun l n => addI n l) f
/-- An instance: its ports, what is to be forgotten, how many rounds changed something. -/
structure Rs where
  l : List Pt
  f : List Int
  r : Nat
def runN (br : Int) (t : Tm) : Nat → Rs → Rs
  | 0, x => x
  | n + 1, x => if roundP br t x.l = x.l then { x with f := addAll x.f (idsP br t x.l) } else runN br t n ⟨roundP br t x.l, addAll x.f (idsP br t x.l), x.r + 1⟩
def runP (br : Int) (t : Tm) (x : Rs) : Rs := runN br t 300 x
theorem run_keeps {br : Int} {t : Tm} {P : List Pt → Prop} (hs : ∀ l, P l → P (roundP br t l)) : ∀ (n : Nat) (x : Rs), P x.l → P (runN br t n x).l
  | 0, x, h => h
  | n + 1, x, h => by
    unfold runN
    split
    · exact h
    · exact run_keeps hs n _ (hs _ h)
/-- What holds behind each round holds behind a run. -/
theorem run_post {br : Int} {t : Tm} {P Q : List Pt → Prop} (hs : ∀ l, P l → P (roundP br t l)) (hq : ∀ l, P l → Q (roundP br t l)) :
    ∀ (n : Nat) (x : Rs), P x.l → (Q x.l ∨ 0 < n) → Q (runN br t n x).l
  | 0, x, h, h0 => h0.elim id (fun e => absurd e (by omega))
  | n + 1, x, h, _ => by
    unfold runN
    split
    · rename_i e
      show Q x.l
      rw [← e]
      exact hq _ h
    · exact run_post hs hq n _ (hs _ h) (.inl (hq _ h))
theorem round_len (br : Int) (t : Tm) (l : List Pt) : (roundP br t l).length = l.length := by
  unfold roundP chainP
  rw [List.length_map, List.length_map, show (cpassP t (passP t ((chooseP br t (l.map ageP)).1.map settleP)).1).1.length = _ from cpassN_len t _ _, pass_len, List.length_map, choose_len, List.length_map]
theorem run_len (br : Int) (t : Tm) (x : Rs) : (runP br t x).l.length = x.l.length :=
  run_keeps (P := fun l => l.length = x.l.length) (fun l h => (round_len br t l).trans h) 300 x rfl

/-! ### What neither moves nor changes of the tree, tongues and edges touch -/
def restK (p : Pt) : Pt := { newP 0 0 false with id := p.id, cost := p.cost, on := p.on, admin := p.admin, source := p.source, vec := p.vec, times := p.times, offer := p.offer, given := p.given, selected := p.selected, ready := p.ready, update := p.update, reselect := p.reselect, info := p.info, hello := p.hello, txCount := p.txCount }
theorem state_rest (p : Pt) : restK (stateP p) = restK p := by
  unfold stateP
  repeat' split
  all_goals rfl
theorem move_rest {t : Tm} {so ro : Bool} {p : Pt} {m : Mv} (h : moveF t so ro p = some m) : restK m.own = restK p := by
  unfold moveF at h
  split at h
  · cases h
  · split at h
    · unfold roleF' at h
      repeat' split at h
      all_goals first | (cases h; done) | (cases h; rfl)
    · split at h
      · unfold blockF at h
        repeat' split at h
        all_goals first | (cases h; done) | (cases h; rfl)
      · split at h
        · unfold rootF at h
          repeat' split at h
          all_goals first | (cases h; done) | (cases h; rfl)
        · split at h
          · unfold desF at h
            repeat' split at h
            all_goals first | (cases h; done) | (cases h; rfl)
          · cases h
theorem spread_rest {m : Mv} {k i : Nat} {q : Pt} (h : i = k → restK m.own = restK q) : restK (spreadAt m k i q) = restK q := by
  unfold spreadAt
  split
  · rename_i e
    rw [← h e]
    rfl
  · rfl
theorem map_at {l l' : List Pt} (hl : l'.length = l.length) (h : ∀ (i : Nat) (p q : Pt), l[i]? = some p → l'[i]? = some q → restK q = restK p) : l'.map restK = l.map restK := by
  apply List.ext_getElem?
  intro i
  simp only [List.getElem?_map]
  cases hp : l[i]? with
  | none =>
    rw [List.getElem?_eq_none (by rw [hl]; exact List.getElem?_eq_none_iff.1 hp)]
  | some p =>
    obtain ⟨q, hq⟩ : ∃ q, l'[i]? = some q := ⟨_, List.getElem?_eq_getElem (by rw [hl]; exact (List.getElem?_eq_some_iff.1 hp).1)⟩
    rw [hq]
    exact congrArg some (h i p q hp hq)
theorem moveP_rest (t : Tm) (l : List Pt) (k : Nat) : (moveP t l k).1.map restK = l.map restK := by
  unfold moveP moveAtP
  by_cases h : rightBr t = true
  · rw [if_pos h]
    cases hp : l[k]? with
    | none => rfl
    | some p =>
      dsimp only
      cases hm : moveF t (othersB syncedO l k) (othersB rerootedO l k) p with
      | none => rfl
      | some m =>
        refine map_at (by simp) (fun i x y hx hy => ?_)
        simp only [Option.map_some, List.getElem?_mapIdx, hx, Option.some.injEq] at hy
        rw [← hy]
        refine spread_rest (fun e => ?_)
        rw [e, hp] at hx
        cases hx
        exact move_rest hm
  · rw [if_neg h]
theorem modify_rest (l : List Pt) (k : Nat) : (l.modify k stateP).map restK = l.map restK := by
  refine map_at (List.length_modify ..) (fun i p q hp hq => ?_)
  rw [List.getElem?_modify, hp] at hq
  by_cases e : k = i
  · simp only [e, if_true, Option.map_eq_map, Option.map_some, Option.some.injEq] at hq
    rw [← hq]
    exact state_rest p
  · simp only [e, if_false, Option.map_eq_map, Option.map_some, Option.some.injEq] at hq
    rw [← hq]
theorem passN_rest (t : Tm) (l : List Pt) : ∀ k, (passN t l k).map restK = l.map restK
  | 0 => rfl
  | k + 1 => (modify_rest _ k).trans ((moveP_rest t _ k).trans (passN_rest t l k))
theorem count_rest (t : Tm) (p : Pt) : restK (countP t p) = restK p := by
  unfold countP
  repeat' split
  all_goals rfl
theorem heed_rest (p : Pt) : restK (heedP13 p) = restK p := by unfold heedP13; split <;> rfl
theorem stepF_rest {t : Tm} {p X : Pt} {T : Bool} (h : stepF t p = some (X, T)) : restK X = restK p := by
  have c := count_rest t p
  unfold stepF at h
  split at h
  · cases h; rfl
  split at h
  · cases h; exact c
  split at h
  · cases h; rfl
  split at h
  · cases h; rfl
  split at h
  · cases h; rfl
  split at h
  · cases h
    rw [heed_rest]
    split
    · exact c
    · rfl
  split at h
  · cases h; exact c
  split at h
  · cases h; rfl
  · cases h
theorem stepP_rest (t : Tm) (l : List Pt) (k : Nat) : (stepP t l k).1.map restK = l.map restK := by
  by_cases hb : rightBr t = true
  · cases hp : l[k]? with
    | none => rw [stepP_out (by have := List.getElem?_eq_none_iff.1 hp; omega)]
    | some p =>
      cases hs : stepF t p with
      | none => rw [stepP_no hp hs]
      | some m =>
        obtain ⟨X, T⟩ := m
        rw [stepP_yes hb hp hs]
        refine map_at (by simp) (fun i x y hx hy => ?_)
        simp only [List.getElem?_mapIdx, hx, Option.map_some, Option.some.injEq] at hy
        rw [← hy]
        unfold tellAt
        by_cases e : i = k
        · rw [if_pos e]
          rw [e, hp] at hx
          cases hx
          exact stepF_rest hs
        · rw [if_neg e]
          rfl
  · rw [stepP_wrong (by simpa using hb)]
theorem cpassN_rest (t : Tm) (l : List Pt) : ∀ k, (cpassN t l k).map restK = l.map restK
  | 0 => rfl
  | k + 1 => (stepP_rest t _ k).trans (cpassN_rest t l k)
theorem end_rest (p : Pt) : restK (endP p) = restK p := by
  have h1 : ∀ q, restK (edgeP q) = restK q := fun q => by unfold edgeP; split <;> rfl
  unfold endP
  rw [h1]
  unfold tongueP
  repeat' split
  all_goals rfl
/-- Behind the choice, and what is settled. -/
def settledP (br : Int) (t : Tm) (l : List Pt) : List Pt := (chooseP br t (l.map ageP)).1.map settleP
theorem round_rest (br : Int) (t : Tm) (l : List Pt) : (roundP br t l).map restK = (settledP br t l).map restK := by
  unfold roundP chainP
  rw [List.map_map, List.map_map]
  have e : (restK ∘ offP) ∘ endP = restK := funext fun p => (show restK (offP (endP p)) = restK p from (show restK (endP p) = restK p from end_rest p))
  rw [e]
  exact (cpassN_rest t _ _).trans (passN_rest t _ _)

/-! ### What holds of every instance -/
/-- Times that were heard. -/
def TmB (t : Tm) (n : Int) : Prop := (0 ≤ t.age ∧ t.age ≤ n) ∧ (0 ≤ t.max ∧ t.max ≤ n) ∧ (0 ≤ t.hello ∧ t.hello ≤ n) ∧ 0 ≤ t.delay ∧ t.delay ≤ n
structure PtInv (p : Pt) : Prop where
  id0 : 1 ≤ p.id
  id1 : p.id ≤ 65535
  cost0 : 0 ≤ p.cost
  cost1 : p.cost ≤ 4294967295
  ocost : p.offer.cost ≤ 4294967295
  oport : p.offer.port ≤ 65535
  given : TmB p.given 256
  tx : 0 ≤ p.txCount
  src : 0 ≤ p.source ∧ p.source ≤ 3
  heard : p.source = 3 → TmB p.times 255 ∧ p.vec.cost ≤ 4294967295
  vok : p.vec.ok
  ook : p.offer.ok
def rootB (p : Pt) : Bool := decide (p.selected = 1) && p.ready
/-- At most one root port is chosen. -/
def OneRoot (l : List Pt) : Prop := ∀ (i j : Nat) (p q : Pt), l[i]? = some p → l[j]? = some q → rootB p = true → rootB q = true → i = j
structure RsInv (l : List Pt) : Prop where
  each : ∀ (i : Nat) (p : Pt), l[i]? = some p → PtInv p
  one : OneRoot l
theorem PtInv.of_rest {p q : Pt} (h : PtInv p) (e : restK q = restK p) : PtInv q := by
  have f : ∀ {α : Type} (F : Pt → α), F (restK q) = F (restK p) := fun F => congrArg F e
  have e1 : q.id = p.id := f Pt.id
  have e2 : q.cost = p.cost := f Pt.cost
  have e3 : q.offer = p.offer := f Pt.offer
  have e4 : q.given = p.given := f Pt.given
  have e5 : q.txCount = p.txCount := f Pt.txCount
  have e6 : q.source = p.source := f Pt.source
  have e7 : q.times = p.times := f Pt.times
  have e8 : q.vec = p.vec := f Pt.vec
  refine ⟨?_, ?_, ?_, ?_, ?_, ?_, ?_, ?_, ?_, ?_, ?_, ?_⟩
  · rw [e1]; exact h.id0
  · rw [e1]; exact h.id1
  · rw [e2]; exact h.cost0
  · rw [e2]; exact h.cost1
  · rw [e3]; exact h.ocost
  · rw [e3]; exact h.oport
  · rw [e4]; exact h.given
  · rw [e5]; exact h.tx
  · rw [e6]; exact h.src
  · rw [e6, e7, e8]; exact h.heard
  · rw [e8]; exact h.vok
  · rw [e3]; exact h.ook
theorem root_of_rest {p q : Pt} (e : restK q = restK p) : rootB q = rootB p := by
  have e1 : q.selected = p.selected := (congrArg Pt.selected e : (restK q).selected = (restK p).selected)
  have e2 : q.ready = p.ready := (congrArg Pt.ready e : (restK q).ready = (restK p).ready)
  unfold rootB
  rw [e1, e2]
/-- The invariant is read off what neither moves nor changes touch. -/
theorem RsInv.of_rest {l l' : List Pt} (h : RsInv l) (e : l'.map restK = l.map restK) : RsInv l' := by
  have key : ∀ (i : Nat) (q : Pt), l'[i]? = some q → ∃ p, l[i]? = some p ∧ restK q = restK p := by
    intro i q hq
    have := congrArg (fun m => m[i]?) e
    simp only [List.getElem?_map, hq, Option.map_some] at this
    cases hp : l[i]? with
    | none => rw [hp] at this; cases this
    | some p => rw [hp] at this; exact ⟨p, rfl, by simpa using this⟩
  refine ⟨fun i q hq => ?_, fun i j q q' hq hq' hr hr' => ?_⟩
  · obtain ⟨p, hp, he⟩ := key i q hq
    exact (h.each i p hp).of_rest he
  · obtain ⟨p, hp, he⟩ := key i q hq
    obtain ⟨p', hp', he'⟩ := key j q' hq'
    rw [root_of_rest he] at hr
    rw [root_of_rest he'] at hr'
    exact h.one i j p p' hp hp' hr hr'
/-- What a port alone does to it, and what it may lose: to be ready. -/
theorem RsInv.map {l : List Pt} (h : RsInv l) (f : Pt → Pt) (hf : ∀ p, PtInv p → PtInv (f p)) (hr : ∀ p, rootB (f p) = true → rootB p = true) : RsInv (l.map f) := by
  have key : ∀ (i : Nat) (q : Pt), (l.map f)[i]? = some q → ∃ p, l[i]? = some p ∧ f p = q := by
    intro i q hq
    rw [List.getElem?_map] at hq
    cases hp : l[i]? with
    | none => rw [hp] at hq; cases hq
    | some p => rw [hp] at hq; exact ⟨p, rfl, by simpa using hq⟩
  refine ⟨fun i q hq => ?_, fun i j q q' hq hq' h1 h2 => ?_⟩
  · obtain ⟨p, hp, rfl⟩ := key i q hq
    exact hf p (h.each i p hp)
  · obtain ⟨p, hp, rfl⟩ := key i q hq
    obtain ⟨p', hp', rfl⟩ := key j q' hq'
    exact h.one i j p p' hp hp' (hr p h1) (hr p' h2)
theorem RsInv.set {l : List Pt} (h : RsInv l) {k : Nat} {X : Pt} (hX : PtInv X) (hr : ∀ p, l[k]? = some p → rootB X = true → rootB p = true) : RsInv (l.set k X) := by
  have key : ∀ (i : Nat) (q : Pt), (l.set k X)[i]? = some q → (i = k ∧ q = X ∧ ∃ p, l[k]? = some p) ∨ (¬ i = k ∧ l[i]? = some q) := by
    intro i q hq
    by_cases e : k = i
    · subst e
      rw [List.getElem?_set] at hq
      by_cases hk : k < l.length
      · simp [hk] at hq
        exact .inl ⟨rfl, hq.symm, ⟨_, List.getElem?_eq_getElem hk⟩⟩
      · simp [hk] at hq
    · rw [List.getElem?_set_ne e] at hq
      exact .inr ⟨fun h => e h.symm, hq⟩
  refine ⟨fun i q hq => ?_, fun i j q q' hq hq' h1 h2 => ?_⟩
  · rcases key i q hq with ⟨_, rfl, _⟩ | ⟨_, hp⟩
    · exact hX
    · exact h.each i q hp
  · rcases key i q hq with ⟨rfl, rfl, p, hp⟩ | ⟨hi, hp⟩
    · rcases key j q' hq' with ⟨rfl, _, _⟩ | ⟨hj, hp'⟩
      · rfl
      · exact h.one _ _ p q' hp hp' (hr p hp h1) h2
    · rcases key j q' hq' with ⟨rfl, rfl, p', hp'⟩ | ⟨hj, hp'⟩
      · exact h.one _ _ q p' hp hp' h1 (hr p' hp' h2)
      · exact h.one _ _ q q' hp hp' h1 h2

/-! Each step of a round. -/
theorem age_inv {p : Pt} (h : PtInv p) : PtInv (ageP p) := by
  unfold ageP
  split
  · exact ⟨h.id0, h.id1, h.cost0, h.cost1, h.ocost, h.oport, h.given, h.tx, by show (0 : Int) ≤ 1 ∧ (1 : Int) ≤ 3; omega, fun e => absurd (show (1 : Int) = 3 from e) (by decide), h.vok, h.ook⟩
  · exact h
theorem age_root {p : Pt} (h : rootB (ageP p) = true) : rootB p = true := by
  unfold ageP at h
  split at h
  · unfold rootB at h; simp at h
  · exact h
theorem settle_inv {p : Pt} (h : PtInv p) : PtInv (settleP p) := by
  unfold settleP
  split
  · exact ⟨h.id0, h.id1, h.cost0, h.cost1, h.ocost, h.oport, h.given, h.tx, by show (0 : Int) ≤ 2 ∧ (2 : Int) ≤ 3; omega, fun e => absurd (show (2 : Int) = 3 from e) (by decide), h.ook, h.ook⟩
  · exact h
theorem settle_root {p : Pt} (h : rootB (settleP p) = true) : rootB p = true := by
  unfold settleP at h
  split at h
  · exact h
  · exact h
theorem rootV_cost {br : Int} : ∀ (l : List Inf) (b : Vc), b.cost ≤ 4294967295 → (l.foldl (stepV br) b).cost ≤ 4294967295
  | [], b, h => h
  | p :: l, b, h => by
    refine rootV_cost l _ ?_
    unfold stepV
    cases hw : wayR br p with
    | none => exact h
    | some w =>
      dsimp only
      split
      · unfold wayR at hw
        split at hw
        · cases hw
          unfold raiseR topC
          dsimp only
          split <;> omega
        · cases hw
      · exact h
theorem rootV_ok {br : Int} : ∀ (l : List Inf) (b : Vc), b.ok → (∀ p ∈ l, p.vec.ok ∧ 0 ≤ p.cost) → (l.foldl (stepV br) b).ok
  | [], b, h, _ => h
  | p :: l, b, h, hl => by
    obtain ⟨hv, hc⟩ := hl p (List.mem_cons_self ..)
    refine rootV_ok l _ ?_ (fun q hq => hl q (List.mem_cons_of_mem _ hq))
    unfold stepV
    cases hw : wayR br p with
    | none => exact h
    | some w =>
      dsimp only
      split
      · unfold wayR at hw
        split at hw
        · cases hw
          have h1 := hv.c
          refine ⟨hv.r, ?_, hv.b, hv.p⟩
          unfold raiseR topC Vm.u64B at *
          dsimp only
          split <;> omega
        · cases hw
      · exact h
theorem u64_zero : Vm.u64B 0 := ⟨by omega, by omega⟩
theorem zero_ok : zeroV.ok := ⟨u64_zero, u64_zero, u64_zero, u64_zero⟩
theorem inf_ok {p : Pt} (h : PtInv p) : (infP p).vec.ok ∧ 0 ≤ (infP p).cost := by
  refine ⟨?_, h.cost0⟩
  unfold infP
  dsimp only
  repeat' split
  all_goals first | exact h.vok | exact zero_ok
theorem inc_age {n : Int} (h : 0 ≤ n ∧ n ≤ 255) : 0 ≤ inc64 n ∧ inc64 n ≤ 256 := by
  unfold inc64
  split <;> omega
theorem right_given {t : Tm} (h : rightBr t = true) : TmB t 256 := by
  unfold rightBr at h
  simp only [decide_eq_true_eq] at h
  unfold TmB
  omega
theorem given_inv {br : Int} {t : Tm} {l : List Pt} (hb : rightBr t = true) (h : ∀ (i : Nat) (p : Pt), l[i]? = some p → PtInv p) : TmB (givenP br t l) 256 := by
  unfold givenP
  cases hr : rootP br (infosP l) with
  | none => exact right_given hb
  | some k =>
    dsimp only
    cases hp : l[k]? with
    | none => exact right_given hb
    | some p =>
      dsimp only
      have h3 := (rootP_way hr (infos_at hp)).1
      have hs : p.source = 3 := by
        unfold infP at h3
        dsimp only at h3
        split at h3
        · exact h3
        · omega
      obtain ⟨ht, _⟩ := (h k p hp).heard hs
      unfold TmB at ht ⊢
      dsimp only
      have := inc_age ht.1
      omega
theorem chosen_inv {br : Int} {t : Tm} {l : List Pt} (hbr : Vm.u64B br) (hb : rightBr t = true) (h : ∀ (i : Nat) (p : Pt), l[i]? = some p → PtInv p) {i : Nat} {p : Pt} (hp : l[i]? = some p) : PtInv (chooseAt br t l i p) := by
  have q := h i p hp
  have ho : (rootV br (infosP l)).ok := rootV_ok (infosP l) (mineR br) ⟨hbr, by unfold Vm.u64B; show (0 : Int) ≤ 0 ∧ (0 : Int) < _; omega, hbr, by unfold Vm.u64B; show (0 : Int) ≤ 0 ∧ (0 : Int) < _; omega⟩ (fun x hx => by
    unfold infosP at hx
    obtain ⟨y, hy, rfl⟩ := List.mem_map.1 hx
    obtain ⟨j, hj⟩ := List.getElem?_of_mem hy
    exact inf_ok (h j y hj))
  exact ⟨q.id0, q.id1, q.cost0, q.cost1, rootV_cost (infosP l) (mineR br) (by show (0 : Int) ≤ _; omega), q.id1, given_inv hb h, q.tx, q.src, q.heard, q.vok, ⟨ho.r, ho.c, hbr, by unfold Vm.u64B; have := q.id0; have := q.id1; show 0 ≤ p.id ∧ p.id < _; omega⟩⟩
theorem choose_inv {br : Int} {t : Tm} {l : List Pt} (hbr : Vm.u64B br) (h : RsInv l) : RsInv (chooseP br t l).1 := by
  cases hm : mayB br t l with
  | false => rw [choose_not hm]; exact h
  | true =>
    have hb := (may_parts hm).2.1
    refine ⟨fun i q hq => ?_, fun i j q q' hq hq' h1 h2 => ?_⟩
    · cases hp : l[i]? with
      | none =>
        have e := choose_len br t l
        rw [List.getElem?_eq_none (by rw [e]; exact List.getElem?_eq_none_iff.1 hp)] at hq
        cases hq
      | some p =>
        rw [choose_at hm hp] at hq
        cases hq
        exact chosen_inv hbr hb h.each hp
    · have key : ∀ (i : Nat) (q : Pt), (chooseP br t l).1[i]? = some q → rootB q = true → rootP br (infosP l) = some i := by
        intro i q hq hr
        cases hp : l[i]? with
        | none =>
          have e := choose_len br t l
          rw [List.getElem?_eq_none (by rw [e]; exact List.getElem?_eq_none_iff.1 hp)] at hq
          cases hq
        | some p =>
          rw [choose_at hm hp] at hq
          cases hq
          unfold rootB at hr
          simp only [Bool.and_eq_true, decide_eq_true_eq] at hr
          exact (chosen_facts hm hp).2.2.2.2.1 hr.1
      have e1 := key i q hq h1
      have e2 := key j q' hq' h2
      rw [e1] at e2
      exact Option.some.inj e2
theorem settled_inv {br : Int} {t : Tm} {l : List Pt} (hbr : Vm.u64B br) (h : RsInv l) : RsInv (settledP br t l) :=
  (choose_inv hbr (h.map ageP (fun _ => age_inv) (fun _ => age_root))).map settleP (fun _ => settle_inv) (fun _ => settle_root)
/-- A round keeps it. -/
theorem round_inv {br : Int} {t : Tm} (hbr : Vm.u64B br) (l : List Pt) (h : RsInv l) : RsInv (roundP br t l) := (settled_inv hbr h).of_rest (round_rest br t l)
theorem run_inv {br : Int} {t : Tm} {x : Rs} (hbr : Vm.u64B br) (h : RsInv x.l) : RsInv (runP br t x).l := run_keeps (round_inv hbr) 300 x h

/-! What learns and forwards. -/
theorem end_safe (p : Pt) : safeB (offP (endP p)) = safeB p := by
  unfold endP
  have h1 : ∀ q, safeB (edgeP q) = safeB q := fun q => by unfold edgeP; split <;> rfl
  show safeB (edgeP (tongueP p)) = _
  rw [h1]
  unfold tongueP
  repeat' split
  all_goals rfl
theorem step_safe {t : Tm} {l : List Pt} {k i : Nat} {q : Pt} (hq : l[i]? = some q) : ∃ r, (stepP t l k).1[i]? = some r ∧ safeB r = safeB q := by
  by_cases hb : rightBr t = true
  · cases hp : l[k]? with
    | none => rw [stepP_out (by have := List.getElem?_eq_none_iff.1 hp; omega)]; exact ⟨q, hq, rfl⟩
    | some p =>
      obtain ⟨r, hr, h1, h2⟩ := step_at hb hp hq
      refine ⟨r, hr, ?_⟩
      by_cases e : i = k
      · have := h1 e
        unfold safeB
        rw [this.learn, this.learning, this.forward, this.forwarding]
      · obtain ⟨T, rfl, _⟩ := h2 e
        rfl
  · rw [stepP_wrong (by simpa using hb)]; exact ⟨q, hq, rfl⟩
theorem cpassN_safe {t : Tm} {l : List Pt} {i : Nat} {q : Pt} (hq : l[i]? = some q) : ∀ k, ∃ r, (cpassN t l k)[i]? = some r ∧ safeB r = safeB q
  | 0 => ⟨q, hq, rfl⟩
  | k + 1 => by
    obtain ⟨r, hr, h1⟩ := cpassN_safe (t := t) hq k
    obtain ⟨r', hr', h2⟩ := step_safe (t := t) (k := k) hr
    exact ⟨r', hr', h2.trans h1⟩
def AllSafe (l : List Pt) : Prop := ∀ (i : Nat) (p : Pt), l[i]? = some p → safeB p = true
theorem round_safe (br : Int) (t : Tm) (l : List Pt) : AllSafe (roundP br t l) := by
  intro i p hp
  have hlen : i < ((chooseP br t (l.map ageP)).1.map settleP).length := by
    have := (List.getElem?_eq_some_iff.1 hp).1
    rw [round_len] at this
    rw [List.length_map, choose_len, List.length_map]
    exact this
  obtain ⟨q, hq, _, hs⟩ := pass_safe (t := t) (List.getElem?_eq_getElem hlen)
  obtain ⟨r, hr, h1⟩ := cpassN_safe (t := t) hq (passP t ((chooseP br t (l.map ageP)).1.map settleP)).1.length
  unfold roundP chainP at hp
  rw [List.getElem?_map, List.getElem?_map, show (cpassP t (passP t ((chooseP br t (l.map ageP)).1.map settleP)).1).1[i]? = some r from hr] at hp
  simp only [Option.map_some, Option.some.injEq] at hp
  rw [← hp, end_safe, h1, hs]
/-- Behind a run no port forwards that doesn't learn, and none does either that isn't to. -/
theorem run_safe (br : Int) (t : Tm) (x : Rs) : AllSafe (runP br t x).l :=
  run_post (P := fun _ => True) (Q := AllSafe) (fun _ _ => trivial) (fun l _ => round_safe br t l) 300 x trivial (.inr (by decide))
theorem run_ids (br : Int) (t : Tm) (x : Rs) : (runP br t x).l.map Pt.id = x.l.map Pt.id := by
  refine run_keeps (P := fun l => l.map Pt.id = x.l.map Pt.id) (fun l h => ?_) 300 x rfl
  rw [← h]
  have e := congrArg (List.map Pt.id) (round_rest br t l)
  rw [List.map_map, List.map_map, show Pt.id ∘ restK = Pt.id from rfl] at e
  rw [e]
  unfold settledP
  rw [List.map_map, show Pt.id ∘ settleP = Pt.id from funext fun p => by show (settleP p).id = _; unfold settleP; split <;> rfl]
  cases hm : mayB br t (l.map ageP) with
  | false => rw [choose_not hm, List.map_map, show Pt.id ∘ ageP = Pt.id from funext fun p => by show (ageP p).id = _; unfold ageP; split <;> rfl]
  | true =>
    rw [choose_may hm]
    apply List.ext_getElem?
    intro i
    simp only [List.getElem?_map, List.getElem?_mapIdx]
    cases l[i]? with
    | none => rfl
    | some p => show some (ageP p).id = some p.id; unfold ageP; split <;> rfl

/-! ### What happens to an instance -/
def atSet (l : List Pt) (k : Nat) (f : Pt → Pt) : List Pt := match l[k]? with | none => l | some p => l.set k (f p)
/-- A port that was never on, of an instance. -/
def firstPt (id cost : Int) (edge : Bool) : Pt := { newP id cost edge with reselect := true }
/-- What is set up of a port: its Id, its cost, whether it is an edge. -/
structure Su where
  id : Int
  cost : Int
  edge : Bool
def suP (s : Su) : Pt := firstPt s.id s.cost s.edge
def suI (s : Su) : Inf := ⟨s.id, s.cost, 0, zeroV⟩
def newB (t : Tm) (l : List Su) : Bool := decide (0 < l.length) && (rightBr t && rightR (l.map suI))
def newX (br : Int) (t : Tm) (l : List Su) : Rs := runP br t ⟨l.map suP, [], 0⟩
def powerX (br : Int) (t : Tm) (x : Rs) (k : Nat) (on : Bool) : Rs := runP br t { x with l := atSet x.l k (fun p => powerP p on) }
def noticeP (p : Pt) : Pt := if p.on = true then { p with heardStp := true, oper := false, heardTcn := p.heardTcn || decide (p.role = 2) } else p
def hearX1 (b : Bp) (p : Pt) : Pt := if b.kind = 2 then noticeP p else hearP p b
def hearX (br : Int) (t : Tm) (x : Rs) (k : Nat) (b : Bp) : Rs := runP br t { x with l := atSet x.l k (hearX1 b) }
def checkP (p : Pt) : Pt := { p with check := true }
def checkX (br : Int) (t : Tm) (x : Rs) (k : Nat) : Rs := runP br t { x with l := atSet x.l k checkP }
def tickX (br : Int) (t : Tm) (x : Rs) : Rs := runP br t { x with l := x.l.map tickP }
def sentP (t : Tm) (p : Pt) : Pt := (sendP t p).1
def sendX (br : Int) (t : Tm) (x : Rs) : Rs := runP br t { x with l := x.l.map (sentP t) }
/-- What is sent, with the place of the port. -/
def outsI (t : Tm) (l : List Pt) : List (Nat × Bp) := (l.zipIdx.filter fun x => (sendP t x.1).2.2).map fun x => (x.2, (sendP t x.1).2.1)

theorem atSet_inv {l : List Pt} (h : RsInv l) {k : Nat} {f : Pt → Pt} (hf : ∀ p, PtInv p → PtInv (f p)) (hr : ∀ p, rootB (f p) = true → rootB p = true) : RsInv (atSet l k f) := by
  unfold atSet
  cases hp : l[k]? with
  | none => exact h
  | some p =>
    dsimp only
    refine h.set (hf p (h.each k p hp)) (fun q hq hx => ?_)
    rw [hp] at hq
    cases hq
    exact hr p hx
theorem power_inv {p : Pt} {on : Bool} (h : PtInv p) : PtInv (powerP p on) := by
  unfold powerP
  split
  · exact h
  · split
    · exact ⟨h.id0, h.id1, h.cost0, h.cost1, h.ocost, h.oport, h.given, h.tx, by show (0 : Int) ≤ 1 ∧ (1 : Int) ≤ 3; omega, fun e => absurd (show (1 : Int) = 3 from e) (by decide), h.vok, h.ook⟩
    · exact ⟨h.id0, h.id1, h.cost0, h.cost1, h.ocost, h.oport, h.given, h.tx, by show (0 : Int) ≤ 0 ∧ (0 : Int) ≤ 3; omega, fun e => absurd (show (0 : Int) = 3 from e) (by decide), h.vok, h.ook⟩
theorem power_root {p : Pt} {on : Bool} (h : rootB (powerP p on) = true) : rootB p = true := by
  unfold powerP at h
  split at h
  · exact h
  · split at h
    · unfold rootB at h; simp at h
    · unfold rootB at h; simp at h
theorem tick_inv {p : Pt} (h : PtInv p) : PtInv (tickP p) :=
  ⟨h.id0, h.id1, h.cost0, h.cost1, h.ocost, h.oport, h.given, by show 0 ≤ lessI p.txCount; have := h.tx; unfold lessI; split <;> omega, h.src, h.heard, h.vok, h.ook⟩
theorem notice_inv {p : Pt} (h : PtInv p) : PtInv (noticeP p) := by
  refine h.of_rest ?_
  unfold noticeP
  split <;> rfl
theorem notice_root {p : Pt} (h : rootB (noticeP p) = true) : rootB p = true := by
  unfold noticeP at h
  split at h
  · exact h
  · exact h
theorem times_in {b : Bp} (hr : numsB b = true) : TmB (timesOf b) 255 := by
  unfold numsB withinB at hr
  simp only [Bool.and_eq_true, decide_eq_true_eq] at hr
  obtain ⟨_, _, _, h1, h2, h3, h4⟩ := hr
  unfold TmB timesOf
  dsimp only
  refine ⟨by omega, by omega, ?_, by omega⟩
  split <;> omega
theorem right_nums {b : Bp} (h : rightB b = true) (hk : ¬ b.kind = 2) : numsB b = true := by
  unfold rightB at h
  rw [if_neg hk] at h
  split at h
  · exact h
  · cases h
theorem hear_inv {p : Pt} {b : Bp} (h : PtInv p) (hb : rightB b = true) (hk : ¬ b.kind = 2) (hv : (vecOf b).ok) : PtInv (hearP p b) := by
  have ht := times_in (right_nums hb hk)
  have hc : b.cost ≤ 4294967295 := by
    have := right_nums hb hk
    unfold numsB at this
    simp only [Bool.and_eq_true, decide_eq_true_eq] at this
    exact this.2.1
  unfold hearP
  split
  · exact h
  · split
    · exact ⟨h.id0, h.id1, h.cost0, h.cost1, h.ocost, h.oport, h.given, h.tx, by show (0 : Int) ≤ 3 ∧ (3 : Int) ≤ 3; omega, fun _ => ⟨ht, hc⟩, hv, h.ook⟩
    · exact ⟨h.id0, h.id1, h.cost0, h.cost1, h.ocost, h.oport, h.given, h.tx, h.src, h.heard, h.vok, h.ook⟩
    · unfold inferiorP
      split
      · exact ⟨h.id0, h.id1, h.cost0, h.cost1, h.ocost, h.oport, h.given, h.tx, h.src, h.heard, h.vok, h.ook⟩
      · exact ⟨h.id0, h.id1, h.cost0, h.cost1, h.ocost, h.oport, h.given, h.tx, h.src, h.heard, h.vok, h.ook⟩
    · exact ⟨h.id0, h.id1, h.cost0, h.cost1, h.ocost, h.oport, h.given, h.tx, h.src, h.heard, h.vok, h.ook⟩
    · exact ⟨h.id0, h.id1, h.cost0, h.cost1, h.ocost, h.oport, h.given, h.tx, h.src, h.heard, h.vok, h.ook⟩
theorem hear_root {p : Pt} {b : Bp} (h : rootB (hearP p b) = true) : rootB p = true := by
  unfold hearP at h
  split at h
  · exact h
  · split at h
    · unfold rootB at h
      simp [superP] at h
    · exact h
    · unfold inferiorP at h
      split at h
      · exact h
      · exact h
    · exact h
    · exact h
theorem hear1_inv {b : Bp} (hb : rightB b = true) (hv : (vecOf b).ok) {p : Pt} (h : PtInv p) : PtInv (hearX1 b p) := by
  unfold hearX1
  split
  · exact notice_inv h
  · rename_i hk
    exact hear_inv h hb hk hv
theorem hear1_root {b : Bp} {p : Pt} (h : rootB (hearX1 b p) = true) : rootB p = true := by
  unfold hearX1 at h
  split at h
  · exact notice_root h
  · exact hear_root h
theorem hello_inv {t : Tm} {p : Pt} (h : PtInv p) : PtInv (helloP t p) := by
  unfold helloP
  split
  · exact ⟨h.id0, h.id1, h.cost0, h.cost1, h.ocost, h.oport, h.given, h.tx, h.src, h.heard, h.vok, h.ook⟩
  · exact h
theorem sent_inv {t : Tm} {p : Pt} (h : PtInv p) : PtInv (sentP t p) := by
  have hh := hello_inv (t := t) h
  have h1 := hh.tx
  unfold sentP sendP
  repeat' split
  · exact h
  · exact hh
  · exact ⟨hh.id0, hh.id1, hh.cost0, hh.cost1, hh.ocost, hh.oport, hh.given, hh.tx, hh.src, hh.heard, hh.vok, hh.ook⟩
  · exact ⟨hh.id0, hh.id1, hh.cost0, hh.cost1, hh.ocost, hh.oport, hh.given, by show 0 ≤ (helloP t p).txCount + 1; omega, hh.src, hh.heard, hh.vok, hh.ook⟩
  · exact ⟨hh.id0, hh.id1, hh.cost0, hh.cost1, hh.ocost, hh.oport, hh.given, by show 0 ≤ (helloP t p).txCount + 1; omega, hh.src, hh.heard, hh.vok, hh.ook⟩
theorem sent_root {t : Tm} {p : Pt} (h : rootB (sentP t p) = true) : rootB p = true := by
  have e : rootB (helloP t p) = rootB p := by unfold helloP; split <;> rfl
  unfold sentP sendP at h
  repeat' split at h
  · exact h
  · exact e ▸ h
  · exact e ▸ h
  · exact e ▸ h
  · exact e ▸ h
/-- What a port of an instance sends is right, and it is on. -/
theorem sent_right {t : Tm} {p : Pt} (h : PtInv p) (hs : (sendP t p).2.2 = true) : rightB (sendP t p).2.1 = true ∧ p.on = true := by
  obtain ⟨hc, _, _, hm⟩ := send_yes hs
  unfold canB at hc
  rw [Bool.and_eq_true] at hc
  have hk : ¬ kindP p = 0 := by simpa using hc.2
  have hg := hc.1
  unfold goesB at hg
  simp only [Bool.and_eq_true] at hg
  refine ⟨?_, hg.2.1⟩
  rw [hm]
  split
  · exact notice_right
  · rename_i h2
    have e := kind_keeps (hello_keeps t p)
    have hh := hello_inv (t := t) h
    obtain ⟨g1, g2, g3, g4⟩ := hh.given
    exact msg_right (by rw [e]; exact hk) (by rw [e]; exact h2) hh.ocost hh.oport g1.1 g2.1 g3.1 g4.1
/-- It sends no more than once, whatever is asked again. -/
theorem sent_once {t : Tm} {p : Pt} (hs : (sendP t p).2.2 = true) : sendP t (sentP t p) = (sentP t p, zeroM, false) := by
  obtain ⟨hc, _, _, _⟩ := send_yes hs
  unfold canB at hc
  rw [Bool.and_eq_true] at hc
  have hb : rightBr t = true := by
    have := hc.1
    unfold goesB at this
    simp only [Bool.and_eq_true] at this
    exact this.1
  have hh1 : 1 ≤ t.hello := by
    unfold rightBr at hb
    simp only [decide_eq_true_eq] at hb
    omega
  have hhe : ¬ (helloP t p).hello = 0 := by
    unfold helloP
    split
    · show ¬ t.hello = 0
      omega
    · assumption
  have key : ∀ q : Pt, q.newInfo = false → ¬ q.hello = 0 → sendP t q = (q, zeroM, false) := by
    intro q hn hq
    have e : helloP t q = q := by unfold helloP; rw [if_neg hq]
    unfold sendP
    split
    · rfl
    · rw [e, if_pos (.inl hn)]
  refine key _ ?_ ?_
  · unfold sentP sendP at *
    repeat' split at hs
    · cases hs
    · cases hs
    · cases hs
    · rename_i h1 h2 h3 h4; rw [if_neg h1, if_neg h2, if_neg h3, if_pos h4]
    · rename_i h1 h2 h3 h4; rw [if_neg h1, if_neg h2, if_neg h3, if_neg h4]
  · unfold sentP sendP at *
    repeat' split at hs
    · cases hs
    · cases hs
    · cases hs
    · rename_i h1 h2 h3 h4; rw [if_neg h1, if_neg h2, if_neg h3, if_pos h4]; exact hhe
    · rename_i h1 h2 h3 h4; rw [if_neg h1, if_neg h2, if_neg h3, if_neg h4]; exact hhe
theorem new_inv {t : Tm} {l : List Su} (h : newB t l = true) (hc : ∀ s ∈ l, 0 ≤ s.cost) : RsInv (l.map suP) := by
  unfold newB at h
  simp only [Bool.and_eq_true] at h
  have hr := h.2.2
  have key : ∀ (i : Nat) (q : Pt), (l.map suP)[i]? = some q → ∃ s, l[i]? = some s ∧ suP s = q := by
    intro i q hq
    rw [List.getElem?_map] at hq
    cases hp : l[i]? with
    | none => rw [hp] at hq; cases hq
    | some s => rw [hp] at hq; exact ⟨s, rfl, by simpa using hq⟩
  refine ⟨fun i q hq => ?_, fun i j q q' hq hq' h1 h2 => ?_⟩
  · obtain ⟨s, hs, rfl⟩ := key i q hq
    have hi := right_each hr (p := suI s) (List.mem_map.2 ⟨s, List.mem_of_getElem? hs, rfl⟩)
    unfold infB at hi
    simp only [decide_eq_true_eq] at hi
    obtain ⟨⟨i0, i1⟩, i2, _⟩ := hi
    refine ⟨i0, i1, hc s (List.mem_of_getElem? hs), i2, ?_, ?_, ?_, ?_, ?_, ?_, zero_ok, zero_ok⟩
    · show (0 : Int) ≤ _; omega
    · show (0 : Int) ≤ _; omega
    · unfold TmB; show ((0 : Int) ≤ 0 ∧ (0 : Int) ≤ 256) ∧ ((0 : Int) ≤ 0 ∧ (0 : Int) ≤ 256) ∧ ((0 : Int) ≤ 0 ∧ (0 : Int) ≤ 256) ∧ (0 : Int) ≤ 0 ∧ (0 : Int) ≤ 256; omega
    · show (0 : Int) ≤ 0; omega
    · show (0 : Int) ≤ 0 ∧ (0 : Int) ≤ 3; omega
    · intro e; exact absurd (show (0 : Int) = 3 from e) (by decide)
  · obtain ⟨s, hs, rfl⟩ := key i q hq
    exact absurd h1 (by show ¬ (decide ((0 : Int) = 1) && false) = true; decide)
end Im
end Go.Proofs.YtldobcfejldbiaaGreatDoor

namespace Go.Proofs.YtldobcfejldbiaaGreatDoor
set_option linter.unusedVariables false
set_option linter.unusedSimpArgs false
namespace Im
open Vm Rm Bm

def TkL (l : List Pt) : Prop := ∀ (i : Nat) (p : Pt), l[i]? = some p → TkP p
theorem tk_small {n : Int} (h : 0 ≤ n ∧ n ≤ 1000) : -9223372036854775808 ≤ n ∧ n ≤ 9223372036854775807 := by omega
theorem br_in {t : Tm} (h : rightBr t = true) : (0 ≤ t.max ∧ t.max ≤ 1000) ∧ (0 ≤ t.delay ∧ t.delay ≤ 1000) ∧ (0 ≤ 2 * t.hello ∧ 2 * t.hello ≤ 1000) ∧ (0 ≤ t.hello + 1 ∧ t.hello + 1 ≤ 1000) ∧ (0 ≤ t.max + t.delay ∧ t.max + t.delay ≤ 1000) := by
  unfold rightBr at h
  simp only [decide_eq_true_eq] at h
  omega
theorem age_tk {p : Pt} (h : TkP p) : TkP (ageP p) := by unfold ageP; split <;> exact h
theorem settle_tk {p : Pt} (h : TkP p) : TkP (settleP p) := by unfold settleP; split <;> exact h
theorem edge_tk {p : Pt} (h : TkP p) : TkP (edgeP p) := by unfold edgeP; split <;> exact h
theorem state_tk {p : Pt} (h : TkP p) : TkP (stateP p) := by unfold stateP; split; exact h; split <;> exact h
theorem check_tk {p : Pt} (h : TkP p) : TkP (checkP p) := h
theorem notice_tk {p : Pt} (h : TkP p) : TkP (noticeP p) := by unfold noticeP; split <;> exact h
theorem off_tk {p : Pt} (h : TkP p) : TkP (offP p) := h
theorem tongue_tk {p : Pt} (h : TkP p) : TkP (tongueP p) := by
  obtain ⟨h1, h2, h3, h4, h5, h6, h7, h8, h9⟩ := h
  have h3' := tk_small (n := 3) (by decide)
  unfold tongueP checksP sensesP oldP
  repeat' split
  all_goals first | exact ⟨h1, h2, h3, h4, h5, h6, h7, h8, h9⟩ | exact ⟨h1, h2, h3, h4, h5, h3', h7, h8, h9⟩
theorem power_tk {p : Pt} {on : Bool} (h : TkP p) : TkP (powerP p on) := by
  obtain ⟨h1, h2, h3, h4, h5, h6, h7, h8, h9⟩ := h
  have h0 := tk_small (n := 0) (by decide)
  unfold powerP
  repeat' split
  all_goals first | exact ⟨h1, h2, h3, h4, h5, h6, h7, h8, h9⟩ | exact ⟨h1, h2, h3, h4, h5, h6, h0, h8, h9⟩
theorem record_tk {p : Pt} {b : Bp} (hb : TmB (timesOf b) 255) (h : TkP p) : TkP (recordP p b) := by
  obtain ⟨h1, h2, h3, h4, h5, h6, h7, h8, h9⟩ := h
  refine ⟨h1, h2, h3, h4, h5, h6, ?_, h8, h9⟩
  show _ ≤ (if (timesOf b).age + 1 > (timesOf b).max then (0 : Int) else 3 * (timesOf b).hello) ∧ (if (timesOf b).age + 1 > (timesOf b).max then (0 : Int) else 3 * (timesOf b).hello) ≤ _
  have := hb.2.2.1
  split <;> omega
theorem hear_tk {p : Pt} {b : Bp} (hb : rightB b = true) (hk : ¬ b.kind = 2) (h : TkP p) : TkP (hearP p b) := by
  have ht := times_in (right_nums hb hk)
  have hf : TkP (firstP p b) := h
  unfold hearP
  split
  · exact h
  · split
    · exact record_tk (p := { firstP p b with agreed := false, proposing := false }) ht hf
    · exact record_tk ht hf
    · unfold inferiorP
      split
      · exact hf
      · exact hf
    · exact hf
    · exact hf
theorem hear1_tk {p : Pt} {b : Bp} (hb : rightB b = true) (h : TkP p) : TkP (hearX1 b p) := by
  unfold hearX1
  split
  · exact notice_tk h
  · rename_i hk
    exact hear_tk hb hk h
theorem first_tk (id cost : Int) (e : Bool) : TkP (firstPt id cost e) := by
  have h0 := tk_small (n := 0) (by decide)
  exact ⟨h0, h0, h0, h0, h0, h0, h0, h0, h0⟩
theorem move_tk {t : Tm} {so ro : Bool} {p : Pt} {m : Mv} (hb : rightBr t = true) (h : TkP p) (hm : moveF t so ro p = some m) : TkP m.own := by
  obtain ⟨h1, h2, h3, h4, h5, h6, h7, h8, h9⟩ := h
  obtain ⟨b1, b2, b3, _, _⟩ := br_in hb
  have b1 := tk_small b1
  have b2 := tk_small b2
  have b3 := tk_small b3
  have h0 := tk_small (n := 0) (by decide)
  have h3' := tk_small (n := 3) (by decide)
  have hif : -9223372036854775808 ≤ (if p.role = 0 then t.max else t.delay) ∧ (if p.role = 0 then t.max else t.delay) ≤ 9223372036854775807 := by split; exact b1; exact b2
  unfold moveF at hm
  split at hm
  · cases hm
  split at hm
  · unfold roleF' at hm
    repeat' split at hm
    all_goals first | (cases hm; done) | (cases hm; exact ⟨h1, h2, h3, h4, h5, h6, h7, h8, h9⟩) | (cases hm; exact ⟨h1, b2, h3, h4, h5, h6, h7, h8, h9⟩)
  split at hm
  · unfold blockF at hm
    repeat' split at hm
    all_goals first | (cases hm; done) | (cases hm; exact ⟨h1, h2, h3, h4, h5, h6, h7, h8, h9⟩) | (cases hm; exact ⟨b1, h0, h3, h4, h5, h6, h7, h8, h9⟩) | (cases hm; exact ⟨b2, h0, h3, h4, h5, h6, h7, h8, h9⟩) | (cases hm; exact ⟨hif, h0, h3, h4, h5, h6, h7, h8, h9⟩) | (cases hm; exact ⟨h1, h2, b3, h4, h5, h6, h7, h8, h9⟩)
  split at hm
  · unfold rootF at hm
    repeat' split at hm
    all_goals first | (cases hm; done) | (cases hm; exact ⟨h1, h2, h3, h4, h5, h6, h7, h8, h9⟩) | (cases hm; exact ⟨h1, b2, h3, h4, h5, h6, h7, h8, h9⟩) | (cases hm; exact ⟨b2, h2, h3, h4, h5, h6, h7, h8, h9⟩) | (cases hm; exact ⟨h0, h2, h3, h4, h5, h6, h7, h8, h9⟩)
  split at hm
  · unfold desF at hm
    repeat' split at hm
    all_goals first | (cases hm; done) | (cases hm; exact ⟨h1, h2, h3, h4, h5, h6, h7, h8, h9⟩) | (cases hm; exact ⟨h1, h2, h3, h4, h3', h6, h7, h8, h9⟩) | (cases hm; exact ⟨h1, h0, h3, h4, h5, h6, h7, h8, h9⟩) | (cases hm; exact ⟨b2, h2, h3, h4, h5, h6, h7, h8, h9⟩) | (cases hm; exact ⟨h0, h2, h3, h4, h5, h6, h7, h8, h9⟩)
  · cases hm
theorem map_tk {l : List Pt} (h : TkL l) {f : Pt → Pt} (hf : ∀ p, TkP p → TkP (f p)) : TkL (l.map f) := by
  intro i q hq
  rw [List.getElem?_map, Option.map_eq_some_iff] at hq
  obtain ⟨p, hp, rfl⟩ := hq
  exact hf p (h i p hp)
theorem moveP_tk {t : Tm} {l : List Pt} (h : TkL l) (k : Nat) : TkL (moveP t l k).1 := by
  unfold moveP moveAtP
  by_cases hb : rightBr t = true
  · rw [if_pos hb]
    cases hp : l[k]? with
    | none => exact h
    | some p =>
      dsimp only
      cases hm : moveF t (othersB syncedO l k) (othersB rerootedO l k) p with
      | none => exact h
      | some m =>
        intro i q hq
        simp only [Option.map_some, List.getElem?_mapIdx, Option.map_eq_some_iff] at hq
        obtain ⟨x, hx, rfl⟩ := hq
        have hx' := h i x hx
        have hm' := move_tk hb (h k p hp) hm
        unfold spreadAt
        split
        · exact hm'
        · exact hx'
  · rw [if_neg hb]
    exact h
theorem modify_tk {l : List Pt} (h : TkL l) (k : Nat) : TkL (l.modify k stateP) := by
  intro i q hq
  rw [List.getElem?_modify] at hq
  cases hp : l[i]? with
  | none => rw [hp] at hq; simp at hq
  | some p =>
    rw [hp] at hq
    have hpp := h i p hp
    by_cases e : k = i
    · simp [e] at hq
      rw [← hq]
      exact state_tk hpp
    · simp [e] at hq
      rw [← hq]
      exact hpp
theorem passN_tk {t : Tm} {l : List Pt} (h : TkL l) : ∀ k, TkL (passN t l k)
  | 0 => h
  | k + 1 => modify_tk (moveP_tk (passN_tk h k) k) k
theorem count_tk {t : Tm} (hb : rightBr t = true) {p : Pt} (h : TkP p) : TkP (countP t p) := by
  obtain ⟨h1, h2, h3, h4, h5, h6, h7, h8, h9⟩ := h
  obtain ⟨_, _, _, b4, b5⟩ := br_in hb
  unfold countP
  repeat' split
  · exact ⟨h1, h2, h3, h4, h5, h6, h7, h8, h9⟩
  · exact ⟨h1, h2, h3, tk_small b4, h5, h6, h7, h8, h9⟩
  · exact ⟨h1, h2, h3, tk_small b5, h5, h6, h7, h8, h9⟩
theorem heed_tk {p : Pt} (h : TkP p) : TkP (heedP13 p) := by unfold heedP13; split <;> exact h
theorem stepF_tk {t : Tm} (hb : rightBr t = true) {p X : Pt} {T : Bool} (h : TkP p) (hs : stepF t p = some (X, T)) : TkP X := by
  have c := count_tk hb h
  have hz : TkP { p with tc := 0 } := by
    obtain ⟨h1, h2, h3, h4, h5, h6, h7, h8, h9⟩ := h
    exact ⟨h1, h2, h3, tk_small (n := 0) (by decide), h5, h6, h7, h8, h9⟩
  unfold stepF at hs
  split at hs
  · cases hs; exact h
  split at hs
  · cases hs; exact c
  split at hs
  · cases hs; exact hz
  split at hs
  · cases hs; exact h
  split at hs
  · cases hs; exact h
  split at hs
  · cases hs
    refine heed_tk ?_
    split
    · exact c
    · exact h
  split at hs
  · cases hs; exact c
  split at hs
  · cases hs; exact hz
  · cases hs
theorem stepP_tk {t : Tm} {l : List Pt} (h : TkL l) (k : Nat) : TkL (stepP t l k).1 := by
  by_cases hb : rightBr t = true
  · cases hp : l[k]? with
    | none => rw [stepP_out (by have := List.getElem?_eq_none_iff.1 hp; omega)]; exact h
    | some p =>
      cases hs : stepF t p with
      | none => rw [stepP_no hp hs]; exact h
      | some m =>
        obtain ⟨X, T⟩ := m
        rw [stepP_yes hb hp hs]
        intro i q hq
        simp only [List.getElem?_mapIdx, Option.map_eq_some_iff] at hq
        obtain ⟨x, hx, rfl⟩ := hq
        have hx' := h i x hx
        have hX := stepF_tk hb (h k p hp) hs
        unfold tellAt
        split
        · exact hX
        · exact hx'
  · rw [stepP_wrong (by simpa using hb)]; exact h
theorem cpassN_tk {t : Tm} {l : List Pt} (h : TkL l) : ∀ k, TkL (cpassN t l k)
  | 0 => h
  | k + 1 => stepP_tk (cpassN_tk h k) k
theorem choose_tk {br : Int} {t : Tm} {l : List Pt} (h : TkL l) : TkL (chooseP br t l).1 := by
  cases hm : mayB br t l with
  | false => rw [choose_not hm]; exact h
  | true =>
    rw [choose_may hm]
    intro i q hq
    simp only [List.getElem?_mapIdx, Option.map_eq_some_iff] at hq
    obtain ⟨x, hx, rfl⟩ := hq
    exact h i x hx
theorem round_tk {br : Int} {t : Tm} {l : List Pt} (h : TkL l) : TkL (roundP br t l) := by
  have h1 : TkL ((chooseP br t (l.map ageP)).1.map settleP) := map_tk (choose_tk (map_tk h (fun p => age_tk))) (fun p => settle_tk)
  have h2 := passN_tk (t := t) h1 ((chooseP br t (l.map ageP)).1.map settleP).length
  have h3 := cpassN_tk (t := t) h2 (passN t ((chooseP br t (l.map ageP)).1.map settleP) ((chooseP br t (l.map ageP)).1.map settleP).length).length
  exact map_tk (map_tk h3 (fun p hp => edge_tk (tongue_tk hp))) (fun p => off_tk)
theorem set_tk {l : List Pt} (h : TkL l) {k : Nat} {f : Pt → Pt} (hf : ∀ p, TkP p → TkP (f p)) : TkL (atSet l k f) := by
  unfold atSet
  cases hp : l[k]? with
  | none => exact h
  | some p =>
    dsimp only
    intro i q hq
    have hk := (List.getElem?_eq_some_iff.1 hp).1
    by_cases e : k = i
    · subst e
      rw [List.getElem?_set] at hq
      simp [hk] at hq
      rw [← hq]
      exact hf p (h k p hp)
    · rw [List.getElem?_set_ne e] at hq
      exact h i q hq
theorem sent_tk {t : Tm} {p : Pt} (h : TkP p) : TkP (sentP t p) := send_tk h
end Im
end Go.Proofs.YtldobcfejldbiaaGreatDoor

namespace Go.Proofs.YtldobcfejldbiaaGreatDoor
set_option linter.unusedVariables false
set_option linter.unusedSimpArgs false
namespace Im
open Vm Rm Bm

def AgP (p : Pt) : Prop := 0 ≤ p.times.age ∧ p.times.age ≤ 256
def AgL (l : List Pt) : Prop := ∀ (i : Nat) (p : Pt), l[i]? = some p → AgP p
theorem ag_age {p : Pt} (h : AgP p) : AgP (ageP p) := by unfold ageP; split <;> exact h
theorem ag_settle {p : Pt} (h : AgP p) (hg : TmB p.given 256) : AgP (settleP p) := by
  unfold settleP
  split
  · exact ⟨hg.1.1, hg.1.2⟩
  · exact h
theorem ag_map {l : List Pt} (h : AgL l) {f : Pt → Pt} (hf : ∀ p, AgP p → AgP (f p)) : AgL (l.map f) := by
  intro i q hq
  rw [List.getElem?_map] at hq
  cases hp : l[i]? with
  | none => rw [hp] at hq; cases hq
  | some p => rw [hp] at hq; cases hq; exact hf p (h i p hp)
theorem ag_choose {br : Int} {t : Tm} {l : List Pt} (h : AgL l) : AgL (chooseP br t l).1 := by
  cases hm : mayB br t l with
  | false => rw [choose_not hm]; exact h
  | true =>
    intro i q hq
    cases hp : l[i]? with
    | none =>
      have e := choose_len br t l
      rw [List.getElem?_eq_none (by rw [e]; exact List.getElem?_eq_none_iff.1 hp)] at hq
      cases hq
    | some p =>
      rw [choose_at hm hp] at hq
      cases hq
      exact h i p hp
theorem ag_settled {br : Int} {t : Tm} {l : List Pt} (hbr : Vm.u64B br) (hI : RsInv l) (h : AgL l) : AgL (settledP br t l) := by
  intro i q hq
  unfold settledP at hq
  rw [List.getElem?_map] at hq
  cases hp : (chooseP br t (l.map ageP)).1[i]? with
  | none => rw [hp] at hq; cases hq
  | some p =>
    rw [hp] at hq
    cases hq
    exact ag_settle (ag_choose (ag_map h fun _ => ag_age) i p hp) ((choose_inv hbr (hI.map ageP (fun _ => age_inv) (fun _ => age_root))).each i p hp).given
theorem ag_round {br : Int} {t : Tm} (hbr : Vm.u64B br) {l : List Pt} (hI : RsInv l) (h : AgL l) : AgL (roundP br t l) := by
  intro i q hq
  have e := congrArg (fun m => m[i]?) (round_rest br t l)
  simp only [List.getElem?_map, hq, Option.map_some] at e
  cases hp : (settledP br t l)[i]? with
  | none => rw [hp] at e; cases e
  | some p =>
    rw [hp] at e
    have e2 : restK q = restK p := by simpa using e
    have e3 : q.times = p.times := (congrArg Pt.times e2 : (restK q).times = (restK p).times)
    have := ag_settled hbr hI h i p hp
    unfold AgP at this ⊢
    rw [e3]
    exact this
/-- What each row of ports of an instance keeps. -/
structure Good (l : List Pt) : Prop where
  inv : RsInv l
  tk : TkL l
  ag : AgL l
theorem Good.round {br : Int} {t : Tm} {l : List Pt} (hbr : Vm.u64B br) (h : Good l) : Good (roundP br t l) := ⟨round_inv hbr l h.inv, round_tk h.tk, ag_round hbr h.inv h.ag⟩
theorem good_run {br : Int} {t : Tm} {x : Rs} (hbr : Vm.u64B br) (h : Good x.l) : Good (runP br t x).l := run_keeps (P := Good) (fun l hl => hl.round hbr) 300 x h
theorem Good.map {l : List Pt} (h : Good l) {f : Pt → Pt} (h1 : ∀ p, PtInv p → PtInv (f p)) (h2 : ∀ p, rootB (f p) = true → rootB p = true) (h3 : ∀ p, TkP p → TkP (f p)) (h4 : ∀ p, AgP p → AgP (f p)) : Good (l.map f) :=
  ⟨h.inv.map f h1 h2, map_tk h.tk h3, ag_map h.ag h4⟩
theorem ag_set {l : List Pt} (h : AgL l) {k : Nat} {f : Pt → Pt} (hf : ∀ p, AgP p → AgP (f p)) : AgL (atSet l k f) := by
  unfold atSet
  cases hp : l[k]? with
  | none => exact h
  | some p =>
    intro i q hq
    dsimp only at hq
    by_cases e : k = i
    · subst e
      rw [List.getElem?_set_self (List.getElem?_eq_some_iff.1 hp).1] at hq
      cases hq
      exact hf p (h _ p hp)
    · rw [List.getElem?_set_ne e] at hq
      exact h i q hq
theorem Good.set {l : List Pt} (h : Good l) {k : Nat} {f : Pt → Pt} (h1 : ∀ p, PtInv p → PtInv (f p)) (h2 : ∀ p, rootB (f p) = true → rootB p = true) (h3 : ∀ p, TkP p → TkP (f p)) (h4 : ∀ p, AgP p → AgP (f p)) : Good (atSet l k f) :=
  ⟨atSet_inv h.inv h1 h2, set_tk h.tk h3, ag_set h.ag h4⟩
theorem ag_power {p : Pt} {on : Bool} (h : AgP p) : AgP (powerP p on) := by
  unfold powerP
  split
  · exact h
  · split <;> exact h
theorem ag_hear {p : Pt} {b : Bp} (hb : rightB b = true) (h : AgP p) : AgP (hearX1 b p) := by
  unfold hearX1
  split
  · unfold noticeP; split <;> exact h
  · rename_i hk
    have ht := times_in (right_nums hb hk)
    unfold hearP
    split
    · exact h
    · split
      · exact ⟨ht.1.1, by have := ht.1.2; show (timesOf b).age ≤ 256; omega⟩
      · exact h
      · unfold inferiorP; split <;> exact h
      · exact h
      · exact h
theorem ag_sent {t : Tm} {p : Pt} (h : AgP p) : AgP (sentP t p) := by
  have e : (helloP t p).times = p.times := by unfold helloP; split <;> rfl
  have hh : AgP (helloP t p) := by unfold AgP; rw [e]; exact h
  unfold sentP sendP
  repeat' split
  all_goals first | exact h | exact hh
theorem good_power {l : List Pt} (h : Good l) (k : Nat) (on : Bool) : Good (atSet l k fun p => powerP p on) := h.set (fun _ => power_inv) (fun _ => power_root) (fun _ => power_tk) (fun _ => ag_power)
theorem good_hear {l : List Pt} (h : Good l) (k : Nat) {b : Bp} (hb : rightB b = true) (hv : (vecOf b).ok) : Good (atSet l k (hearX1 b)) := h.set (fun _ => hear1_inv hb hv) (fun _ => hear1_root) (fun _ => hear1_tk hb) (fun _ => ag_hear hb)
theorem good_check {l : List Pt} (h : Good l) (k : Nat) : Good (atSet l k checkP) := h.set (fun p hp => ⟨hp.id0, hp.id1, hp.cost0, hp.cost1, hp.ocost, hp.oport, hp.given, hp.tx, hp.src, hp.heard, hp.vok, hp.ook⟩) (fun _ hr => hr) (fun _ => check_tk) (fun _ hp => hp)
theorem good_tick {l : List Pt} (h : Good l) : Good (l.map tickP) := h.map (fun _ => tick_inv) (fun _ hr => hr) (fun _ hp => tick_tk hp) (fun _ hp => hp)
theorem good_sent {l : List Pt} (h : Good l) (t : Tm) : Good (l.map (sentP t)) := h.map (fun _ => sent_inv) (fun _ => sent_root) (fun _ => sent_tk) (fun _ => ag_sent)
theorem good_new {t : Tm} {l : List Su} (h : newB t l = true) (hc : ∀ s ∈ l, 0 ≤ s.cost) : Good (l.map suP) := by
  have key : ∀ (i : Nat) (q : Pt), (l.map suP)[i]? = some q → ∃ s, l[i]? = some s ∧ suP s = q := by
    intro i q hq
    rw [List.getElem?_map] at hq
    cases hp : l[i]? with
    | none => rw [hp] at hq; cases hq
    | some s => rw [hp] at hq; exact ⟨s, rfl, by simpa using hq⟩
  refine ⟨new_inv h hc, fun i q hq => ?_, fun i q hq => ?_⟩
  · obtain ⟨s, _, rfl⟩ := key i q hq
    exact first_tk _ _ _
  · obtain ⟨s, _, rfl⟩ := key i q hq
    show (0 : Int) ≤ 0 ∧ (0 : Int) ≤ 256
    omega
theorem Good.ptok {l : List Pt} (h : Good l) {i : Nat} {p : Pt} (hp : l[i]? = some p) : TkP p ∧ Vm.u64B p.id ∧ Vm.u64B p.cost ∧ (-9223372036854775808 ≤ p.source ∧ p.source ≤ 9223372036854775807) ∧ p.vec.ok ∧ (-9223372036854775808 ≤ p.times.age ∧ p.times.age ≤ 9223372036854775807) := by
  have q := h.inv.each i p hp
  have a := h.ag i p hp
  have k0 := q.id0; have k1 := q.id1; have k2 := q.cost0; have k3 := q.cost1; have k4 := q.src; have k5 := a.1; have k6 := a.2
  refine ⟨h.tk i p hp, ?_, ?_, by omega, q.vok, by omega⟩
  · unfold Vm.u64B; omega
  · unfold Vm.u64B; omega
end Im
end Go.Proofs.YtldobcfejldbiaaGreatDoor
