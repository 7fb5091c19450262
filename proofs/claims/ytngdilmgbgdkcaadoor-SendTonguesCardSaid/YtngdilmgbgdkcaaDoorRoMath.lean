/-
  Plain mathematics of layer 8 (roles): no program is named here. Ways, the root vector, the root port, roles; in whatever order ports are told.
-/
import Derived.Test.YtngdilmgbgdkcaaDoorVcMath
namespace Go.Proofs.YtngdilmgbgdkcaaDoor
set_option linter.unusedVariables false
set_option linter.unusedSimpArgs false
open Vm
namespace Rm

/-- What is known of a port. -/
structure Inf where
  id : Int
  cost : Int
  source : Int
  vec : Vc
deriving DecidableEq

def ownB (v : Vc) (br : Int) : Bool := decide (v.bridge % 281474976710656 = br % 281474976710656)
def zeroV : Vc := ⟨0, 0, 0, 0⟩
def mineR (br : Int) : Vc := ⟨br, 0, br, 0⟩
/-- The root's way by a port. -/
def wayR (br : Int) (p : Inf) : Option Vc := if p.source = 3 ∧ ownB p.vec br = false then some (raiseR p.vec p.cost) else none
def stepV (br : Int) (b : Vc) (p : Inf) : Vc := match wayR br p with | some w => if cmpR w b < 0 then w else b | none => b
/-- The bridge's root vector. -/
def rootV (br : Int) (l : List Inf) : Vc := l.foldl (stepV br) (mineR br)

theorem take_next {α β : Type} (f : β → α → β) (b : β) {l : List α} {j : Nat} {x : α} (h : l[j]? = some x) : (l.take (j + 1)).foldl f b = f ((l.take j).foldl f b) x := by
  rw [List.take_add_one, h]
  simp only [Option.toList, List.foldl_append, List.foldl_cons, List.foldl_nil]

theorem step_le (br : Int) (b : Vc) (p : Inf) : cmpR (stepV br b p) b ≤ 0 := by
  unfold stepV
  split
  · split
    · omega
    · rw [cmp_self]; omega
  · rw [cmp_self]; omega
theorem step_way {br : Int} {p : Inf} {w : Vc} (h : wayR br p = some w) (b : Vc) : cmpR (stepV br b p) w ≤ 0 := by
  unfold stepV
  rw [h]
  simp only
  split
  · rw [cmp_self]; omega
  · rename_i hn
    exact cmp_le_of_not hn
theorem step_is (br : Int) (b : Vc) (p : Inf) : stepV br b p = b ∨ wayR br p = some (stepV br b p) := by
  unfold stepV
  split
  · rename_i w hw
    split
    · exact .inr hw
    · exact .inl rfl
  · exact .inl rfl
theorem fold_le (br : Int) : ∀ (l : List Inf) (b : Vc), cmpR (l.foldl (stepV br) b) b ≤ 0
  | [], b => by show cmpR b b ≤ 0; rw [cmp_self]; omega
  | p :: l, b => cmp_le_trans (fold_le br l (stepV br b p)) (step_le br b p)
theorem fold_way {br : Int} : ∀ (l : List Inf) (b : Vc) (p : Inf) (w : Vc), p ∈ l → wayR br p = some w → cmpR (l.foldl (stepV br) b) w ≤ 0
  | [], _, p, _, h, _ => by cases h
  | q :: l, b, p, w, h, hw => by
    rcases List.mem_cons.1 h with rfl | h
    · exact cmp_le_trans (fold_le br l (stepV br b p)) (step_way hw b)
    · exact fold_way l (stepV br b q) p w h hw
theorem fold_is (br : Int) : ∀ (l : List Inf) (b : Vc), l.foldl (stepV br) b = b ∨ ∃ p ∈ l, wayR br p = some (l.foldl (stepV br) b)
  | [], b => .inl rfl
  | q :: l, b => by
    rcases fold_is br l (stepV br b q) with h | ⟨p, hp, h⟩
    · rcases step_is br b q with k | k
      · exact .inl (h.trans k)
      · exact .inr ⟨q, List.mem_cons_self, by rw [show (q :: l).foldl (stepV br) b = l.foldl (stepV br) (stepV br b q) from rfl, h]; exact k⟩
    · exact .inr ⟨p, List.mem_cons_of_mem _ hp, h⟩
/-- The root vector is the own one, or a port's way; none of these is better. -/
structure IsRoot (br : Int) (l : List Inf) (v : Vc) : Prop where
  own : cmpR v (mineR br) ≤ 0
  way : ∀ p ∈ l, ∀ w, wayR br p = some w → cmpR v w ≤ 0
  is : v = mineR br ∨ ∃ p ∈ l, wayR br p = some v
theorem root_is (br : Int) (l : List Inf) : IsRoot br l (rootV br l) := ⟨fold_le br l _, fun p hp w hw => fold_way l _ p w hp hw, fold_is br l _⟩
theorem cmp_anti {a b : Vc} (h : cmpR a b ≤ 0) (k : cmpR b a ≤ 0) : a = b := cmp_zero.1 (by have := cmp_neg a b; omega)
theorem root_same {br : Int} {l m : List Inf} {u v : Vc} (h : IsRoot br l u) (k : IsRoot br m v) (hlm : ∀ p, p ∈ l ↔ p ∈ m) : u = v := by
  refine cmp_anti ?_ ?_
  · rcases k.is with rfl | ⟨p, hp, hw⟩
    · exact h.own
    · exact h.way p ((hlm p).2 hp) v hw
  · rcases h.is with rfl | ⟨p, hp, hw⟩
    · exact k.own
    · exact k.way p ((hlm p).1 hp) u hw
theorem root_turned (br : Int) (l : List Inf) : rootV br l.reverse = rootV br l := root_same (root_is br _) (root_is br _) (fun p => by rw [List.mem_reverse])
/-- A bridge that heard nothing is the root. -/
theorem root_deaf {br : Int} {l : List Inf} (h : ∀ p ∈ l, wayR br p = none) : rootV br l = mineR br := by
  rcases (root_is br l).is with h1 | ⟨p, hp, hw⟩
  · exact h1
  · rw [h p hp] at hw; cases hw

/-- The root port among the first n: of the ports by which the root's way is, the one of the least Id. -/
def portN (br : Int) (v : Vc) (l : List Inf) : Nat → Option Nat
  | 0 => none
  | n + 1 => match l[n]? with
    | none => portN br v l n
    | some p => if wayR br p = some v then (match portN br v l n with
        | none => some n
        | some o => match l[o]? with
          | none => some n
          | some q => if p.id < q.id then some n else some o) else portN br v l n
structure IsPort (br : Int) (v : Vc) (l : List Inf) (n o : Nat) : Prop where
  lt : o < n
  at_ : ∃ q, l[o]? = some q ∧ wayR br q = some v ∧ ∀ i p, i < n → l[i]? = some p → wayR br p = some v → q.id ≤ p.id
theorem port_spec (br : Int) (v : Vc) (l : List Inf) : ∀ n, n ≤ l.length → (portN br v l n = none → ∀ i p, i < n → l[i]? = some p → ¬ wayR br p = some v) ∧ (∀ o, portN br v l n = some o → IsPort br v l n o)
  | 0, _ => ⟨fun _ i p h => by omega, fun o h => by cases h⟩
  | n + 1, hn => by
    obtain ⟨ih1, ih2⟩ := port_spec br v l n (by omega)
    obtain ⟨p, hp⟩ : ∃ p, l[n]? = some p := at_some (by omega)
    unfold portN
    rw [hp]
    simp only
    by_cases hw : wayR br p = some v
    · rw [if_pos hw]
      cases ho : portN br v l n with
      | none =>
        simp only
        refine ⟨nofun, fun o h => ?_⟩
        cases h
        refine ⟨by omega, p, hp, hw, fun i q hi hq hqw => ?_⟩
        by_cases hin : i < n
        · exact absurd hqw (ih1 ho i q hin hq)
        · obtain rfl : i = n := by omega
          rw [hp] at hq; cases hq; omega
      | some o =>
        obtain ⟨hlt, q, hq, hqw, hle⟩ := ih2 o ho
        simp only [hq]
        by_cases hid : p.id < q.id
        · rw [if_pos hid]
          refine ⟨nofun, fun o' h => ?_⟩
          cases h
          refine ⟨by omega, p, hp, hw, fun i r hi hr hrw => ?_⟩
          by_cases hin : i < n
          · have := hle i r hin hr hrw; omega
          · obtain rfl : i = n := by omega
            rw [hp] at hr; cases hr; omega
        · rw [if_neg hid]
          refine ⟨nofun, fun o' h => ?_⟩
          cases h
          refine ⟨by omega, q, hq, hqw, fun i r hi hr hrw => ?_⟩
          by_cases hin : i < n
          · exact hle i r hin hr hrw
          · obtain rfl : i = n := by omega
            rw [hp] at hr; cases hr; omega
    · rw [if_neg hw]
      refine ⟨fun h i q hi hq => ?_, fun o h => ?_⟩
      · by_cases hin : i < n
        · exact ih1 h i q hin hq
        · obtain rfl : i = n := by omega
          rw [hp] at hq; cases hq; exact hw
      · obtain ⟨hlt, q, hq, hqw, hle⟩ := ih2 o h
        refine ⟨by omega, q, hq, hqw, fun i r hi hr hrw => ?_⟩
        by_cases hin : i < n
        · exact hle i r hin hr hrw
        · obtain rfl : i = n := by omega
          rw [hp] at hr; cases hr; exact absurd hrw hw
/-- The root port; none, if the root vector is the own one. -/
def rootP (br : Int) (l : List Inf) : Option Nat := if rootV br l = mineR br then none else portN br (rootV br l) l l.length
theorem rootP_none {br : Int} {l : List Inf} : rootP br l = none ↔ rootV br l = mineR br := by
  unfold rootP
  by_cases h : rootV br l = mineR br
  · rw [if_pos h]; exact ⟨fun _ => h, fun _ => rfl⟩
  · rw [if_neg h]
    refine ⟨fun hn => ?_, fun e => absurd e h⟩
    rcases (root_is br l).is with h1 | ⟨p, hp, hw⟩
    · exact h1
    · obtain ⟨i, hi⟩ := List.getElem?_of_mem hp
      exact absurd hw ((port_spec br _ l _ (Nat.le_refl _)).1 hn i p (List.getElem?_eq_some_iff.1 hi).1 hi)
theorem rootP_some {br : Int} {l : List Inf} {o : Nat} (h : rootP br l = some o) : IsPort br (rootV br l) l l.length o := by
  unfold rootP at h
  by_cases e : rootV br l = mineR br
  · rw [if_pos e] at h; cases h
  · rw [if_neg e] at h
    exact (port_spec br _ l _ (Nat.le_refl _)).2 o h
/-- No Id twice. -/
def Apart (l : List Inf) : Prop := ∀ (i j : Nat) (p q : Inf), l[i]? = some p → l[j]? = some q → p.id = q.id → i = j
theorem port_one {br : Int} {v : Vc} {l : List Inf} (ha : Apart l) {o o' : Nat} (h : IsPort br v l l.length o) (k : IsPort br v l l.length o') : o = o' := by
  obtain ⟨h1, q, hq, hqw, hle⟩ := h
  obtain ⟨k1, r, hr, hrw, kle⟩ := k
  have a := hle o' r k1 hr hrw
  have b := kle o q h1 hq hqw
  exact ha o o' q r hq hr (by omega)
theorem at_turned {l : List Inf} {i : Nat} (h : i < l.length) : l.reverse[l.length - 1 - i]? = l[i]? := by
  rw [List.getElem?_reverse (by omega)]
  congr 1
  omega
theorem apart_turned {l : List Inf} (h : Apart l) : Apart l.reverse := by
  intro i j p q hi hj e
  have h1 := (List.getElem?_eq_some_iff.1 hi).1
  have h2 := (List.getElem?_eq_some_iff.1 hj).1
  rw [List.length_reverse] at h1 h2
  rw [List.getElem?_reverse h1] at hi
  rw [List.getElem?_reverse h2] at hj
  have := h _ _ p q hi hj e
  omega
/-- The root port, told in the other order, is the same port. -/
theorem rootP_turned {br : Int} {l : List Inf} (ha : Apart l) {i : Nat} (h : i < l.length) : (rootP br l.reverse = some (l.length - 1 - i)) ↔ rootP br l = some i := by
  have key : ∀ (m : List Inf), Apart m → ∀ o, o < m.length → rootP br m = some o → rootP br m.reverse = some (m.length - 1 - o) := by
    intro m hm o ho hp
    obtain ⟨h1, q, hq, hqw, hle⟩ := rootP_some hp
    cases hr : rootP br m.reverse with
    | none =>
      rw [rootP_none, root_turned] at hr
      rw [rootP_none.2 hr] at hp
      cases hp
    | some o' =>
      have k := rootP_some hr
      rw [root_turned] at k
      have k2 : IsPort br (rootV br m) m.reverse m.reverse.length (m.length - 1 - o) := by
        refine ⟨by rw [List.length_reverse]; omega, q, by rw [at_turned ho]; exact hq, hqw, fun j p hj hpj hpw => ?_⟩
        rw [List.length_reverse] at hj
        rw [List.getElem?_reverse hj] at hpj
        exact hle _ p (by omega) hpj hpw
      rw [port_one (apart_turned hm) k k2]
  constructor
  · intro hp
    have := key l.reverse (apart_turned ha) _ (by rw [List.length_reverse]; omega) hp
    rw [List.reverse_reverse, List.length_reverse] at this
    rw [this]
    congr 1
    omega
  · exact key l ha i h

/-- A port's role, where the root vector is v; is it the root port? -/
def roleR (br : Int) (v : Vc) (isP : Bool) (p : Inf) : Int :=
  if p.source = 0 then 0 else if p.source < 3 then 2 else if isP then 1 else if cmpR ⟨v.root, v.cost, br, p.id⟩ p.vec < 0 then 2 else if ownB p.vec br then 4 else 3
def roleAt (br : Int) (l : List Inf) (i : Nat) (p : Inf) : Int := roleR br (rootV br l) (decide (rootP br l = some i)) p
theorem role_turned {br : Int} {l : List Inf} (ha : Apart l) {i : Nat} (h : i < l.length) (p : Inf) : roleAt br l.reverse (l.length - 1 - i) p = roleAt br l i p := by
  unfold roleAt
  rw [root_turned, decide_eq_decide.2 (rootP_turned ha h)]

/-- May this be known of a port? -/
def infB (p : Inf) : Bool := decide ((1 ≤ p.id ∧ p.id ≤ 65535) ∧ p.cost ≤ 4294967295 ∧ (0 ≤ p.source ∧ p.source ≤ 3) ∧ p.vec.cost ≤ 4294967295 ∧ (p.source < 3 → p.vec = zeroV))
/-- May these be? -/
def rightR (l : List Inf) : Bool := decide (l.length ≤ 16) && l.all infB && decide (l.Pairwise (fun p q => ¬ p.id = q.id))
theorem right_apart {l : List Inf} (h : rightR l = true) : Apart l := by
  unfold rightR at h
  simp only [Bool.and_eq_true, decide_eq_true_eq] at h
  have hp := List.pairwise_iff_getElem.1 h.2
  intro i j p q hi hj e
  obtain ⟨h1, rfl⟩ := List.getElem?_eq_some_iff.1 hi
  obtain ⟨h2, rfl⟩ := List.getElem?_eq_some_iff.1 hj
  rcases Nat.lt_trichotomy i j with k | k | k
  · exact absurd e (hp i j h1 h2 k)
  · exact k
  · exact absurd e.symm (hp j i h2 h1 k)
theorem right_each {l : List Inf} (h : rightR l = true) {p : Inf} (hp : p ∈ l) : infB p = true := by
  unfold rightR at h
  simp only [Bool.and_eq_true, List.all_eq_true] at h
  exact h.1.2 p hp
theorem right_len {l : List Inf} (h : rightR l = true) : l.length ≤ 16 := by
  unfold rightR at h
  simp only [Bool.and_eq_true, decide_eq_true_eq] at h
  exact h.1.1
end Rm
end Go.Proofs.YtngdilmgbgdkcaaDoor
