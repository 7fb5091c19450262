/-
  Plain mathematics of layer 8 (roles), second part: what each role says; how many root ports there are; a deaf bridge.
-/
import Derived.Test.YtngdilmgbgdkcaaDoorRoMath
namespace Go.Proofs.YtngdilmgbgdkcaaDoor
set_option linter.unusedVariables false
set_option linter.unusedSimpArgs false
open Vm
namespace Rm

theorem way_some {br : Int} {p : Inf} {w : Vc} (h : wayR br p = some w) : p.source = 3 ∧ ownB p.vec br = false ∧ raiseR p.vec p.cost = w := by
  unfold wayR at h
  split at h
  · rename_i hc
    cases h
    exact ⟨hc.1, hc.2, rfl⟩
  · cases h
theorem way_of {br : Int} {p : Inf} (h : p.source = 3) (k : ownB p.vec br = false) : wayR br p = some (raiseR p.vec p.cost) := by unfold wayR; rw [if_pos ⟨h, k⟩]
theorem inf_source {p : Inf} (h : infB p = true) : 0 ≤ p.source ∧ p.source ≤ 3 := by
  unfold infB at h
  exact (of_decide_eq_true h).2.2.1
theorem role_0 {br : Int} {v : Vc} {b : Bool} {p : Inf} (h : p.source = 0) : roleR br v b p = 0 := by unfold roleR; rw [if_pos h]
theorem role_mid {br : Int} {v : Vc} {b : Bool} {p : Inf} (h : ¬ p.source = 0) (k : p.source < 3) : roleR br v b p = 2 := by unfold roleR; rw [if_neg h, if_pos k]
theorem role_root {br : Int} {v : Vc} {p : Inf} (k : p.source = 3) : roleR br v true p = 1 := by unfold roleR; rw [if_neg (by omega), if_neg (by omega), if_pos rfl]
theorem role_desig {br : Int} {v : Vc} {p : Inf} (k : p.source = 3) (h : cmpR ⟨v.root, v.cost, br, p.id⟩ p.vec < 0) : roleR br v false p = 2 := by
  unfold roleR; rw [if_neg (by omega), if_neg (by omega), if_neg Bool.false_ne_true, if_pos h]
theorem role_backup {br : Int} {v : Vc} {p : Inf} (k : p.source = 3) (h : ¬ cmpR ⟨v.root, v.cost, br, p.id⟩ p.vec < 0) (ho : ownB p.vec br = true) : roleR br v false p = 4 := by
  unfold roleR; rw [if_neg (by omega), if_neg (by omega), if_neg Bool.false_ne_true, if_neg h, if_pos ho]
theorem role_alt {br : Int} {v : Vc} {p : Inf} (k : p.source = 3) (h : ¬ cmpR ⟨v.root, v.cost, br, p.id⟩ p.vec < 0) (ho : ownB p.vec br = false) : roleR br v false p = 3 := by
  unfold roleR; rw [if_neg (by omega), if_neg (by omega), if_neg Bool.false_ne_true, if_neg h, if_neg (by rw [ho]; exact Bool.false_ne_true)]
/-- A role is just one of these. -/
inductive RoleIs (br : Int) (v : Vc) (isP : Bool) (p : Inf) : Int → Prop
  | off : p.source = 0 → RoleIs br v isP p 0
  | mid : ¬ p.source = 0 → p.source < 3 → RoleIs br v isP p 2
  | root : p.source = 3 → isP = true → RoleIs br v isP p 1
  | desig : p.source = 3 → isP = false → cmpR ⟨v.root, v.cost, br, p.id⟩ p.vec < 0 → RoleIs br v isP p 2
  | backup : p.source = 3 → isP = false → ¬ cmpR ⟨v.root, v.cost, br, p.id⟩ p.vec < 0 → ownB p.vec br = true → RoleIs br v isP p 4
  | alt : p.source = 3 → isP = false → ¬ cmpR ⟨v.root, v.cost, br, p.id⟩ p.vec < 0 → ownB p.vec br = false → RoleIs br v isP p 3
theorem role_is (br : Int) (v : Vc) (isP : Bool) (p : Inf) (h0 : 0 ≤ p.source) (h3 : p.source ≤ 3) : RoleIs br v isP p (roleR br v isP p) := by
  by_cases z : p.source = 0
  · rw [role_0 z]; exact .off z
  by_cases m : p.source < 3
  · rw [role_mid z m]; exact .mid z m
  have k : p.source = 3 := by omega
  cases isP with
  | true => rw [role_root k]; exact .root k rfl
  | false =>
    by_cases c : cmpR ⟨v.root, v.cost, br, p.id⟩ p.vec < 0
    · rw [role_desig k c]; exact .desig k rfl c
    · cases ho : ownB p.vec br with
      | true => rw [role_backup k c ho]; exact .backup k rfl c ho
      | false => rw [role_alt k c ho]; exact .alt k rfl c ho
/-- The root port's place, as a number. -/
def portI (o : Option Nat) : Int := match o with | some i => i | none => -1
theorem portI_neg {o : Option Nat} : portI o < 0 ↔ o = none := by
  cases o with
  | none => exact ⟨fun _ => rfl, fun _ => by show (-1 : Int) < 0; omega⟩
  | some i => exact ⟨fun h => by have : (i : Int) < 0 := h; omega, fun h => by cases h⟩
theorem portI_eq {o : Option Nat} {i : Nat} : portI o = (i : Int) ↔ o = some i := by
  cases o with
  | none => exact ⟨fun h => by have : (-1 : Int) = (i : Int) := h; omega, fun h => by cases h⟩
  | some j => exact ⟨fun h => by have : (j : Int) = (i : Int) := h; congr 1; omega, fun h => by cases h; rfl⟩
/-- How many root ports there are among the first n. -/
def rootsN (o : Option Nat) (n : Nat) : Nat := match o with | some i => if i < n then 1 else 0 | none => 0
theorem roots_zero (o : Option Nat) : rootsN o 0 = 0 := by
  cases o with
  | none => rfl
  | some i => show (if i < 0 then 1 else 0) = 0; rw [if_neg (Nat.not_lt_zero i)]
theorem roots_next (o : Option Nat) (n : Nat) : rootsN o (n + 1) = rootsN o n + if o = some n then 1 else 0 := by
  cases o with
  | none => rfl
  | some i =>
    show (if i < n + 1 then 1 else 0) = (if i < n then 1 else 0) + _
    by_cases e : i = n
    · subst e; rw [if_pos (by omega), if_neg (by omega), if_pos rfl]
    · by_cases h : i < n
      · rw [if_pos (by omega), if_pos h, if_neg (fun c => e (by cases c; rfl))]
      · rw [if_neg (by omega), if_neg h, if_neg (fun c => e (by cases c; rfl))]
theorem roots_all {br : Int} {l : List Inf} : rootsN (rootP br l) l.length ≤ 1 ∧ (rootsN (rootP br l) l.length = 1 ↔ 0 ≤ portI (rootP br l)) := by
  cases h : rootP br l with
  | none => exact ⟨Nat.zero_le _, ⟨nofun, fun e => by have : (0 : Int) ≤ -1 := e; omega⟩⟩
  | some i =>
    have hi := (rootP_some h).lt
    show (if i < l.length then 1 else 0) ≤ 1 ∧ ((if i < l.length then 1 else 0) = 1 ↔ 0 ≤ (i : Int))
    rw [if_pos hi]
    exact ⟨Nat.le_refl _, ⟨fun _ => by omega, fun _ => rfl⟩⟩
/-- The root port heard; its way is the root's. -/
theorem rootP_way {br : Int} {l : List Inf} {i : Nat} {p : Inf} (h : rootP br l = some i) (hp : l[i]? = some p) : p.source = 3 ∧ ownB p.vec br = false ∧ raiseR p.vec p.cost = rootV br l := by
  obtain ⟨_, q, hq, hw, _⟩ := rootP_some h
  rw [hp] at hq
  cases hq
  exact way_some hw
/-- A bridge that heard nothing. -/
def deafR (p : Inf) : Inf := ⟨p.id, p.cost, min p.source 2, zeroV⟩
theorem deaf_way (br : Int) (p : Inf) : wayR br (deafR p) = none := by
  unfold wayR deafR
  rw [if_neg]
  intro h
  have : min p.source 2 = 3 := h.1
  omega
theorem deaf_root (br : Int) (l : List Inf) : rootV br (l.map deafR) = mineR br := root_deaf (fun p hp => by obtain ⟨q, _, rfl⟩ := List.mem_map.1 hp; exact deaf_way br q)
theorem deaf_port (br : Int) (l : List Inf) : rootP br (l.map deafR) = none := rootP_none.2 (deaf_root br l)
theorem deaf_inf {p : Inf} (h : infB p = true) : infB (deafR p) = true := by
  unfold infB at h ⊢
  obtain ⟨h1, h2, h3, h4, h5⟩ := of_decide_eq_true h
  refine decide_eq_true ⟨h1, h2, ?_, ?_, fun _ => rfl⟩
  · show 0 ≤ min p.source 2 ∧ min p.source 2 ≤ 3
    omega
  · show (0 : Int) ≤ 4294967295
    omega
theorem deaf_right {l : List Inf} (h : rightR l = true) : rightR (l.map deafR) = true := by
  unfold rightR at h ⊢
  simp only [Bool.and_eq_true, decide_eq_true_eq, List.all_eq_true] at h ⊢
  obtain ⟨⟨h1, h2⟩, h3⟩ := h
  refine ⟨⟨by rw [List.length_map]; exact h1, fun p hp => ?_⟩, ?_⟩
  · obtain ⟨q, hq, rfl⟩ := List.mem_map.1 hp
    exact deaf_inf (h2 q hq)
  · rw [List.pairwise_map]
    exact h3
theorem turned_right {l : List Inf} (h : rightR l = true) : rightR l.reverse = true := by
  unfold rightR at h ⊢
  simp only [Bool.and_eq_true, decide_eq_true_eq, List.all_eq_true] at h ⊢
  obtain ⟨⟨h1, h2⟩, h3⟩ := h
  refine ⟨⟨by rw [List.length_reverse]; exact h1, fun p hp => h2 p (List.mem_reverse.1 hp)⟩, ?_⟩
  rw [List.pairwise_reverse]
  exact h3.imp (fun hne e => hne e.symm)
theorem deaf_role {br : Int} {v : Vc} (p : Inf) (h : infB p = true) : roleR br v false (deafR p) = if p.source = 0 then 0 else 2 := by
  have hs := inf_source h
  by_cases z : p.source = 0
  · rw [if_pos z]; exact role_0 (show min p.source 2 = 0 by omega)
  · rw [if_neg z]; exact role_mid (show ¬ min p.source 2 = 0 by omega) (show min p.source 2 < 3 by omega)
end Rm
end Go.Proofs.YtngdilmgbgdkcaaDoor
