/-
  Plain mathematics of layer 8 (roles), third part: the scan over the ports that the package makes, step by step, comes to the root vector and the root port.
-/
import Derived.Test.YtngdilmgbgdkcaaDoorRoMath2
namespace Go.Proofs.YtngdilmgbgdkcaaDoor
set_option linter.unusedVariables false
set_option linter.unusedSimpArgs false
open Vm
namespace Rm

/-- The root port among the first k, for the root vector of these. -/
def scanP (br : Int) (l : List Inf) (k : Nat) : Option Nat := if rootV br (l.take k) = mineR br then none else portN br (rootV br (l.take k)) l k
theorem scan_zero (br : Int) (l : List Inf) : rootV br (l.take 0) = mineR br ∧ scanP br l 0 = none := by
  have e : rootV br (l.take 0) = mineR br := rfl
  refine ⟨e, ?_⟩
  unfold scanP
  rw [if_pos e]
theorem scan_end (br : Int) (l : List Inf) : rootV br (l.take l.length) = rootV br l ∧ scanP br l l.length = rootP br l := by
  unfold scanP rootP
  rw [List.take_length]
  exact ⟨rfl, rfl⟩
theorem root_next {br : Int} {l : List Inf} {k : Nat} {p : Inf} (h : l[k]? = some p) : rootV br (l.take (k + 1)) = stepV br (rootV br (l.take k)) p := take_next (stepV br) (mineR br) h
theorem port_next_no {br : Int} {v : Vc} {l : List Inf} {k : Nat} {p : Inf} (h : l[k]? = some p) (hw : ¬ wayR br p = some v) : portN br v l (k + 1) = portN br v l k := by
  rw [portN, h]
  simp only
  rw [if_neg hw]
theorem scan_none {br : Int} {l : List Inf} {k : Nat} {p : Inf} (h : l[k]? = some p) (hw : wayR br p = none) : rootV br (l.take (k + 1)) = rootV br (l.take k) ∧ scanP br l (k + 1) = scanP br l k := by
  have e : rootV br (l.take (k + 1)) = rootV br (l.take k) := by rw [root_next h]; unfold stepV; rw [hw]
  refine ⟨e, ?_⟩
  unfold scanP
  rw [e, port_next_no h (by rw [hw]; exact nofun)]
theorem scan_more {br : Int} {l : List Inf} {k : Nat} {p : Inf} {w : Vc} (h : l[k]? = some p) (hw : wayR br p = some w) (hc : 0 < cmpR w (rootV br (l.take k))) : rootV br (l.take (k + 1)) = rootV br (l.take k) ∧ scanP br l (k + 1) = scanP br l k := by
  have e : rootV br (l.take (k + 1)) = rootV br (l.take k) := by
    rw [root_next h]; unfold stepV; rw [hw]; simp only
    rw [if_neg (by omega)]
  refine ⟨e, ?_⟩
  unfold scanP
  rw [e, port_next_no h]
  rw [hw]
  intro he
  cases he
  rw [cmp_self] at hc
  omega
theorem root_take_way {br : Int} {l : List Inf} {k i : Nat} {p : Inf} {w : Vc} (hi : i < k) (h : l[i]? = some p) (hw : wayR br p = some w) : cmpR (rootV br (l.take k)) w ≤ 0 :=
  (root_is br (l.take k)).way p (List.mem_of_getElem? (by rw [List.getElem?_take_of_lt hi]; exact h)) w hw
theorem scan_less {br : Int} {l : List Inf} {k : Nat} {p : Inf} {w : Vc} (h : l[k]? = some p) (hw : wayR br p = some w) (hc : cmpR w (rootV br (l.take k)) < 0) : rootV br (l.take (k + 1)) = w ∧ scanP br l (k + 1) = some k := by
  have e : rootV br (l.take (k + 1)) = w := by
    rw [root_next h]; unfold stepV; rw [hw]; simp only
    rw [if_pos hc]
  refine ⟨e, ?_⟩
  have hk : k < l.length := (List.getElem?_eq_some_iff.1 h).1
  have hm : ¬ w = mineR br := by
    rintro rfl
    have h1 := (root_is br (l.take k)).own
    have h2 := cmp_neg (mineR br) (rootV br (l.take k))
    omega
  unfold scanP
  rw [e, if_neg hm, portN, h]
  simp only
  rw [if_pos hw]
  have hp : portN br w l k = none := by
    cases ho : portN br w l k with
    | none => rfl
    | some o =>
      obtain ⟨hlt, q, hq, hqw, _⟩ := (port_spec br w l k (by omega)).2 o ho
      have h1 := root_take_way hlt hq hqw
      have h2 := cmp_neg w (rootV br (l.take k))
      omega
  rw [hp]
theorem scan_eq {br : Int} {l : List Inf} {k : Nat} {p : Inf} {w : Vc} (h : l[k]? = some p) (hw : wayR br p = some w) (hc : cmpR w (rootV br (l.take k)) = 0) : rootV br (l.take k) = w ∧ rootV br (l.take (k + 1)) = w := by
  have e0 : w = rootV br (l.take k) := cmp_zero.1 hc
  refine ⟨e0.symm, ?_⟩
  rw [root_next h]; unfold stepV; rw [hw]; simp only
  rw [if_neg (by omega)]
  exact e0.symm
theorem scan_same_none {br : Int} {l : List Inf} {k : Nat} {p : Inf} {w : Vc} (h : l[k]? = some p) (hw : wayR br p = some w) (hc : cmpR w (rootV br (l.take k)) = 0) (ho : scanP br l k = none) : rootV br (l.take (k + 1)) = rootV br (l.take k) ∧ scanP br l (k + 1) = none := by
  obtain ⟨e0, e1⟩ := scan_eq h hw hc
  refine ⟨e1.trans e0.symm, ?_⟩
  have hk : k < l.length := (List.getElem?_eq_some_iff.1 h).1
  unfold scanP at ho ⊢
  rw [e1]
  rw [e0] at ho
  by_cases hm : w = mineR br
  · rw [if_pos hm]
  · exfalso
    rw [if_neg hm] at ho
    rcases (root_is br (l.take k)).is with h1 | ⟨q, hq, hqw⟩
    · exact hm (e0.symm.trans h1)
    · rw [e0] at hqw
      obtain ⟨i, hi⟩ := List.getElem?_of_mem hq
      have hik := (List.getElem?_eq_some_iff.1 hi).1
      rw [List.length_take] at hik
      rw [List.getElem?_take_of_lt (by omega)] at hi
      exact (port_spec br w l k (by omega)).1 ho i q (by omega) hi hqw
theorem scan_same_some {br : Int} {l : List Inf} {k j : Nat} {p q : Inf} {w : Vc} (h : l[k]? = some p) (hw : wayR br p = some w) (hc : cmpR w (rootV br (l.take k)) = 0) (ho : scanP br l k = some j) (hq : l[j]? = some q) : rootV br (l.take (k + 1)) = rootV br (l.take k) ∧ rootV br (l.take k) = w ∧ scanP br l (k + 1) = if p.id < q.id then some k else some j := by
  obtain ⟨e0, e1⟩ := scan_eq h hw hc
  refine ⟨e1.trans e0.symm, e0, ?_⟩
  unfold scanP at ho ⊢
  rw [e1]
  rw [e0] at ho
  by_cases hm : w = mineR br
  · rw [if_pos hm] at ho; cases ho
  · rw [if_neg hm] at ho ⊢
    rw [portN, h]
    simp only
    rw [if_pos hw, ho]
    simp only [hq]
theorem scan_lt {br : Int} {l : List Inf} {k j : Nat} (hk : k ≤ l.length) (ho : scanP br l k = some j) : j < k := by
  unfold scanP at ho
  split at ho
  · cases ho
  · exact ((port_spec br _ l k hk).2 j ho).lt
end Rm
end Go.Proofs.YtngdilmgbgdkcaaDoor
