/-
  Layer 8: Right of the package, and the document's.
-/
import Derived.Test.YtngdilmgbgdkcaaDoorRoD
import Derived.Lib.SliceRun
namespace Go.Proofs.YtngdilmgbgdkcaaDoor
set_option linter.unusedVariables false
set_option linter.unusedSimpArgs false
open Go.RowKit Vm Rm

theorem right_long {l : List Inf} (h : 16 < l.length) : rightR l = false := by
  unfold rightR
  rw [decide_eq_false (by omega)]
  rfl
/-- Behind k rounds: the first k are right. -/
def RInv (l : List Inf) (n : Nat) (w : World) (v : Value) (wr : World) : Prop :=
  ∃ k : Nat, k ≤ n ∧ v = .int .i64 (k : Nat) ∧ rightR (l.take k) = true ∧ Below w.heap.size w wr

/-! ### The document's Right -/
/-- Behind k rounds of the inner loop, in the outer one's round m: no earlier Id is p's. -/
theorem clash_step {l : List Inf} {i : Int} {k : Nat} {x : Inf} (h : ∀ j y, j < k → l[j]? = some y → ¬ y.id = i) (hx : l[k]? = some x) (hn : ¬ x.id = i) : ∀ j y, j < k + 1 → l[j]? = some y → ¬ y.id = i := by
  intro j y hj hy
  by_cases e : j = k
  · subst e; rw [hx] at hy; cases hy; exact hn
  · exact h j y (by omega) hy
theorem clash_take {l : List Inf} {i : Int} {k : Nat} (h : ∀ j y, j < k → l[j]? = some y → ¬ y.id = i) : clashB (l.take k) i = false := by
  refine clash_no fun j x hj hx => ?_
  rw [List.length_take] at hj
  rw [take_at (by omega)] at hx
  exact h j x (by omega) hx
def R2Inv (l : List Inf) (n : Nat) (w : World) (v : Value) (wr : World) : Prop :=
  ∃ k : Nat, k ≤ n ∧ v = .int .i64 (k : Nat) ∧ rightR (l.take k) = true ∧ Below w.heap.size w wr

end Go.Proofs.YtngdilmgbgdkcaaDoor
