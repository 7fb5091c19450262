/-
  Layer 8: role, the document's Way, slices.IndexFunc and ContainsFunc with Right's closure.
-/
import Derived.Test.YtngdilmgbgdkcaaDoorRoC
namespace Go.Proofs.YtngdilmgbgdkcaaDoor
set_option linter.unusedVariables false
set_option linter.unusedSimpArgs false
open Go.RowKit Vm Rm

theorem role_other {br : Int} {v : Vc} {b : Bool} {p : Inf} (h : infB p = true) (h0 : ¬ p.source = 0) (h3 : ¬ p.source = 3) : roleR br v b p = 2 := by
  have := inf_source h
  exact role_mid h0 (by omega)

/-! ### The document's Way -/
theorem way_no {br : Int} {p : Inf} (h : wayR br p = none) : ¬ p.source = 3 ∨ (p.source = 3 ∧ ownB p.vec br = true) := by
  unfold wayR at h
  split at h
  · cases h
  · rename_i hn
    by_cases h3 : p.source = 3
    · right
      refine ⟨h3, ?_⟩
      cases ho : ownB p.vec br with
      | true => rfl
      | false => exact absurd ⟨h3, ho⟩ hn
    · exact .inl h3

/-! ### Is an Id told twice? -/
def clashB (l : List Inf) (i : Int) : Bool := l.any (fun x => decide (x.id = i))
theorem clash_no {l : List Inf} {i : Int} (h : ∀ j x, j < l.length → l[j]? = some x → ¬ x.id = i) : clashB l i = false := by
  unfold clashB
  rw [List.any_eq_false]
  intro x hx
  obtain ⟨j, hj⟩ := List.getElem?_of_mem hx
  simp [h j x (List.getElem?_eq_some_iff.1 hj).1 hj]
theorem clash_yes {l : List Inf} {i : Int} {j : Nat} {x : Inf} (h : l[j]? = some x) (hi : x.id = i) : clashB l i = true := by
  unfold clashB
  rw [List.any_eq_true]
  exact ⟨x, List.mem_of_getElem? h, by simp [hi]⟩
theorem clash_at {l : List Inf} {i : Int} {j : Nat} {x : Inf} (h : clashB l i = false) (hx : l[j]? = some x) : ¬ x.id = i := by
  intro e
  rw [clash_yes hx e] at h
  cases h
theorem take_at {l : List Inf} {k j : Nat} (h : j < k) : (l.take k)[j]? = l[j]? := List.getElem?_take_of_lt h
theorem take_next' {l : List Inf} {k : Nat} {x : Inf} (h : l[k]? = some x) : l.take (k + 1) = l.take k ++ [x] := by rw [List.take_add_one, h]; rfl
theorem right_next {l : List Inf} {k : Nat} {p : Inf} (h : l[k]? = some p) (hk : k < 16) : rightR (l.take (k + 1)) = (rightR (l.take k) && infB p && !clashB (l.take k) p.id) := by
  have hlen : (l.take k).length ≤ k := by rw [List.length_take]; omega
  rw [take_next' h]
  unfold rightR clashB
  rw [Bool.eq_iff_iff]
  simp only [Bool.and_eq_true, decide_eq_true_eq, List.all_append, List.all_cons, List.all_nil, Bool.and_true, List.length_append, List.length_cons, List.length_nil, Bool.not_eq_true', List.any_eq_false, List.pairwise_append, List.mem_singleton, List.pairwise_cons, List.Pairwise.nil]
  constructor
  · rintro ⟨⟨h1, h2, h3⟩, h4, -, h5⟩
    exact ⟨⟨⟨⟨by omega, h2⟩, h4⟩, h3⟩, fun x hx => h5 x hx p rfl⟩
  · rintro ⟨⟨⟨⟨h1, h2⟩, h4⟩, h3⟩, h5⟩
    exact ⟨⟨by omega, h2, h3⟩, h4, by simp, fun x hx y hy => by subst hy; exact h5 x hx⟩
theorem right_prefix {l : List Inf} (h : rightR l = true) (k : Nat) : rightR (l.take k) = true := by
  unfold rightR at h ⊢
  simp only [Bool.and_eq_true, decide_eq_true_eq, List.all_eq_true] at h ⊢
  exact ⟨⟨by rw [List.length_take]; omega, fun x hx => h.1.2 x (List.mem_of_mem_take hx)⟩, h.2.sublist (List.take_sublist k l)⟩
theorem right_not {l : List Inf} {k : Nat} (h : rightR (l.take k) = false) : rightR l = false := by
  cases hr : rightR l with
  | false => rfl
  | true => rw [right_prefix hr k] at h; cases h
theorem right_zero (l : List Inf) : rightR (l.take 0) = true := by
  rw [List.take_zero]; rfl
theorem IRow.take {w : World} {a : Option Addr} {l : List Inf} (h : IRow w a l) (k : Nat) : IRow w a (l.take k) :=
  ⟨fun j x hx => by
    have hj := (List.getElem?_eq_some_iff.1 hx).1
    rw [List.length_take] at hj
    rw [take_at (by omega)] at hx
    exact h.at_ j x hx, fun x hx => h.rng x (List.mem_of_mem_take hx)⟩

/-- Behind k rounds: none of the first k has this Id. -/
def SInv (l : List Inf) (n : Nat) (i : Int) (w : World) (v : Value) (wr : World) : Prop :=
  ∃ k : Nat, k ≤ n ∧ v = .int .i64 (k : Nat) ∧ (∀ j x, j < k → l[j]? = some x → ¬ x.id = i) ∧ Below w.heap.size w wr

end Go.Proofs.YtngdilmgbgdkcaaDoor
