/-
  Layer 8: rows of what is known of ports that a call makes; the law's of.
-/
import Derived.Test.YtngdilmgbgdkcaaDoorRoI
namespace Go.Proofs.YtngdilmgbgdkcaaDoor
set_option linter.unusedVariables false
set_option linter.unusedSimpArgs false
open Go.RowKit Vm Rm

def seven (x : Inf) : List Value := [.int .u64 x.id, .int .u64 x.cost, .int .i64 x.source, .int .u64 x.vec.root, .int .u64 x.vec.cost, .int .u64 x.vec.bridge, .int .u64 x.vec.port]
def cellsP (l : List Inf) : List Value := l.flatMap seven
theorem cellsP_length (l : List Inf) : (cellsP l).length = l.length * 7 := by
  induction l with
  | nil => rfl
  | cons v l ih =>
    have e : cellsP (v :: l) = seven v ++ cellsP l := rfl
    rw [e, List.length_append, ih, List.length_cons]
    simp [seven]
    omega
theorem cellsP_add (l : List Inf) (x : Inf) : cellsP (l ++ [x]) = cellsP l ++ seven x := by simp [cellsP]
theorem cellsP_at {l : List Inf} {j : Nat} {x : Inf} (h : l[j]? = some x) (c : Nat) (hc : c < 7) : (cellsP l)[j * 7 + c]? = (seven x)[c]? := by
  induction l generalizing j with
  | nil => simp at h
  | cons y l ih =>
    have e : cellsP (y :: l) = seven y ++ cellsP l := rfl
    have ly : (seven y).length = 7 := rfl
    rw [e]
    cases j with
    | zero =>
      simp at h
      subst h
      rw [List.getElem?_append_left (by omega)]
      congr 1; omega
    | succ j =>
      rw [List.getElem?_append_right (by omega), ly]
      have := ih (j := j) (by simpa using h)
      rw [← this]
      congr 1; omega
theorem irow_owned {w : World} {base : Nat} {T : TypeId} {v : Value} {l : List Inf} (h : w.ownsRow base T 7 v l.length (cellsP l)) (hr : ∀ x ∈ l, InfOk x) : ∃ (a : Option Addr) (cap : Nat), v = .slice a l.length cap ∧ l.length ≤ cap ∧ IRow w a l := by
  rcases h.2 with ⟨rfl, h0⟩ | ⟨g, cap, cur, rfl, hbg, hg, hnc, hcm, hcs, htake⟩
  · have : l = [] := List.eq_nil_of_length_eq_zero h0
    subst this
    exact ⟨none, 0, rfl, Nat.le_refl _, ⟨fun j x h => by simp at h, hr⟩⟩
  · refine ⟨_, cap, rfl, hnc, ⟨fun j n hj => ⟨g, 0, rfl, (Array.getElem?_eq_some_iff.1 hg).1, ?_⟩, hr⟩⟩
    have hjl := (List.getElem?_eq_some_iff.1 hj).1
    have key : ∀ c, c < 7 → w.cell? ⟨g, 0 + j * 7 + c, none⟩ = (seven n)[c]? := fun c hc => by
      have h1 := h.cellAt (j * 7 + c) (by omega)
      rw [cellsP_at hj c hc] at h1
      rw [Nat.zero_add]; exact h1
    exact ⟨key 0 (by omega), key 1 (by omega), key 2 (by omega), key 3 (by omega), key 4 (by omega), key 5 (by omega), key 6 (by omega)⟩
theorem take_all {l : List Inf} {n : Nat} (h : l.length = n) : l.take n = l := by rw [← h, List.take_length]

end Go.Proofs.YtngdilmgbgdkcaaDoor
