/-
  Layer 8: Select, where the ports are right.
-/
import Derived.Test.YtngdilmgbgdkcaaDoorRoI
namespace Go.Proofs.YtngdilmgbgdkcaaDoor
set_option linter.unusedVariables false
set_option linter.unusedSimpArgs false
open Go.RowKit Vm Rm

theorem own_put7 {w : World} {base n k s : Nat} {T : TypeId} {v : Value} {xs : List Value} (h : w.ownsRow base T s v k xs) (hn : n < base) (r c b p P : Int) (rs os : Value) : (put7 w n r c b p P rs os).ownsRow base T s v k xs := by
  have key : ∀ (w : World) (j : Nat) (u : Value), w.ownsRow base T s v k xs → (w.setCell ⟨n, j, none⟩ u).ownsRow base T s v k xs := by
    intro w j u h
    refine h.kept (grown_set w n j u) ?_
    cases hv : v.ownBlock with
    | none => exact .inl rfl
    | some x => exact .inr (fun e => own_far h hn (e.symm.trans hv.symm))
  exact key _ _ _ (key _ _ _ (key _ _ _ (key _ _ _ (key _ _ _ (key _ _ _ (key _ _ _ h))))))
end Go.Proofs.YtngdilmgbgdkcaaDoor
