/-
  Layer 8: eachWay with root's closure; root.
-/
import Derived.Test.YtngdilmgbgdkcaaDoorRoF
namespace Go.Proofs.YtngdilmgbgdkcaaDoor
set_option linter.unusedVariables false
set_option linter.unusedSimpArgs false
open Go.RowKit Vm Rm

theorem portI_some (j : Nat) : portI (some j) = (j : Int) := rfl
end Go.Proofs.YtngdilmgbgdkcaaDoor
