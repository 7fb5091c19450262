/-
  Layer 8: the document's Compare.
-/
import Derived.Test.YtngdilmgbgdkcaaDoorRoB
namespace Go.Proofs.YtngdilmgbgdkcaaDoor
set_option linter.unusedVariables false
set_option linter.unusedSimpArgs false
open Go.RowKit Vm Rm

end Go.Proofs.YtngdilmgbgdkcaaDoor
