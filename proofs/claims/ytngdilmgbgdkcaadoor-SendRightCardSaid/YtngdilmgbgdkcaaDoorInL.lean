/-
  Layer 11: Settle; meet and answer; Hear.
-/
import Derived.Test.YtngdilmgbgdkcaaDoorInJ
namespace Go.Proofs.YtngdilmgbgdkcaaDoor
set_option linter.unusedVariables false
set_option linter.unusedSimpArgs false
open Go.RowKit Vm Rm Bm Im

/-! meet and answer: what they hand back, and what that does. -/
/-- What is done besides, by what was heard. -/
def answerP (k : Int) (p : Pt) (q : Bp) : Pt := if k = 1 then superP p q else if k = 2 then recordP p q else if k = 3 then inferiorP p q else if k = 4 then otherP p q else p


end Go.Proofs.YtngdilmgbgdkcaaDoor
