/-
  Layer 11: Power, Age, Settle.
-/
import Derived.Test.YtngdilmgbgdkcaaDoorInD
namespace Go.Proofs.YtngdilmgbgdkcaaDoor
set_option linter.unusedVariables false
set_option linter.unusedSimpArgs false
open Go.RowKit Vm Rm Bm Im

theorem does_as {w : World} {f : Nat} {c : Array Value} {X Y Z : Pt} (h : Does w f c X Y) (e : Y = Z) : Does w f c X Z := e ▸ h
end Go.Proofs.YtngdilmgbgdkcaaDoor
