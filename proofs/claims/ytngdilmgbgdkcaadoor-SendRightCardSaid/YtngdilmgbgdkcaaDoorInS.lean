/-
  Layer 11: Choose, where layer 8 refuses what it is told.
-/
import Derived.Test.YtngdilmgbgdkcaaDoorInR
import Derived.Test.YtngdilmgbgdkcaaDoorRoS
namespace Go.Proofs.YtngdilmgbgdkcaaDoor
set_option linter.unusedVariables false
set_option linter.unusedSimpArgs false
open Go.RowKit Vm Rm Bm Im

theorem BrBlk.other {w : World} {b : Nat} {i a m h d : Int} (H : BrBlk w b i a m h d) (c j : Nat) (v : Value) (hne : b ≠ c) : BrBlk (w.setCell ⟨c, j, none⟩ v) b i a m h d := (Below.heap_setCell w ⟨c, j, none⟩ v b hne).trans H

end Go.Proofs.YtngdilmgbgdkcaaDoor
