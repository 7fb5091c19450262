/-
  Layer 14: a port and a BPDU that are made and filled; ports compared with themselves.
-/
import Derived.Test.YtldobcfejldbiaaGreatDoorMbn
namespace Go.Proofs.YtldobcfejldbiaaGreatDoor
set_option linter.unusedVariables false
set_option linter.unusedSimpArgs false
open Go.RowKit Vm Rm Bm Im

theorem fillS_is (w : World) (p : Pt) : ∃ (V : World) (b : Nat), Hid ((w.alloc (.cells (cellsT zeroP) 78)).setRow w.heap.size (cellsT p) = V) ∧ Hid (w.heap.size = b) ∧ PtBlk 78 V b p ∧ Below b w V ∧ b < V.heap.size :=
  ⟨_, _, Lib.hid rfl, Lib.hid rfl, (ptblk_new _ w zeroP).row p, below_row (below_box w _) (Nat.le_refl _) _, ((ptblk_new 78 w zeroP).row p).lt⟩
end Go.Proofs.YtldobcfejldbiaaGreatDoor
