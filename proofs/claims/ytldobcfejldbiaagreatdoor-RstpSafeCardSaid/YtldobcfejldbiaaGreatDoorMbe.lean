/-
  Layer 11: awake.
-/
import Derived.Test.YtldobcfejldbiaaGreatDoorMap
namespace Go.Proofs.YtldobcfejldbiaaGreatDoor
set_option linter.unusedVariables false
set_option linter.unusedSimpArgs false
open Go.RowKit Vm Rm Bm Im

set_option maxRecDepth 100000 in
/-- A port out of a block of its own, behind a guard. -/
theorem wpList_ptg {ops : Array Oper} {rest : List Oper} {op : Oper} {a : Act} {w : World} {Q : Exit → Act → World → Prop} (hgd : Region.wanted op (yielded ops a.tmps) = true) (x : Operand) (ho : op.op = .load 78 x)
    (b : Nat) (hx : a.eval x = .pointer (some ⟨b, 0, none⟩)) (p : Pt) (hc : PtBlk 78 w b p)
    (h : wpList Tryz.prog ops Q rest (a.put op.dst (.agg (cellsT p))) w) : wpList Tryz.prog ops Q (op :: rest) a w :=
  wpList_step fun K hK => by
    rw [if_pos hgd]
    exact wp_load_row 78 x ho b hx 78 (cellsT p) (0, 0) _ hc rfl rfl infoSP (hK _ _ h)
end Go.Proofs.YtldobcfejldbiaaGreatDoor
