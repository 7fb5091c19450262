/-
  Layer 11: awake.
-/
import Derived.Test.YtngdilmgbgdkcaaDoorInW
namespace Go.Proofs.YtngdilmgbgdkcaaDoor
set_option linter.unusedVariables false
set_option linter.unusedSimpArgs false
open Go.RowKit Vm Rm Bm Im

set_option maxRecDepth 100000 in
/-- A port out of a block of its own, behind a guard. -/
theorem wpList_ptg {ops : Array Oper} {rest : List Oper} {op : Oper} {a : Act} {w : World} {Q : Exit → Act → World → Prop} (hgd : Region.wanted op (yielded ops a.tmps) = true) (x : Operand) (ho : op.op = .load 30 x)
    (b : Nat) (hx : a.eval x = .pointer (some ⟨b, 0, none⟩)) (p : Pt) (hc : PtBlk 30 w b p)
    (h : wpList Tryd.prog ops Q rest (a.put op.dst (.agg (cellsT p))) w) : wpList Tryd.prog ops Q (op :: rest) a w :=
  wpList_step fun K hK => by
    rw [if_pos hgd]
    exact wp_load_row 30 x ho b hx 30 (cellsT p) (0, 0) _ hc rfl rfl infoSP (hK _ _ h)
/-- A port's block, made and filled. -/
theorem fill_is (w : World) (p : Pt) : ∃ (V : World) (b : Nat), Hid ((w.alloc (.cells (cellsT zeroP) 30)).setRow w.heap.size (cellsT p) = V) ∧ Hid (w.heap.size = b) ∧ PtBlk 30 V b p ∧ Below b w V ∧ b < V.heap.size :=
  ⟨_, _, Lib.hid rfl, Lib.hid rfl, (ptblk_new _ w zeroP).row p, below_row (below_box w _) (Nat.le_refl _) _, ((ptblk_new 30 w zeroP).row p).lt⟩
abbrev b0v : Value := .agg #[.int .i64 3, .int .i64 14, .int .u64 1, .int .u64 0, .int .u64 2, .int .u64 1, .int .i64 0, .int .i64 5120, .int .i64 512, .int .i64 3840]

end Go.Proofs.YtngdilmgbgdkcaaDoor
