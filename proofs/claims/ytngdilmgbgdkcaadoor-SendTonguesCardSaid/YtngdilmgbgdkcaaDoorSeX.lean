/-
  Layer 14: a port and a BPDU that are made and filled; ports compared with themselves.
-/
import Derived.Test.YtngdilmgbgdkcaaDoorSeD
namespace Go.Proofs.YtngdilmgbgdkcaaDoor
set_option linter.unusedVariables false
set_option linter.unusedSimpArgs false
open Go.RowKit Vm Rm Bm Im

theorem fillS_is (w : World) (p : Pt) : ∃ (V : World) (b : Nat), Hid ((w.alloc (.cells (cellsT zeroP) 30)).setRow w.heap.size (cellsT p) = V) ∧ Hid (w.heap.size = b) ∧ PtBlk 30 V b p ∧ Below b w V ∧ b < V.heap.size :=
  ⟨_, _, Lib.hid rfl, Lib.hid rfl, (ptblk_new _ w zeroP).row p, below_row (below_box w _) (Nat.le_refl _) _, ((ptblk_new 30 w zeroP).row p).lt⟩
set_option maxRecDepth 100000 in
set_option maxHeartbeats 4000000 in
theorem run_ptNe1 (p : Pt) (w : World) : Sem.run Tryd.prog (binOp .neq 30 (.agg (cellsT p)) (.agg (cellsT p))) w = .ok (.bool false) w := by
  unfold cellsT
  go_simp
set_option maxRecDepth 100000 in
set_option maxHeartbeats 4000000 in
theorem run_ptEq1 (p : Pt) (w : World) : Sem.run Tryd.prog (binOp .eql 30 (.agg (cellsT p)) (.agg (cellsT p))) w = .ok (.bool true) w := by
  unfold cellsT
  go_simp
set_option maxRecDepth 100000 in
set_option maxHeartbeats 4000000 in
theorem exec_ptNe1 (op : Oper) (ev : Operand → Value) (x y : Operand) (ho : op.op = .binOp .neq 30 x y 30) (p : Pt) (hx : ev x = .agg (cellsT p)) (hy : ev y = .agg (cellsT p)) (w : World) : (execOp ev op).run Tryd.prog w = .ok (.value (.bool false)) w := by
  have h1 := run_ptNe1 p w
  unfold execOp
  rw [ho]
  dsimp only
  rw [hx, hy]
  have hg : (eqGuard .neq 30 x y (.agg (cellsT p)) (.agg (cellsT p))).run Tryd.prog w = .ok () w := by kernel_rfl
  simp only [Sem.run_bind, Sem.run_pure, Result.andThen_ok, hg, h1]
/-- A port beside itself, '!=', behind a guard. -/
theorem wpList_neqg {ops : Array Oper} {rest : List Oper} {op : Oper} {a : Act} {w : World} {Q : Exit → Act → World → Prop} (hgd : Region.wanted op (yielded ops a.tmps) = true) (x y : Operand) (ho : op.op = .binOp .neq 30 x y 30)
    (p : Pt) (hx : a.eval x = .agg (cellsT p)) (hy : a.eval y = .agg (cellsT p))
    (h : wpList Tryd.prog ops Q rest (a.put op.dst (.bool false)) w) : wpList Tryd.prog ops Q (op :: rest) a w :=
  wpList_step fun K hK => by
    rw [if_pos hgd]
    unfold Oper.wp
    rw [exec_ptNe1 op a.eval x y ho p hx hy w]
    exact hK _ _ h
theorem bzero6 (w : World) (X : Pt) : BBlk 34 (((w.alloc (.cells (cellsT zeroP) 30)).alloc (.cells (cellsB zeroM) 34)).setRow w.heap.size (cellsT X)) (w.heap.size + 1) zeroM := by
  have := heap_alloc_new (w.alloc (.cells (cellsT zeroP) 30)) (.cells (cellsB zeroM) 34)
  rw [size_box] at this
  exact (setRow_other _ _ _ _ (by omega)).trans this
/-- A port and a BPDU, made and filled. -/
theorem made2_is (w : World) (X : Pt) (M : Bp) : ∃ (V : World) (b : Nat), Hid ((((w.alloc (.cells (cellsT zeroP) 30)).alloc (.cells (cellsB zeroM) 34)).setRow w.heap.size (cellsT X)).setRow (w.heap.size + 1) (cellsB M) = V) ∧ Hid (w.heap.size = b) ∧ PtBlk 30 V b X ∧ BBlk 34 V (b + 1) M ∧ Below b w V := by
  have h0 := (ptblk_new 30 w zeroP).next (below_box (w.alloc (.cells (cellsT zeroP) 30)) (.cells (cellsB zeroM) 34))
  have h1 := h0.row X
  have hz : BBlk 34 ((w.alloc (.cells (cellsT zeroP) 30)).alloc (.cells (cellsB zeroM) 34)) (w.heap.size + 1) zeroM := by
    have := heap_alloc_new (w.alloc (.cells (cellsT zeroP) 30)) (.cells (cellsB zeroM) 34)
    rw [size_box] at this
    exact this
  have hB0 : Below w.heap.size w ((w.alloc (.cells (cellsT zeroP) 30)).alloc (.cells (cellsB zeroM) 34)) := bw_alloc (below_box w _) _
  refine ⟨_, _, Lib.hid rfl, Lib.hid rfl, ?_, ?_, ?_⟩
  · exact (setRow_other _ _ _ _ (by omega)).trans h1
  · exact setRow_heap _ _ (cellsB zeroM) (cellsB M) _ _ ((setRow_other _ _ _ _ (by omega)).trans hz)
  · exact below_row (below_row hB0 (Nat.le_refl _) _) (by omega) _
end Go.Proofs.YtngdilmgbgdkcaaDoor
