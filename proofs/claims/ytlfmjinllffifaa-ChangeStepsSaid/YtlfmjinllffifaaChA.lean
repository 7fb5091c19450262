/-
  Layers 11 to 13: the document's ports, loaded, stored and compared; its rows of ports.
-/
import Derived.Test.YtlfmjinllffifaaTrO
namespace Go.Proofs.Ytlfmjinllffifaa
set_option linter.unusedVariables false
set_option linter.unusedSimpArgs false
open Go.RowKit Vm Rm Bm Im

set_option maxRecDepth 100000 in
theorem wpList_rmid {ops : Array Oper} {rest : List Oper} {op : Oper} {a : Act} {w : World} {Q : Exit → Act → World → Prop} (hgd : op.guard = none) (x : Operand) (ho : op.op = .load 54 x)
    (b o : Nat) (hx : a.eval x = .pointer (some ⟨b, o, none⟩)) (p : Pt) (hc : w.rangeAt b o (cellsT p).toList)
    (h : wpList Try.prog ops Q rest (a.put op.dst (.agg (cellsT p))) w) : wpList Try.prog ops Q (op :: rest) a w := by
  refine wpList_load_mid hgd 54 x ho b o hx (cellsT p).toList _ hc rfl rfl ?_ ?_
  · rw [cellsT_len]; exact infoRP
  · rw [Array.toArray_toList]; exact h
set_option maxRecDepth 100000 in
theorem wpList_rpt {ops : Array Oper} {rest : List Oper} {op : Oper} {a : Act} {w : World} {Q : Exit → Act → World → Prop} (hgd : op.guard = none) (x : Operand) (ho : op.op = .load 54 x)
    (b : Nat) (hx : a.eval x = .pointer (some ⟨b, 0, none⟩)) (p : Pt) (hc : PtBlk 54 w b p)
    (h : wpList Try.prog ops Q rest (a.put op.dst (.agg (cellsT p))) w) : wpList Try.prog ops Q (op :: rest) a w :=
  wpList_load_row hgd 54 x ho b hx 54 (cellsT p) (0, 0) _ hc rfl rfl infoRP h
set_option maxRecDepth 100000 in
theorem wpList_rst {ops : Array Oper} {rest : List Oper} {op : Oper} {a : Act} {w : World} {Q : Exit → Act → World → Prop} (hgd : op.guard = none) (x y : Operand) (ho : op.op = .store 54 x y)
    (b : Nat) (hx : a.eval x = .pointer (some ⟨b, 0, none⟩)) (p q : Pt) (hy : a.eval y = .agg (cellsT p)) (hc : PtBlk 54 w b q)
    (h : wpList Try.prog ops Q rest (a.put op.dst undef) (w.setRow b (cellsT p))) : wpList Try.prog ops Q (op :: rest) a w :=
  wpList_store_row hgd 54 x y ho b (cellsT p) hx hy 54 _ hc infoRP rfl (cellsT_one p) h
set_option maxRecDepth 100000 in
theorem wpList_rmidst {ops : Array Oper} {rest : List Oper} {op : Oper} {a : Act} {w : World} {Q : Exit → Act → World → Prop} (hgd : op.guard = none) (x y : Operand) (ho : op.op = .store 54 x y)
    (b o : Nat) (hx : a.eval x = .pointer (some ⟨b, o, none⟩)) (p : Pt) (hy : a.eval y = .agg (cellsT p)) (ht : w.there b o 61)
    (h : wpList Try.prog ops Q rest (a.put op.dst undef) (w.setCells b o (cellsT p).toList)) : wpList Try.prog ops Q (op :: rest) a w :=
  wpList_store_mid hgd 54 x y ho b o (cellsT p) hx hy ht infoRP (cellsT_one p) h
theorem loadMidR {w : World} {g o : Nat} {p : Pt} (h : w.rangeAt g o (cellsT p).toList) : (Instr.loadAt 54 (.pointer (some ⟨g, o, none⟩))).run Try.prog w = .ok (.agg (cellsT p)) w := by
  have := run_loadAt_mid w g o 54 (cellsT p).toList _ h (Try.underlying54) rfl (by rw [cellsT_len]; exact infoRP)
  rwa [Array.toArray_toList] at this
/-- A block made and filled at once. -/
theorem oneR_is (w : World) (p : Pt) : ∃ (W : World) (nb : Nat), Hid (w.alloc (.cells (cellsT p) 54) = W) ∧ Hid (w.heap.size = nb) ∧ PtBlk 54 W nb p ∧ Below nb w W :=
  ⟨_, _, Lib.hid rfl, Lib.hid rfl, ptblk_new _ w p, below_box w _⟩

set_option maxRecDepth 100000 in
set_option maxHeartbeats 4000000 in
theorem run_ptSameR (p : Pt) (w : World) : Sem.run Try.prog (binOp .neq 54 (.agg (cellsT p)) (.agg (cellsT p))) w = .ok (.bool false) w := by
  unfold cellsT
  go_simp
set_option maxRecDepth 100000 in
set_option maxHeartbeats 4000000 in
theorem run_ptNeqR (p q : Pt) (w : World) : Sem.run Try.prog (binOp .neq 54 (.agg (cellsT p)) (.agg (cellsT q))) w = .ok (.bool (!decide (p = q))) w := by
  by_cases hpq : p = q
  · subst hpq
    rw [run_ptSameR p w]
    simp
  · rw [decide_eq_false hpq]
    unfold cellsT
    go_simp
    intro h0 h1 h2 h3 h4 h5 h6 h7 h8 h9 h10 h11 h12 h13 h14 h15 h16 h17 h18 h19 h20 h21 h22 h23 h24 h25 h26 h27 h28 h29 h30 h31 h32 h33 h34 h35 h36 h37 h38 h39 h40 h41 h42 h43 h44 h45 h46 h47 h48 h49 h50 h51 h52 h53 h54 h55 h56 h57 h58 h59 h60
    exact absurd (pt_ext p q h0 h1 h2 h3 h4 h5 h6 h7 h8 h9 h10 h11 h12 h13 h14 h15 h16 h17 h18 h19 h20 h21 h22 h23 h24 h25 h26 h27 h28 h29 h30 h31 h32 h33 h34 h35 h36 h37 h38 h39 h40 h41 h42 h43 h44 h45 h46 h47 h48 h49 h50 h51 h52 h53 h54 h55 h56 h57 h58 h59 h60) hpq
end Go.Proofs.Ytlfmjinllffifaa
