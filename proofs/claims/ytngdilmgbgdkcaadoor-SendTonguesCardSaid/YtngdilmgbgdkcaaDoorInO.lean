/-
  Layer 11: whether a port is to be chosen anew; a bridge's times; given times; New.
-/
import Derived.Test.YtngdilmgbgdkcaaDoorInN
namespace Go.Proofs.YtngdilmgbgdkcaaDoor
set_option linter.unusedVariables false
set_option linter.unusedSimpArgs false
open Go.RowKit Vm Rm Bm Im

set_option maxRecDepth 100000 in
/-- A port out of the midst of a row. -/
theorem wpList_mid {ops : Array Oper} {rest : List Oper} {op : Oper} {a : Act} {w : World} {Q : Exit → Act → World → Prop} (hgd : op.guard = none) (x : Operand) (ho : op.op = .load 30 x)
    (b o : Nat) (hx : a.eval x = .pointer (some ⟨b, o, none⟩)) (p : Pt) (hc : w.rangeAt b o (cellsT p).toList)
    (h : wpList Tryd.prog ops Q rest (a.put op.dst (.agg (cellsT p))) w) : wpList Tryd.prog ops Q (op :: rest) a w := by
  refine wpList_load_mid hgd 30 x ho b o hx (cellsT p).toList _ hc rfl rfl ?_ ?_
  · rw [cellsT_len]; exact infoSP
  · rw [Array.toArray_toList]; exact h
set_option maxRecDepth 100000 in
/-- A port out of a block of its own. -/
theorem wpList_pt {ops : Array Oper} {rest : List Oper} {op : Oper} {a : Act} {w : World} {Q : Exit → Act → World → Prop} (hgd : op.guard = none) (x : Operand) (ho : op.op = .load 30 x)
    (b : Nat) (hx : a.eval x = .pointer (some ⟨b, 0, none⟩)) (p : Pt) (hc : PtBlk 30 w b p)
    (h : wpList Tryd.prog ops Q rest (a.put op.dst (.agg (cellsT p))) w) : wpList Tryd.prog ops Q (op :: rest) a w :=
  wpList_load_row hgd 30 x ho b hx 30 (cellsT p) (0, 0) _ hc rfl rfl infoSP h
set_option maxRecDepth 100000 in
/-- A port into a block of its own. -/
theorem wpList_ptst {ops : Array Oper} {rest : List Oper} {op : Oper} {a : Act} {w : World} {Q : Exit → Act → World → Prop} (hgd : op.guard = none) (x y : Operand) (ho : op.op = .store 30 x y)
    (b : Nat) (hx : a.eval x = .pointer (some ⟨b, 0, none⟩)) (p q : Pt) (hy : a.eval y = .agg (cellsT p)) (hc : PtBlk 30 w b q)
    (h : wpList Tryd.prog ops Q rest (a.put op.dst undef) (w.setRow b (cellsT p))) : wpList Tryd.prog ops Q (op :: rest) a w :=
  wpList_store_row hgd 30 x y ho b (cellsT p) hx hy 30 _ hc infoSP rfl (cellsT_one p) h
/-- A block of its own, made and filled at once. -/
theorem oneP_is (w : World) (p : Pt) : ∃ (W : World) (nb : Nat), Hid (w.alloc (.cells (cellsT p) 30) = W) ∧ Hid (w.heap.size = nb) ∧ PtBlk 30 W nb p ∧ Below nb w W :=
  ⟨_, _, Lib.hid rfl, Lib.hid rfl, ptblk_new _ w p, below_box w _⟩

def XInv (l : List Pt) (n : Nat) (w : World) (v : Value) (wr : World) : Prop :=
  ∃ k : Nat, k ≤ n ∧ v = .int .i64 (k : Nat) ∧ (l.take k).any Pt.reselect = false ∧ Below w.heap.size w wr
theorem take_nextP {l : List Pt} {k : Nat} {x : Pt} (h : l[k]? = some x) : l.take (k + 1) = l.take k ++ [x] := by rw [List.take_add_one, h]; rfl
theorem take_allP {l : List Pt} {n : Nat} (h : l.length = n) : l.take n = l := by rw [← h, List.take_length]

/-! ### A bridge -/
abbrev brv (i a m h d : Int) : Value := .agg #[.int .u64 i, .int .i64 a, .int .i64 m, .int .i64 h, .int .i64 d]
theorem iwithin_w (n l m : Int) (w : World) :
    Calls Tryd.prog 23 #[.int .i64 n, .int .i64 l, .int .i64 m] w fun e w' => e = .returned (.bool (decide (l ≤ n ∧ n ≤ m))) ∧ w = w' := by
  go_enter Tryd.func23, Tryd.ntmps23
  go_wp2
  all_goals go_ret
  all_goals (first | (refine ⟨?_, rfl⟩; refine ret_val ?_; simp; omega) | skip)

set_option maxHeartbeats 1000000 in
theorem brRight_w (i a m h d : Int) (R : Bool) (w : World) (hR : Hid (rightBr ⟨a, m, h, d⟩ = R)) :
    Calls Tryd.prog 14 #[brv i a m h d] w fun e w' => e = .returned (.bool R) ∧ Below w.heap.size w w' := by
  rw [← hR.out]
  clear hR
  obtain ⟨A, hA⟩ : ∃ A, decide (6 ≤ m ∧ m ≤ 40) = A := ⟨_, rfl⟩
  obtain ⟨B, hB⟩ : ∃ B, decide (1 ≤ h ∧ h ≤ 2) = B := ⟨_, rfl⟩
  obtain ⟨C, hC⟩ : ∃ C, decide (4 ≤ d ∧ d ≤ 30) = C := ⟨_, rfl⟩
  have ha := iwithin_w m 6 40
  have hb := iwithin_w h 1 2
  have hc := iwithin_w d 4 30
  rw [hA] at ha
  rw [hB] at hb
  rw [hC] at hc
  have e : rightBr ⟨a, m, h, d⟩ = (A && (B && (C && decide (a = 0)))) := by
    unfold rightBr
    rw [← hA, ← hB, ← hC]
    simp only [← Bool.decide_and]
    exact decide_eq_decide.2 ⟨fun h => ⟨h.2.1, h.2.2.1, h.2.2.2, h.1⟩, fun h => ⟨h.2.2.2, h.1, h.2.1, h.2.2.1⟩⟩
  rw [e]
  clear hA hB hC e
  cases A <;> cases B <;> cases C
  all_goals
    go_enter Tryd.func14, Tryd.ntmps14
    go_wp2_with (go_at_call 23; (first | (with_reducible refine (ha _).mono ?_) | (with_reducible refine (hb _).mono ?_) | (with_reducible refine (hc _).mono ?_)); rintro e w1 ⟨rfl, rfl⟩)
    all_goals go_ret
    all_goals (refine ⟨?_, bw_alloc (below_box w _) _⟩; first | rfl | (simp) | (simp; omega))
end Go.Proofs.YtngdilmgbgdkcaaDoor
