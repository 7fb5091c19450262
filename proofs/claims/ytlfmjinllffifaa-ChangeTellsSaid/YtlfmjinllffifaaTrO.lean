/-
  Layer 12: Pass; Move.
-/
import Derived.Test.YtlfmjinllffifaaTrN
namespace Go.Proofs.Ytlfmjinllffifaa
set_option linter.unusedVariables false
set_option linter.unusedSimpArgs false
open Go.RowKit Vm Rm Bm Im

set_option maxRecDepth 100000 in
/-- A port into the midst of a row. -/
theorem wpList_midst {ops : Array Oper} {rest : List Oper} {op : Oper} {a : Act} {w : World} {Q : Exit → Act → World → Prop} (hgd : op.guard = none) (x y : Operand) (ho : op.op = .store 47 x y)
    (b o : Nat) (hx : a.eval x = .pointer (some ⟨b, o, none⟩)) (p : Pt) (hy : a.eval y = .agg (cellsT p)) (ht : w.there b o 61)
    (h : wpList Try.prog ops Q rest (a.put op.dst undef) (w.setCells b o (cellsT p).toList)) : wpList Try.prog ops Q (op :: rest) a w :=
  wpList_store_mid hgd 47 x y ho b o (cellsT p) hx hy ht infoSP (cellsT_one p) h
theorem modify_set {l : List Pt} {k : Nat} {p : Pt} {f : Pt → Pt} (h : l[k]? = some p) : l.modify k f = l.set k (f p) := by
  have hk := (List.getElem?_eq_some_iff.1 h).1
  apply List.ext_getElem?
  intro i
  rw [List.getElem?_modify]
  by_cases hi : k = i
  · subst hi
    rw [List.getElem?_set_self hk, h]
    simp
  · rw [List.getElem?_set_ne hi]
    simp [hi]
def PsInv (t : Tm) (l : List Pt) (n g : Nat) (W : World) (v : Value) (wr : World) : Prop :=
  ∃ k : Nat, k ≤ n ∧ v = .int .i64 (k : Nat) ∧ WRow wr g (passN t l k) ∧ Kp g W wr
theorem BrBlk.kp {w w1 : World} {b g : Nat} {i a m h d : Int} (H : BrBlk w b i a m h d) (k : Kp g w w1) (hne : b ≠ g) : BrBlk w1 b i a m h d := (k.block b H.lt hne).trans H

/-- Whether it is a place at all. -/
def placeB (l : List Pt) (at' : Int) : Bool := decide (0 ≤ at') && decide (at' < l.length)
end Go.Proofs.Ytlfmjinllffifaa
