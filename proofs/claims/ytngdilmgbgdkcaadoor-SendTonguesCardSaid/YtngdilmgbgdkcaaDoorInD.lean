/-
  Layer 11: behind, which does some deeds to a port, in order.
-/
import Derived.Test.YtngdilmgbgdkcaaDoorInC
namespace Go.Proofs.YtngdilmgbgdkcaaDoor
set_option linter.unusedVariables false
set_option linter.unusedSimpArgs false
open Go.RowKit Vm Rm Bm Im

/-- A row of deeds: function f k, with what it captured. -/
def DRow (w : World) (g n : Nat) (f : Nat → Nat) (c : Nat → Array Value) : Prop :=
  g < w.heap.size ∧ ∀ k, k < n → w.cell? ⟨g, k, none⟩ = some (.func (.func (f k)) #[] (c k))
theorem DRow.next {w w' : World} {g n : Nat} {f : Nat → Nat} {c : Nat → Array Value} (h : DRow w g n f c) (hb : Below w.heap.size w w') : DRow w' g n f c :=
  ⟨Nat.lt_of_lt_of_le h.1 hb.size, fun k hk => (hb.cell (p := ⟨g, k, none⟩) h.1).trans (h.2 k hk)⟩
/-- Behind a world w, this deed turns a port X into Y. -/
def Does (w0 : World) (f : Nat) (c : Array Value) (X Y : Pt) : Prop :=
  (∀ (a : Array Value) (w : World), Sem.run Tryd.prog (callFunc f a) w = .ok (.enter f a) w) ∧ ∀ (w : World) (b : Nat), PtBlk 30 w b X → Below w0.heap.size w0 w → w0.heap.size ≤ b →
    Calls Tryd.prog f (#[.pointer (some ⟨b, 0, none⟩)] ++ c) w fun e w' => e = .returned (.tuple #[]) ∧ Tn 30 b Y w w'
theorem twoP_is (T : TypeId) (w : World) (p : Pt) : ∃ (W : World) (nb : Nat), Hid (((w.alloc (.cells (cellsT p) T)).alloc (.cells (cellsT zeroP) T)) = W) ∧ Hid (w.heap.size = nb) ∧ PtBlk T W nb p ∧ PtBlk T W (nb + 1) zeroP ∧ Below nb w W := by
  refine ⟨_, _, Lib.hid rfl, Lib.hid rfl, ?_, ?_, ?_⟩
  · exact heap_alloc2_old w _ _
  · exact heap_alloc2_new w _ _
  · exact bw_alloc (below_box w _) _
def BInv (st : Nat → Pt) (n nb : Nat) (w0 : World) (i : Value) (wr : World) : Prop :=
  ∃ k : Nat, k ≤ n ∧ i = .int .i64 (k : Nat) ∧ PtBlk 30 wr nb (st k) ∧ PtBlk 30 wr (nb + 1) zeroP ∧ Below nb w0 wr ∧ nb + 2 ≤ wr.heap.size

end Go.Proofs.YtngdilmgbgdkcaaDoor
