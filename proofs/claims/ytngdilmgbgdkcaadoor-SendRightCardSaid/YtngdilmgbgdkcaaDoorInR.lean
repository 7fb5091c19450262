/-
  Layer 11: Choose, where it refuses.
-/
import Derived.Test.YtngdilmgbgdkcaaDoorInQ
namespace Go.Proofs.YtngdilmgbgdkcaaDoor
set_option linter.unusedVariables false
set_option linter.unusedSimpArgs false
open Go.RowKit Vm Rm Bm Im

theorem may_no_br {br : Int} {t : Tm} {l : List Pt} (h : rightBr t = false) : mayB br t l = false := by unfold mayB; rw [h]; simp
theorem may_no_any {br : Int} {t : Tm} {l : List Pt} (h : l.any Pt.reselect = false) : mayB br t l = false := by unfold mayB; rw [h]; simp
theorem may_no_right {br : Int} {t : Tm} {l : List Pt} (h : rightR (infosP l) = false) : mayB br t l = false := by unfold mayB; rw [h]; simp
/-- What Choose hands back: a row of its own. -/
def Out (w w' : World) (n : Nat) (L : List Pt) (B : Bool) (e : Ending) : Prop :=
  ∃ a' cap', e = .returned (.tuple #[.slice a' n cap', .bool B]) ∧ n ≤ cap' ∧ PRow w' a' L ∧ Below w.heap.size w w'
theorem own_prow {w : World} {a : Option Addr} {l : List Pt} {B : Nat} (h : (a = none ∧ l = []) ∨ ∃ g, a = some ⟨g, 0, none⟩ ∧ B ≤ g ∧ WRow w g l) : PRow w a l := by
  rcases h with ⟨_, rfl⟩ | ⟨g, rfl, _, hw⟩
  · exact prow_nil _ _
  · exact hw.row
abbrev bcl (i a m h d : Int) : Array Value := #[.int .u64 i, .int .i64 a, .int .i64 m, .int .i64 h, .int .i64 d]
def BrBlk (w : World) (b : Nat) (i a m h d : Int) : Prop := w.heap[b]? = some (.cells (bcl i a m h d) 26 (0, 0))
theorem BrBlk.lt {w : World} {b : Nat} {i a m h d : Int} (H : BrBlk w b i a m h d) : b < w.heap.size := (Array.getElem?_eq_some_iff.1 H).1
theorem BrBlk.next {w w' : World} {b : Nat} {i a m h d : Int} (H : BrBlk w b i a m h d) (hb : Below w.heap.size w w') : BrBlk w' b i a m h d := (hb.block b H.lt).trans H
theorem BrBlk.cells {w : World} {b : Nat} {i a m h d : Int} (H : BrBlk w b i a m h d) : w.cell? ⟨b, 0, none⟩ = some (.int .u64 i) ∧ w.cell? ⟨b, 1, none⟩ = some (.int .i64 a) ∧ w.cell? ⟨b, 2, none⟩ = some (.int .i64 m) ∧ w.cell? ⟨b, 3, none⟩ = some (.int .i64 h) ∧ w.cell? ⟨b, 4, none⟩ = some (.int .i64 d) := by
  unfold BrBlk at H
  refine ⟨?_, ?_, ?_, ?_, ?_⟩ <;> simp [World.cell?, H]

end Go.Proofs.YtngdilmgbgdkcaaDoor
