/-
  Layer 9: a row of acts in memory.
-/
import Derived.Test.YtanciemiinbgmaaMiR
namespace Go.Proofs.Ytanciemiinbgmaa
set_option linter.unusedVariables false
set_option linter.unusedSimpArgs false
open Go.RowKit Pm Mm

/-- An act. -/
structure Ac where
  ask : Bool
  received : Int
  told : Int
  now : Int
instance : Inhabited Ac := ⟨⟨false, 0, 0, 0⟩⟩
/-- A row of acts, as it lies in memory: four cells each. -/
structure ARow (w : World) (a : Option Addr) (l : List Ac) : Prop where
  at_ : ∀ k x, l[k]? = some x → ∃ g off : Nat, a = some ⟨g, off, none⟩ ∧ g < w.heap.size ∧ w.cell? ⟨g, off + k * 4, none⟩ = some (.bool x.ask) ∧ w.cell? ⟨g, off + k * 4 + 1, none⟩ = some (.int .i64 x.received) ∧ w.cell? ⟨g, off + k * 4 + 2, none⟩ = some (.int .i64 x.told) ∧ w.cell? ⟨g, off + k * 4 + 3, none⟩ = some (.int .i64 x.now)
  i64 : ∀ x ∈ l, inI64 x.told
theorem ARow.next {w w' : World} {a : Option Addr} {l : List Ac} (h : ARow w a l) (hb : Below w.heap.size w w') : ARow w' a l :=
  ⟨fun k x hx => by
    obtain ⟨g, off, e, hg, h0, h1, h2, h3⟩ := h.at_ k x hx
    exact ⟨g, off, e, Nat.lt_of_lt_of_le hg hb.size, (hb.cell (p := ⟨g, off + k * 4, none⟩) hg).trans h0, (hb.cell (p := ⟨g, off + k * 4 + 1, none⟩) hg).trans h1, (hb.cell (p := ⟨g, off + k * 4 + 2, none⟩) hg).trans h2, (hb.cell (p := ⟨g, off + k * 4 + 3, none⟩) hg).trans h3⟩, h.i64⟩
end Go.Proofs.Ytanciemiinbgmaa
