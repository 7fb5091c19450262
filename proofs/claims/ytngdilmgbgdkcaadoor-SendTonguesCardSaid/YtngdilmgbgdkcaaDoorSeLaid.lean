/-
  Layer 14: the table of told roles, as the row lists it: from the row's condition to the five cells; a start that meets it.
-/
import Derived.Test.YtngdilmgbgdkcaaDoorInLaid
import Derived.Test.YtngdilmgbgdkcaaDoorSeX
import Derived.Test.YtngdilmgbgdkcaaDoorTie
import Derived.Test.YtngdilmgbgdkcaaDoorCards
import Derived.LaidMore
import Derived.Stop.Joined
namespace Go.Proofs.YtngdilmgbgdkcaaDoor
set_option linter.unusedVariables false
set_option linter.unusedSimpArgs false
open Go.ChangeShapes Go.WideShapes Go.ChangeAt Go.WideMaps Go.WideElems Go.RowKit Go.Joins Go.Deep Vm Rm Bm Im

def laidRoles : List (String × DataW Unit) := [("treebridge/state.toldRoles", Rows.laid_treebridge_state_toldRoles)]
theorem gRoles : Tryd.prog.globalNamed "treebridge/state.toldRoles" = some 0 := by kernel_rfl
theorem tRoles : (Tryd.prog.globals[0]?).map (·.type) = some 59 := by kernel_rfl
theorem cRoles : Tryd.prog.cellsOf 59 = 5 := by kernel_rfl
theorem uRoles : Tryd.prog.underlying 59 = some (.array 5 3) := by kernel_rfl
/-- The door's own heap meets the condition. -/
theorem door_met (os : Os) (args : Array Value) : laidMetH Tryd.prog laidRoles ((World.doorLaid Tryd.prog 400 os).forCall (fun _ _ => 0) ⟨#[], args, []⟩).memory :=
  laidMetH_of_parts3 (fuel := 8) (laidMet_of_run' 8 (by kernel_rfl) (by kernel_rfl)) (by kernel_rfl) (by kernel_rfl)

theorem roles_of_laid {W : World} (h : laidMetH Tryd.prog laidRoles W) : TRoles W := by
  rw [MakeChecks.laidMetH_plain _ _ _ (by kernel_rfl)] at h
  obtain ⟨ps, ⟨g, t, cs, f, p, q, hg, ht, hv, hd, _, _⟩, _, _⟩ := h
  obtain rfl := Option.some.inj (gRoles.symm.trans hg)
  obtain rfl := Option.some.inj (tRoles.symm.trans ht)
  obtain ⟨xs, m, _, hx, hlen, hn, hel⟩ := DataW.trod_array uRoles hd
  rw [cRoles] at hlen
  have k0 := hel 0 (by decide)
  have k1 := hel 1 (by decide)
  have k2 := hel 2 (by decide)
  have k3 := hel 3 (by decide)
  have k4 := hel 4 (by decide)
  rw [cInt] at k0 k1 k2 k3 k4
  obtain ⟨l⟩ := cs
  have hlen' : l.length = 5 := by simpa using hlen
  match l, hlen', xs, hn, hx, k0, k1, k2, k3, k4, hv with
  | [c0, c1, c2, c3, c4], _, [y0, y1, y2, y3, y4], _, hx, k0, k1, k2, k3, k4, hv =>
    simp [Rows.laid_treebridge_state_toldRoles] at hx
    obtain ⟨⟨x0, x1, x2, x3, x4⟩, _⟩ := hx
    obtain ⟨n0, a0, e0, _⟩ := DataW.trod_int Tryd.underlying3 (show DataW.trod _ Tryd.prog W 0 _ _ m 3 [c0] = some y0 from k0)
    obtain ⟨n1, a1, e1, _⟩ := DataW.trod_int Tryd.underlying3 (show DataW.trod _ Tryd.prog W 0 _ _ m 3 [c1] = some y1 from k1)
    obtain ⟨n2, a2, e2, _⟩ := DataW.trod_int Tryd.underlying3 (show DataW.trod _ Tryd.prog W 0 _ _ m 3 [c2] = some y2 from k2)
    obtain ⟨n3, a3, e3, _⟩ := DataW.trod_int Tryd.underlying3 (show DataW.trod _ Tryd.prog W 0 _ _ m 3 [c3] = some y3 from k3)
    obtain ⟨n4, a4, e4, _⟩ := DataW.trod_int Tryd.underlying3 (show DataW.trod _ Tryd.prog W 0 _ _ m 3 [c4] = some y4 from k4)
    subst e0 e1 e2 e3 e4
    simp at x0 x1 x2 x3 x4 a0 a1 a2 a3 a4
    subst x0 x1 x2 x3 x4 a0 a1 a2 a3 a4
    have cell := fun i => World.var?_cell hg hv i
    exact ⟨by simpa using cell 0, by simpa using cell 1, by simpa using cell 2, by simpa using cell 3, by simpa using cell 4⟩
end Go.Proofs.YtngdilmgbgdkcaaDoor
