/-
  The table of heads, as the row lists it: from the row's condition to the six cells; a start that meets it.
-/
import Derived.Test.YtledabmmomgkoaaDoorL2A
import Derived.Test.YtledabmmomgkoaaDoorTie
import Derived.Test.YtledabmmomgkoaaDoorCards
import Derived.ProofKit
import Derived.LaidMore
import Derived.OpenShut
import Derived.Stop.Joined
namespace Go.Proofs.YtledabmmomgkoaaDoor
set_option linter.unusedVariables false
set_option linter.unusedSimpArgs false
open Go.ChangeShapes Go.WideShapes Go.ChangeAt Go.WideMaps Go.WideElems Go.RowKit Fm

def laidHeads : List (String × DataW Unit) := [("treebridge/llc.heads", Rows.laid_treebridge_llc_heads)]
theorem gHeads : Tryd.prog.globalNamed "treebridge/llc.heads" = some 0 := by kernel_rfl
theorem tHeads : (Tryd.prog.globals[0]?).map (·.type) = some 43 := by kernel_rfl
theorem cHead : Tryd.prog.cellsOf 42 = 2 := by kernel_rfl
theorem cHeads : Tryd.prog.cellsOf 43 = 6 := by kernel_rfl
theorem uHead : ∃ fs : Array Field, Tryd.prog.underlying 42 = some (.struct fs) ∧ fs.map (fun f => (f.type, f.offset)) = #[(9, 0), (9, 1)] :=
  ⟨_, Tryd.underlying42, by kernel_rfl⟩
theorem uHeads : Tryd.prog.underlying 43 = some (.array 3 42) := by kernel_rfl
theorem cStr : Tryd.prog.cellsOf 9 = 1 := by kernel_rfl

/-- The door's own heap meets the condition. -/
theorem door_met (os : Os) (args : Array Value) : laidMetH Tryd.prog laidHeads ((World.doorLaid Tryd.prog 400 os).forCall (fun _ _ => 0) ⟨#[], args, []⟩).memory :=
  laidMetH_of_parts3 (fuel := 8) (laidMet_of_run' 8 (by kernel_rfl) (by kernel_rfl)) (by kernel_rfl) (by kernel_rfl)

/-- A head's two cells. -/
theorem head_cells {H : Type} {enc : TypeId × Value → H} {w : World} {base fuel : Nat} {spare : Nat → Bool} {held : Bool} {c0 c1 : Value} {x : DataW H × List MemPlace} {l0 l1 : List UInt8}
    (h : DataW.trod enc Tryd.prog w base spare held fuel 42 [c0, c1] = some x) (hx : x.1 = .agg [.lit (.string l0), .lit (.string l1)]) : c0 = .string ⟨l0.toArray⟩ ∧ c1 = .string ⟨l1.toArray⟩ := by
  obtain ⟨fs, hu, hf⟩ := uHead
  obtain ⟨xs, n, _, rfl, _, hl, hel⟩ := DataW.trod_struct hu h
  have hsz : fs.size = 2 := by have := congrArg Array.size hf; simpa using this
  have e0 : ∃ f, fs[0]? = some f ∧ f.type = 9 ∧ f.offset = 0 := by
    have := congrArg (fun a => a[0]?) hf
    simp at this
    obtain ⟨f, h1, h2⟩ := this
    exact ⟨f, by simpa using h1, h2.1, h2.2⟩
  have e1 : ∃ f, fs[1]? = some f ∧ f.type = 9 ∧ f.offset = 1 := by
    have := congrArg (fun a => a[1]?) hf
    simp at this
    obtain ⟨f, h1, h2⟩ := this
    exact ⟨f, by simpa using h1, h2.1, h2.2⟩
  obtain ⟨f0, q0, t0, o0⟩ := e0
  obtain ⟨f1, q1, t1, o1⟩ := e1
  have k0 := hel 0 f0 q0
  have k1 := hel 1 f1 q1
  rw [t0, o0, cStr] at k0
  rw [t1, o1, cStr] at k1
  rw [hsz] at hl
  match xs, hl, hx, k0, k1 with
  | [y0, y1], _, hx, k0, k1 =>
    obtain ⟨s0, a0, b0, _⟩ := DataW.trod_string Tryd.underlying9 (show DataW.trod enc Tryd.prog w base spare held n 9 [c0] = some y0 from k0)
    obtain ⟨s1, a1, b1, _⟩ := DataW.trod_string Tryd.underlying9 (show DataW.trod enc Tryd.prog w base spare held n 9 [c1] = some y1 from k1)
    subst b0 b1
    simp at hx a0 a1
    obtain ⟨h0, h1⟩ := hx
    subst h0 h1 a0 a1
    exact ⟨rfl, rfl⟩

theorem heads_of_laid {W : World} (h : laidMetH Tryd.prog laidHeads W) : Heads W := by
  rw [MakeChecks.laidMetH_plain _ _ _ (by kernel_rfl)] at h
  obtain ⟨ps, ⟨g, t, cs, f, p, q, hg, ht, hv, hd, _, _⟩, _, _⟩ := h
  obtain rfl := Option.some.inj (gHeads.symm.trans hg)
  obtain rfl := Option.some.inj (tHeads.symm.trans ht)
  obtain ⟨xs, m, _, hx, hlen, hn, hel⟩ := DataW.trod_array uHeads hd
  rw [cHeads] at hlen
  have k0 := hel 0 (by decide)
  have k1 := hel 1 (by decide)
  have k2 := hel 2 (by decide)
  rw [cHead] at k0 k1 k2
  obtain ⟨l⟩ := cs
  have hlen' : l.length = 6 := by simpa using hlen
  match l, hlen', xs, hn, hx, k0, k1, k2, hv with
  | [c0, c1, c2, c3, c4, c5], _, [y0, y1, y2], _, hx, k0, k1, k2, hv =>
    simp [Rows.laid_treebridge_llc_heads] at hx
    obtain ⟨⟨x0, x1, x2⟩, _⟩ := hx
    obtain ⟨rfl, rfl⟩ := head_cells (show DataW.trod _ Tryd.prog W 0 _ _ m 42 [c0, c1] = some y0 from k0) x0.symm
    obtain ⟨rfl, rfl⟩ := head_cells (show DataW.trod _ Tryd.prog W 0 _ _ m 42 [c2, c3] = some y1 from k1) x1.symm
    obtain ⟨rfl, rfl⟩ := head_cells (show DataW.trod _ Tryd.prog W 0 _ _ m 42 [c4, c5] = some y2 from k2) x2.symm
    have cell := fun i => World.var?_cell hg hv i
    exact ⟨by simpa using cell 0, by simpa using cell 1, by simpa using cell 2, by simpa using cell 3, by simpa using cell 4, by simpa using cell 5⟩
end Go.Proofs.YtledabmmomgkoaaDoor
