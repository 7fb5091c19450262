/-
  A frame among the arguments, by value: seven cells, each of its own kind; and what a law's row asks at its end.
-/
import Derived.Test.YtbpgaeeihfknfaaFrEq
import Derived.ProofKit
import Derived.OpenShut
import Derived.ShutString
import Derived.ChangeOld
import Derived.Deep.Fields
import Derived.Lib.SmallJoins
namespace Go.Proofs.Ytbpgaeeihfknfaa
set_option linter.unusedVariables false
set_option linter.unusedSimpArgs false
open Go.ChangeShapes Go.WideShapes Go.ChangeAt Go.RowKit Go.Joins Go.Deep Fm

theorem own : ownKnob Try.prog.godebug = none := by kernel_rfl
theorem laidOut : laidOutB Try.prog = true := by kernel_rfl
theorem oneCellFr : ∃ fs : Array Field, Try.prog.underlying 23 = some (.struct fs) ∧ oneCellFields Try.prog fs = true ∧ fs.map (·.type) = #[9, 9, 4, 3, 3, 3, 9] :=
  ⟨_, Try.underlying23, by kernel_rfl, by kernel_rfl⟩
theorem cellsFr : Try.prog.cellsOf 23 = 7 := by kernel_rfl

theorem seven {α : Type} {l : List α} (h : l.length = 7) : ∃ a b c d e f g, l = [a, b, c, d, e, f, g] := by
  match l, h with
  | [a, b, c, d, e, f, g], _ => exact ⟨a, b, c, d, e, f, g, rfl⟩

section
variable {H : Type} {enc : TypeId × Value → H} {w : World} {base : Nat} {spare : Nat → Bool} {held : Bool}

/-- A field's own reading. -/
theorem field_of {fs : Array Field} {fuel : Nat} {cs : List Value} {x : DataW H × List MemPlace} (ht : Try.prog.underlying 23 = some (.struct fs)) (hone : oneCellFields Try.prog fs = true) (hl : cs.length = 7)
    (h : DataW.trod enc Try.prog w base spare held fuel 23 cs = some x) (i : Nat) (T : TypeId) (hi : (fs.map (·.type))[i]? = some T) (v : Value) (hv : cs[i]? = some v) :
    ∃ n y, DataW.trod enc Try.prog w base spare held n T [v] = some y := by
  obtain ⟨ys, n, _, _, _, hyl, hf⟩ := DataW.trod_struct ht h
  rw [Array.getElem?_map, Option.map_eq_some_iff] at hi
  obtain ⟨f, hfi, rfl⟩ := hi
  obtain ⟨ho, hk⟩ := hone_of hone i f hfi
  have h1 := hf i f hfi
  rw [ho, hk] at h1
  have hil : i < cs.length := (List.getElem?_eq_some_iff.1 hv).1
  have hcv : cs[i] = v := (List.getElem?_eq_some_iff.1 hv).2
  have e : (cs.drop i).take 1 = [v] := by
    rw [List.drop_eq_getElem_cons hil, hcv]
    rfl
  rw [e] at h1
  have hil2 : i < ys.length := by rw [hyl]; exact (Array.getElem?_eq_some_iff.1 hfi).1
  rw [List.getElem?_eq_getElem hil2] at h1
  exact ⟨n, _, h1⟩

theorem open_frame {r : Reach} {b0 : Nat} {v : Value} {d : DataW H} {p : List MemPlace} (hv : Value.okWide Try.prog w r b0 23 v) (h : DataW.Trod enc Try.prog w base spare held 23 v d p) :
    ∃ (d s : ByteArray) (t : Bool) (p v' ty : Int) (pl : ByteArray), v = fv d s t p v' ty pl ∧ d.size ≤ maxLen ∧ s.size ≤ maxLen ∧ pl.size ≤ maxLen := by
  obtain ⟨fs, ht, hone, hty⟩ := oneCellFr
  obtain ⟨cs, rfl, hsz⟩ := okWide_struct ht hv
  obtain ⟨l⟩ := cs
  rw [cellsFr] at hsz
  obtain ⟨c0, c1, c2, c3, c4, c5, c6, rfl⟩ := seven (l := l) hsz
  obtain ⟨fuel, hf⟩ := h
  have hf' : DataW.trod enc Try.prog w base spare held fuel 23 [c0, c1, c2, c3, c4, c5, c6] = some (d, p) := hf
  have F := fun i T hi v hv => field_of ht hone rfl hf' i T hi v hv
  rw [hty] at F
  obtain ⟨n0, y0, k0⟩ := F 0 _ rfl _ rfl
  obtain ⟨n1, y1, k1⟩ := F 1 _ rfl _ rfl
  obtain ⟨n2, y2, k2⟩ := F 2 _ rfl _ rfl
  obtain ⟨n3, y3, k3⟩ := F 3 _ rfl _ rfl
  obtain ⟨n4, y4, k4⟩ := F 4 _ rfl _ rfl
  obtain ⟨n5, y5, k5⟩ := F 5 _ rfl _ rfl
  obtain ⟨n6, y6, k6⟩ := F 6 _ rfl _ rfl
  obtain ⟨x0, e0, _, z0⟩ := DataW.trod_string Try.underlying9 k0
  obtain ⟨x1, e1, _, z1⟩ := DataW.trod_string Try.underlying9 k1
  obtain ⟨x2, e2, _⟩ := DataW.trod_bool Try.underlying4 k2
  obtain ⟨x3, e3, _, _⟩ := DataW.trod_int Try.underlying3 k3
  obtain ⟨x4, e4, _, _⟩ := DataW.trod_int Try.underlying3 k4
  obtain ⟨x5, e5, _, _⟩ := DataW.trod_int Try.underlying3 k5
  obtain ⟨x6, e6, _, z6⟩ := DataW.trod_string Try.underlying9 k6
  simp only [List.cons.injEq, and_true] at e0 e1 e2 e3 e4 e5 e6
  subst e0 e1 e2 e3 e4 e5 e6
  exact ⟨x0, x1, x2, x3, x4, x5, x6, rfl, z0, z1, z6⟩
end
end Go.Proofs.Ytbpgaeeihfknfaa
