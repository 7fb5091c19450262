/-
  Layer 11: a port (61 cells), a BPDU, a bridge, a row of ports among the arguments.
-/
import Derived.Test.YtldobcfejldbiaaGreatDoorMbe
import Derived.ProofKit
import Derived.OpenShut
import Derived.ShutString
import Derived.ChangeOld
import Derived.Deep.Fields
import Derived.Deep.Slices
import Derived.Lib.SmallJoins
namespace Go.Proofs.YtldobcfejldbiaaGreatDoor
set_option linter.unusedVariables false
set_option linter.unusedSimpArgs false
open Go.ChangeShapes Go.WideShapes Go.ChangeAt Go.RowKit Go.Joins Go.Deep Vm Rm Bm Im

theorem own : ownKnob Tryz.prog.godebug = none := by kernel_rfl
theorem laidOut : laidOutB Tryz.prog = true := by kernel_rfl
theorem cInt : Tryz.prog.cellsOf 3 = 1 := by kernel_rfl
theorem cU64 : Tryz.prog.cellsOf 22 = 1 := by kernel_rfl
theorem cBool : Tryz.prog.cellsOf 4 = 1 := by kernel_rfl
theorem cVec : Tryz.prog.cellsOf 47 = 4 := by kernel_rfl
theorem cBp : Tryz.prog.cellsOf 49 = 10 := by kernel_rfl
theorem uVec : ∃ fs : Array Field, Tryz.prog.underlying 47 = some (.struct fs) ∧ fs.map (fun f => (f.type, f.offset)) = #[(22, 0), (22, 1), (22, 2), (22, 3)] :=
  ⟨_, Tryz.underlying47, by kernel_rfl⟩
theorem uBp : ∃ fs : Array Field, Tryz.prog.underlying 49 = some (.struct fs) ∧ fs.map (fun f => (f.type, f.offset)) = #[(3, 0), (3, 1), (47, 2), (3, 6), (3, 7), (3, 8), (3, 9)] :=
  ⟨_, Tryz.underlying49, by kernel_rfl⟩
theorem wf_u64 {n : Int} (h : (Lit.int .u64 n).wf = true) : Vm.u64B n := by
  have e1 : IntKind.u64.min = 0 := by decide
  have e2 : IntKind.u64.max = 18446744073709551615 := by decide
  simp [Lit.wf, e1, e2] at h
  unfold Vm.u64B
  omega

instance : Inhabited Inf := ⟨⟨0, 0, 0, ⟨0, 0, 0, 0⟩⟩⟩

theorem fieldAt {fs : Array Field} {ts : Array (TypeId × Nat)} (h : fs.map (fun f => (f.type, f.offset)) = ts) (i : Nat) (T : TypeId) (o : Nat) (hi : ts[i]? = some (T, o)) : ∃ f, fs[i]? = some f ∧ f.type = T ∧ f.offset = o := by
  rw [← h, Array.getElem?_map, Option.map_eq_some_iff] at hi
  obtain ⟨f, hf, he⟩ := hi
  simp at he
  exact ⟨f, hf, he.1, he.2⟩

section
variable {H : Type} {enc : TypeId × Value → H} {w : World} {base : Nat} {spare : Nat → Bool} {held : Bool}

theorem part_of {fs : Array Field} {ts : Array (TypeId × Nat)} {t : TypeId} {fuel : Nat} {cs : List Value} {x : DataW H × List MemPlace} (hu : Tryz.prog.underlying t = some (.struct fs)) (hts : fs.map (fun f => (f.type, f.offset)) = ts)
    (h : DataW.trod enc Tryz.prog w base spare held fuel t cs = some x) (i : Nat) (T : TypeId) (o : Nat) (hi : ts[i]? = some (T, o)) :
    ∃ n y, DataW.trod enc Tryz.prog w base spare held n T ((cs.drop o).take (Tryz.prog.cellsOf T)) = some y := by
  obtain ⟨ys, n, _, _, _, hyl, hf⟩ := DataW.trod_struct hu h
  obtain ⟨f, hfi, rfl, rfl⟩ := fieldAt hts i T o hi
  have h1 := hf i f hfi
  have hil : i < ys.length := by rw [hyl]; exact (Array.getElem?_eq_some_iff.1 hfi).1
  rw [List.getElem?_eq_getElem hil] at h1
  exact ⟨n, _, h1⟩

theorem ten {α : Type} {l : List α} (h : l.length = 10) : ∃ a b c d e f g i j k, l = [a, b, c, d, e, f, g, i, j, k] := by
  match l, h with
  | [a, b, c, d, e, f, g, i, j, k], _ => exact ⟨a, b, c, d, e, f, g, i, j, k, rfl⟩

end
end Go.Proofs.YtldobcfejldbiaaGreatDoor