/-
  A row of acts among the arguments: six cells each, one of them a string.
-/
import Derived.Test.YtkpfdaomhkcokaaFdR
import Derived.ProofKit
import Derived.OpenShut
import Derived.ShutString
import Derived.ChangeOld
import Derived.Deep.Fields
import Derived.Deep.Slices
import Derived.Lib.SmallJoins
namespace Go.Proofs.Ytkpfdaomhkcokaa
set_option linter.unusedVariables false
set_option linter.unusedSimpArgs false
open Go.ChangeShapes Go.WideShapes Go.ChangeAt Go.RowKit Go.Joins Go.Deep Dm

theorem own : ownKnob Try.prog.godebug = none := by kernel_rfl
theorem laidOut : laidOutB Try.prog = true := by kernel_rfl
theorem cInt : Try.prog.cellsOf 3 = 1 := by kernel_rfl
theorem cStr : Try.prog.cellsOf 9 = 1 := by kernel_rfl
theorem cAct : Try.prog.cellsOf 35 = 6 := by kernel_rfl
theorem uAct : ∃ fs : Array Field, Try.prog.underlying 35 = some (.struct fs) ∧ fs.map (fun f => (f.type, f.offset)) = #[(3, 0), (3, 1), (9, 2), (3, 3), (3, 4), (3, 5)] :=
  ⟨_, Try.underlying35, by kernel_rfl⟩
theorem wf_i64 {n : Int} (h : (Lit.int .i64 n).wf = true) : inI64 n := by
  have e1 : IntKind.i64.min = -9223372036854775808 := by decide
  have e2 : IntKind.i64.max = 9223372036854775807 := by decide
  simp [Lit.wf, e1, e2] at h
  unfold inI64
  omega

instance : Inhabited Ac := ⟨⟨0, 0, ⟨#[]⟩, 0, 0, 0⟩⟩
theorem fieldAt {fs : Array Field} {ts : Array (TypeId × Nat)} (h : fs.map (fun f => (f.type, f.offset)) = ts) (i : Nat) (T : TypeId) (o : Nat) (hi : ts[i]? = some (T, o)) : ∃ f, fs[i]? = some f ∧ f.type = T ∧ f.offset = o := by
  rw [← h, Array.getElem?_map, Option.map_eq_some_iff] at hi
  obtain ⟨f, hf, he⟩ := hi
  simp at he
  exact ⟨f, hf, he.1, he.2⟩
theorem six {α : Type} {l : List α} (h : l.length = 6) : ∃ a b c d e f, l = [a, b, c, d, e, f] := by
  match l, h with
  | [a, b, c, d, e, f], _ => exact ⟨a, b, c, d, e, f, rfl⟩

section
variable {H : Type} {enc : TypeId × Value → H} {w : World} {base : Nat} {spare : Nat → Bool} {held : Bool}

theorem part_of {fs : Array Field} {ts : Array (TypeId × Nat)} {t : TypeId} {fuel : Nat} {cs : List Value} {x : DataW H × List MemPlace} (hu : Try.prog.underlying t = some (.struct fs)) (hts : fs.map (fun f => (f.type, f.offset)) = ts)
    (h : DataW.trod enc Try.prog w base spare held fuel t cs = some x) (i : Nat) (T : TypeId) (o : Nat) (hi : ts[i]? = some (T, o)) :
    ∃ n y, DataW.trod enc Try.prog w base spare held n T ((cs.drop o).take (Try.prog.cellsOf T)) = some y := by
  obtain ⟨ys, n, _, _, _, hyl, hf⟩ := DataW.trod_struct hu h
  obtain ⟨f, hfi, rfl, rfl⟩ := fieldAt hts i T o hi
  have h1 := hf i f hfi
  have hil : i < ys.length := by rw [hyl]; exact (Array.getElem?_eq_some_iff.1 hfi).1
  rw [List.getElem?_eq_getElem hil] at h1
  exact ⟨n, _, h1⟩

/-- Six cells that are read as an act. -/
theorem cells_act {fuel : Nat} {cs : List Value} {x : DataW H × List MemPlace} (hl : cs.length = 6) (h : DataW.trod enc Try.prog w base spare held fuel 35 cs = some x) :
    ∃ v : Ac, cs = [.int .i64 v.kind, .int .i64 v.vlan, .string v.mac, .int .i64 v.port, .int .i64 v.n, .int .i64 v.m] ∧ inI64 v.vlan ∧ inI64 v.n := by
  obtain ⟨gs, gt, gts⟩ := uAct
  obtain ⟨c0, c1, c2, c3, c4, c5, rfl⟩ := six hl
  have G := fun i T o hi => part_of gt gts h i T o hi
  obtain ⟨m0, z0, j0⟩ := G 0 _ _ rfl
  obtain ⟨m1, z1, j1⟩ := G 1 _ _ rfl
  obtain ⟨m2, z2, j2⟩ := G 2 _ _ rfl
  obtain ⟨m3, z3, j3⟩ := G 3 _ _ rfl
  obtain ⟨m4, z4, j4⟩ := G 4 _ _ rfl
  obtain ⟨m5, z5, j5⟩ := G 5 _ _ rfl
  rw [cInt] at j0 j1 j3 j4 j5
  rw [cStr] at j2
  obtain ⟨x0, e0, _, w0⟩ := DataW.trod_int Try.underlying3 (show DataW.trod enc Try.prog w base spare held m0 3 [c0] = some z0 from j0)
  obtain ⟨x1, e1, _, w1⟩ := DataW.trod_int Try.underlying3 (show DataW.trod enc Try.prog w base spare held m1 3 [c1] = some z1 from j1)
  obtain ⟨x2, e2, _, _⟩ := DataW.trod_string Try.underlying9 (show DataW.trod enc Try.prog w base spare held m2 9 [c2] = some z2 from j2)
  obtain ⟨x3, e3, _, w3⟩ := DataW.trod_int Try.underlying3 (show DataW.trod enc Try.prog w base spare held m3 3 [c3] = some z3 from j3)
  obtain ⟨x4, e4, _, w4⟩ := DataW.trod_int Try.underlying3 (show DataW.trod enc Try.prog w base spare held m4 3 [c4] = some z4 from j4)
  obtain ⟨x5, e5, _, w5⟩ := DataW.trod_int Try.underlying3 (show DataW.trod enc Try.prog w base spare held m5 3 [c5] = some z5 from j5)
  simp only [List.cons.injEq, and_true] at e0 e1 e2 e3 e4 e5
  subst e0 e1 e2 e3 e4 e5
  exact ⟨⟨x0, x1, x2, x3, x4, x5⟩, rfl, wf_i64 w1, wf_i64 w4⟩

set_option maxRecDepth 20000 in
theorem open_acts {v : Value} {d : DataW H} {p : List MemPlace} {r : Reach} {b0 : Nat} (hv : Value.okWide Try.prog w r b0 22 v) (h : DataW.Trod enc Try.prog w base spare held 22 v d p) :
    ∃ (a : Option Addr) (cap : Nat) (l : List Ac), v = .slice a l.length cap ∧ ARow w a l := by
  obtain ⟨a0, len0, cap0, rfl⟩ := okWide_slice Try.underlying22 hv
  obtain ⟨fuel, hf⟩ := h
  refine ⟨a0, cap0, ?_⟩
  rcases open_slice Try.underlying22 hf with ⟨hcs, _⟩ | ⟨x, len, cap, m, n, D, Pl, hcs, hb, hl, hm, hmm, _, hel⟩
  · simp [Value.cells] at hcs
    obtain ⟨rfl, rfl, rfl⟩ := hcs
    exact ⟨[], rfl, fun j x h => by simp at h, fun x h => by cases h⟩
  · simp [Value.cells] at hcs
    obtain ⟨rfl, rfl, rfl⟩ := hcs
    have hlm : len0 ≤ m := by rw [hmm]; split <;> omega
    by_cases hz : len0 = 0
    · subst hz
      exact ⟨[], rfl, fun j x h => by simp at h, fun x h => by cases h⟩
    rw [cAct] at hel
    have key : ∀ i, i < len0 → ∃ v : Ac, (∀ j, j < 6 → w.cell? ((x.add (i * 6)).add j) = [Value.int .i64 v.kind, .int .i64 v.vlan, .string v.mac, .int .i64 v.port, .int .i64 v.n, .int .i64 v.m][j]?) ∧ inI64 v.vlan ∧ inI64 v.n := by
      intro i hi
      obtain ⟨cs', h1, h2⟩ := hel i (by omega)
      obtain ⟨_, hlen, hc⟩ := World.cells?_some h1
      obtain ⟨v, rfl, k1, k2⟩ := cells_act hlen h2
      exact ⟨v, hc, k1, k2⟩
    obtain ⟨f, hf⟩ := choose_lt key
    obtain ⟨xb, off, spot⟩ := x
    have c0 := (hf 0 (by omega)).1 0 (by omega)
    have hspot : spot = none := by simpa [Addr.add] using World.cell?_spot c0
    subst hspot
    refine ⟨(List.range len0).map f, by simp, ?_, ?_⟩
    · intro k v hv
      have hk : k < len0 := by
        have := (List.getElem?_eq_some_iff.1 hv).1
        simpa using this
      have e : v = f k := by simp [hk] at hv; exact hv.symm
      subst e
      have g := fun j hj => (hf k hk).1 j hj
      simp only [Addr.add_lit] at g
      exact ⟨xb, off, rfl, World.block_lt_of_cell? _ _ (g 0 (by omega)), g 0 (by omega), g 1 (by omega), g 2 (by omega), g 3 (by omega), g 4 (by omega), g 5 (by omega)⟩
    · intro v hv
      obtain ⟨k, hk, rfl⟩ := List.mem_map.1 hv
      exact (hf k (List.mem_range.1 hk)).2
end
end Go.Proofs.Ytkpfdaomhkcokaa
