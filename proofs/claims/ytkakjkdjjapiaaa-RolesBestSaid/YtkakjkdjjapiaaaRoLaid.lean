/-
  A row of what is known of ports among the arguments: seven cells each.
-/
import Derived.Test.YtkakjkdjjapiaaaRoK
import Derived.ProofKit
import Derived.OpenShut
import Derived.ShutString
import Derived.ChangeOld
import Derived.Deep.Fields
import Derived.Deep.Slices
import Derived.Lib.SmallJoins
namespace Go.Proofs.Ytkakjkdjjapiaaa
set_option linter.unusedVariables false
set_option linter.unusedSimpArgs false
open Go.ChangeShapes Go.WideShapes Go.ChangeAt Go.RowKit Go.Joins Go.Deep Vm Rm

theorem own : ownKnob Try.prog.godebug = none := by kernel_rfl
theorem laidOut : laidOutB Try.prog = true := by kernel_rfl
theorem cInt : Try.prog.cellsOf 3 = 1 := by kernel_rfl
theorem cInf : Try.prog.cellsOf 42 = 7 := by kernel_rfl
theorem uInf : ∃ fs : Array Field, Try.prog.underlying 42 = some (.struct fs) ∧ fs.map (fun f => (f.type, f.offset)) = #[(22, 0), (22, 1), (3, 2), (28, 3)] :=
  ⟨_, Try.underlying42, by kernel_rfl⟩
theorem cU64 : Try.prog.cellsOf 22 = 1 := by kernel_rfl
theorem cVec : Try.prog.cellsOf 28 = 4 := by kernel_rfl
theorem uVec : ∃ fs : Array Field, Try.prog.underlying 28 = some (.struct fs) ∧ fs.map (fun f => (f.type, f.offset)) = #[(22, 0), (22, 1), (22, 2), (22, 3)] :=
  ⟨_, Try.underlying28, by kernel_rfl⟩

theorem wf_u64 {n : Int} (h : (Lit.int .u64 n).wf = true) : u64B n := by
  have e1 : IntKind.u64.min = 0 := by decide
  have e2 : IntKind.u64.max = 18446744073709551615 := by decide
  simp [Lit.wf, e1, e2] at h
  unfold u64B
  omega

theorem wf_i64 {n : Int} (h : (Lit.int .i64 n).wf = true) : inI64 n := by
  have e1 : IntKind.i64.min = -9223372036854775808 := by decide
  have e2 : IntKind.i64.max = 9223372036854775807 := by decide
  simp [Lit.wf, e1, e2] at h
  unfold inI64
  omega
instance : Inhabited Inf := ⟨⟨0, 0, 0, ⟨0, 0, 0, 0⟩⟩⟩
theorem seven_of {α : Type} {l : List α} (h : l.length = 7) : ∃ a b c d e f g, l = [a, b, c, d, e, f, g] := by
  match l, h with
  | [a, b, c, d, e, f, g], _ => exact ⟨a, b, c, d, e, f, g, rfl⟩
theorem fieldAt {fs : Array Field} {ts : Array (TypeId × Nat)} (h : fs.map (fun f => (f.type, f.offset)) = ts) (i : Nat) (T : TypeId) (o : Nat) (hi : ts[i]? = some (T, o)) : ∃ f, fs[i]? = some f ∧ f.type = T ∧ f.offset = o := by
  rw [← h, Array.getElem?_map, Option.map_eq_some_iff] at hi
  obtain ⟨f, hf, he⟩ := hi
  simp at he
  exact ⟨f, hf, he.1, he.2⟩
theorem four_of {α : Type} {l : List α} (h : l.length = 4) : ∃ a b c d, l = [a, b, c, d] := by
  match l, h with
  | [a, b, c, d], _ => exact ⟨a, b, c, d, rfl⟩

section
variable {H : Type} {enc : TypeId × Value → H} {w : World} {base : Nat} {spare : Nat → Bool} {held : Bool}

theorem part_of {fs : Array Field} {ts : Array (TypeId × Nat)} {t : TypeId} {fuel : Nat} {cs : List Value} {x : DataW H × List MemPlace} (hu : Try.prog.underlying t = some (.struct fs)) (hts : fs.map (fun f => (f.type, f.offset)) = ts)
    (h : DataW.trod enc Try.prog w base spare held fuel t cs = some x) (i : Nat) (T : TypeId) (o : Nat) (hi : ts[i]? = some (T, o)) :
    ∃ n y, DataW.trod enc Try.prog w base spare held n T ((cs.drop o).take (Try.prog.cellsOf T)) = some y := by
  obtain ⟨ys, n, _, _, _, hyl, hf⟩ := DataW.trod_struct hu h
  obtain ⟨f, hfi, rfl, rfl⟩ := fieldAt hts i T o hi
  have h1 := hf i f hfi
  have hil : i < ys.length := by rw [hyl]; exact (Array.getElem?_eq_some_iff.1 hfi).1
  rw [List.getElem?_eq_getElem hil] at h1
  exact ⟨n, _, h1⟩

/-- Four cells that are read as a vector. -/
theorem cells_vec {fuel : Nat} {cs : List Value} {x : DataW H × List MemPlace} (hl : cs.length = 4) (h : DataW.trod enc Try.prog w base spare held fuel 28 cs = some x) :
    ∃ v : Vc, cs = [.int .u64 v.root, .int .u64 v.cost, .int .u64 v.bridge, .int .u64 v.port] ∧ v.ok := by
  obtain ⟨gs, gt, gts⟩ := uVec
  obtain ⟨c0, c1, c2, c3, rfl⟩ := four_of hl
  have G := fun i T o hi => part_of gt gts h i T o hi
  obtain ⟨m0, z0, j0⟩ := G 0 _ _ rfl
  obtain ⟨m1, z1, j1⟩ := G 1 _ _ rfl
  obtain ⟨m2, z2, j2⟩ := G 2 _ _ rfl
  obtain ⟨m3, z3, j3⟩ := G 3 _ _ rfl
  rw [cU64] at j0 j1 j2 j3
  obtain ⟨x0, e0, _, w0⟩ := DataW.trod_int Try.underlying22 (show DataW.trod enc Try.prog w base spare held m0 22 [c0] = some z0 from j0)
  obtain ⟨x1, e1, _, w1⟩ := DataW.trod_int Try.underlying22 (show DataW.trod enc Try.prog w base spare held m1 22 [c1] = some z1 from j1)
  obtain ⟨x2, e2, _, w2⟩ := DataW.trod_int Try.underlying22 (show DataW.trod enc Try.prog w base spare held m2 22 [c2] = some z2 from j2)
  obtain ⟨x3, e3, _, w3⟩ := DataW.trod_int Try.underlying22 (show DataW.trod enc Try.prog w base spare held m3 22 [c3] = some z3 from j3)
  simp only [List.cons.injEq, and_true] at e0 e1 e2 e3
  subst e0 e1 e2 e3
  exact ⟨⟨x0, x1, x2, x3⟩, rfl, ⟨wf_u64 w0, wf_u64 w1, wf_u64 w2, wf_u64 w3⟩⟩

/-- Seven cells that are read as what is known of a port. -/
theorem cells_inf {fuel : Nat} {cs : List Value} {x : DataW H × List MemPlace} (hl : cs.length = 7) (h : DataW.trod enc Try.prog w base spare held fuel 42 cs = some x) :
    ∃ v : Inf, cs = seven v ∧ InfOk v := by
  obtain ⟨gs, gt, gts⟩ := uInf
  obtain ⟨c0, c1, c2, c3, c4, c5, c6, rfl⟩ := seven_of hl
  have G := fun i T o hi => part_of gt gts h i T o hi
  obtain ⟨m0, z0, j0⟩ := G 0 _ _ rfl
  obtain ⟨m1, z1, j1⟩ := G 1 _ _ rfl
  obtain ⟨m2, z2, j2⟩ := G 2 _ _ rfl
  obtain ⟨m3, z3, j3⟩ := G 3 _ _ rfl
  rw [cU64] at j0 j1
  rw [cInt] at j2
  rw [cVec] at j3
  obtain ⟨x0, e0, _, w0⟩ := DataW.trod_int Try.underlying22 (show DataW.trod enc Try.prog w base spare held m0 22 [c0] = some z0 from j0)
  obtain ⟨x1, e1, _, w1⟩ := DataW.trod_int Try.underlying22 (show DataW.trod enc Try.prog w base spare held m1 22 [c1] = some z1 from j1)
  obtain ⟨x2, e2, _, w2⟩ := DataW.trod_int Try.underlying3 (show DataW.trod enc Try.prog w base spare held m2 3 [c2] = some z2 from j2)
  obtain ⟨⟨r, c, b, p⟩, e3, ok⟩ := cells_vec (cs := [c3, c4, c5, c6]) rfl (show DataW.trod enc Try.prog w base spare held m3 28 [c3, c4, c5, c6] = some z3 from j3)
  simp only [List.cons.injEq, and_true] at e0 e1 e2 e3
  obtain ⟨e3, e4, e5, e6⟩ := e3
  subst e0 e1 e2 e3 e4 e5 e6
  exact ⟨⟨x0, x1, x2, ⟨r, c, b, p⟩⟩, rfl, ⟨wf_u64 w0, wf_u64 w1, wf_i64 w2, ok⟩⟩

set_option maxRecDepth 20000 in
theorem open_infs {v : Value} {d : DataW H} {p : List MemPlace} {r : Reach} {b0 : Nat} (hv : Value.okWide Try.prog w r b0 23 v) (h : DataW.Trod enc Try.prog w base spare held 23 v d p) :
    ∃ (a : Option Addr) (cap : Nat) (l : List Inf), v = .slice a l.length cap ∧ l.length ≤ cap ∧ IRow w a l := by
  obtain ⟨a0, len0, cap0, rfl⟩ := okWide_slice Try.underlying23 hv
  obtain ⟨fuel, hf⟩ := h
  refine ⟨a0, cap0, ?_⟩
  rcases open_slice Try.underlying23 hf with ⟨hcs, _⟩ | ⟨x, len, cap, m, n, D, Pl, hcs, hb, hl, hm, hmm, _, hel⟩
  · simp [Value.cells] at hcs
    obtain ⟨rfl, rfl, rfl⟩ := hcs
    exact ⟨[], rfl, Nat.le_refl _, fun j x h => by simp at h, fun x h => by cases h⟩
  · simp [Value.cells] at hcs
    obtain ⟨rfl, rfl, rfl⟩ := hcs
    have hlm : len0 ≤ m := by rw [hmm]; split <;> omega
    by_cases hz : len0 = 0
    · subst hz
      exact ⟨[], rfl, Nat.zero_le _, fun j x h => by simp at h, fun x h => by cases h⟩
    rw [cInf] at hel
    have key : ∀ i, i < len0 → ∃ v : Inf, (∀ j, j < 7 → w.cell? ((x.add (i * 7)).add j) = (seven v)[j]?) ∧ InfOk v := by
      intro i hi
      obtain ⟨cs', h1, h2⟩ := hel i (by omega)
      obtain ⟨_, hlen, hc⟩ := World.cells?_some h1
      obtain ⟨v, rfl, ok⟩ := cells_inf hlen h2
      exact ⟨v, hc, ok⟩
    obtain ⟨f, hf⟩ := choose_lt key
    obtain ⟨xb, off, spot⟩ := x
    have c0 := (hf 0 (by omega)).1 0 (by omega)
    have hspot : spot = none := by simpa [Addr.add] using World.cell?_spot c0
    subst hspot
    refine ⟨(List.range len0).map f, by simp, by simpa using hl, ?_, ?_⟩
    · intro k v hv
      have hk : k < len0 := by
        have := (List.getElem?_eq_some_iff.1 hv).1
        simpa using this
      have e : v = f k := by simp [hk] at hv; exact hv.symm
      subst e
      have g := fun j hj => (hf k hk).1 j hj
      simp only [Addr.add_lit] at g
      exact ⟨xb, off, rfl, World.block_lt_of_cell? _ _ (g 0 (by omega)), g 0 (by omega), g 1 (by omega), g 2 (by omega), g 3 (by omega), g 4 (by omega), g 5 (by omega), g 6 (by omega)⟩
    · intro v hv
      obtain ⟨k, hk, rfl⟩ := List.mem_map.1 hv
      exact (hf k (List.mem_range.1 hk)).2
end
end Go.Proofs.Ytkakjkdjjapiaaa
