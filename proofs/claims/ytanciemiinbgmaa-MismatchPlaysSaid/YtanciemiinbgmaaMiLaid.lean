/-
  A set-up, and a row of acts (a bool and three ints each), among the arguments.
-/
import Derived.Test.YtanciemiinbgmaaMiS
import Derived.ProofKit
import Derived.OpenShut
import Derived.ShutString
import Derived.ChangeOld
import Derived.Deep.Fields
import Derived.Deep.Slices
import Derived.Lib.SmallJoins
namespace Go.Proofs.Ytanciemiinbgmaa
set_option linter.unusedVariables false
set_option linter.unusedSimpArgs false
open Go.ChangeShapes Go.WideShapes Go.ChangeAt Go.RowKit Go.Joins Go.Deep Pm Mm

theorem own : ownKnob Try.prog.godebug = none := by kernel_rfl
theorem laidOut : laidOutB Try.prog = true := by kernel_rfl
theorem cInt : Try.prog.cellsOf 3 = 1 := by kernel_rfl
theorem cBool : Try.prog.cellsOf 4 = 1 := by kernel_rfl
theorem cInts : Try.prog.cellsOf 22 = 1 := by kernel_rfl
theorem cPort : Try.prog.cellsOf 24 = 3 := by kernel_rfl
theorem uPort : ∃ fs : Array Field, Try.prog.underlying 24 = some (.struct fs) ∧ fs.map (fun f => (f.type, f.offset)) = #[(4, 0), (3, 1), (22, 2)] :=
  ⟨_, Try.underlying24, by kernel_rfl⟩
theorem fieldAt {fs : Array Field} {ts : Array (TypeId × Nat)} (h : fs.map (fun f => (f.type, f.offset)) = ts) (i : Nat) (T : TypeId) (o : Nat) (hi : ts[i]? = some (T, o)) : ∃ f, fs[i]? = some f ∧ f.type = T ∧ f.offset = o := by
  rw [← h, Array.getElem?_map, Option.map_eq_some_iff] at hi
  obtain ⟨f, hf, he⟩ := hi
  simp at he
  exact ⟨f, hf, he.1, he.2⟩
theorem three {α : Type} {l : List α} (h : l.length = 3) : ∃ a b c, l = [a, b, c] := by
  match l, h with
  | [a, b, c], _ => exact ⟨a, b, c, rfl⟩

section
variable {H : Type} {enc : TypeId × Value → H} {w : World} {base : Nat} {spare : Nat → Bool} {held : Bool}

theorem part_of {fs : Array Field} {ts : Array (TypeId × Nat)} {t : TypeId} {fuel : Nat} {cs : List Value} {x : DataW H × List MemPlace} (hu : Try.prog.underlying t = some (.struct fs)) (hts : fs.map (fun f => (f.type, f.offset)) = ts)
    (h : DataW.trod enc Try.prog w base spare held fuel t cs = some x) (i : Nat) (T : TypeId) (o : Nat) (hi : ts[i]? = some (T, o)) :
    ∃ n y, DataW.trod enc Try.prog w base spare held n T ((cs.drop o).take (Try.prog.cellsOf T)) = some y := by
  obtain ⟨ys, n, _, _, _, hyl, hf⟩ := DataW.trod_struct hu h
  obtain ⟨f, hfi, rfl, rfl⟩ := fieldAt hts i T o hi
  have h1 := hf i f hfi
  have hil : i < ys.length := by rw [hyl]; exact (Array.getElem?_eq_some_iff.1 hfi).1
  rw [List.getElem?_eq_getElem hil] at h1
  exact ⟨n, _, h1⟩

/-- One cell that is read as a slice of ints. -/
theorem open_ints {fuel : Nat} {c : Value} {y : DataW H × List MemPlace} (h : DataW.trod enc Try.prog w base spare held fuel 22 [c] = some y) :
    ∃ (a : Option Addr) (len cap : Nat) (l : List Int), c = .slice a len cap ∧ IsRow w a len l := by
  rcases open_slice Try.underlying22 h with ⟨hcs, _⟩ | ⟨x, len, cap, m, n, D, Pl, hcs, hb, hl, hm, hmm, _, hel⟩
  · simp at hcs
    exact ⟨none, 0, 0, [], hcs, row_none _ _⟩
  · simp at hcs
    subst hcs
    have hlm : len ≤ m := by rw [hmm]; split <;> omega
    by_cases hz : len = 0
    · subst hz
      exact ⟨_, 0, cap, [], rfl, row_none _ _⟩
    rw [cInt] at hel
    have key : ∀ i, i < len → ∃ v : Int, w.cell? (x.add (i * 1)) = some (.int .i64 v) := by
      intro i hi
      obtain ⟨cs', h1, h2⟩ := hel i (by omega)
      obtain ⟨_, hlen, hc⟩ := World.cells?_some h1
      match cs', hlen with
      | [c0], _ =>
        obtain ⟨v, e, _, _⟩ := DataW.trod_int Try.underlying3 (show DataW.trod enc Try.prog w base spare held n 3 [c0] = some _ from h2)
        simp only [List.cons.injEq, and_true] at e
        subst e
        have := hc 0 (by omega)
        refine ⟨v, ?_⟩
        simpa [Addr.add] using this
    obtain ⟨f, hf⟩ := choose_lt key
    obtain ⟨xb, off, spot⟩ := x
    have c0 := hf 0 (by omega)
    have hspot : spot = none := by simpa [Addr.add] using World.cell?_spot c0
    subst hspot
    refine ⟨_, len, cap, (List.range len).map f, rfl, by simp, Nat.le_trans hl hm, ?_⟩
    intro k v hv
    have hk : k < len := by
      have := (List.getElem?_eq_some_iff.1 hv).1
      simpa using this
    have e : v = f k := by simp [hk] at hv; exact hv.symm
    subst e
    have g := hf k hk
    rw [Nat.mul_one, Addr.add_lit] at g
    exact ⟨xb, off, rfl, World.block_lt_of_cell? _ _ g, g⟩

set_option maxRecDepth 20000 in
theorem open_port {r : Reach} {b0 : Nat} {v : Value} {d : DataW H} {p : List MemPlace} (hv : Value.okWide Try.prog w r b0 24 v) (h : DataW.Trod enc Try.prog w base spare held 24 v d p) :
    ∃ (t : Bool) (n : Int) (a : Option Addr) (len cap : Nat) (l : List Int), v = pv t n a len cap ∧ IsRow w a len l := by
  obtain ⟨gs, gt, gts⟩ := uPort
  obtain ⟨cs, rfl, hsz⟩ := okWide_struct gt hv
  obtain ⟨l⟩ := cs
  rw [cPort] at hsz
  obtain ⟨c0, c1, c2, rfl⟩ := three (l := l) (by simpa using hsz)
  obtain ⟨fuel, hf⟩ := h
  have hf' : DataW.trod enc Try.prog w base spare held fuel 24 [c0, c1, c2] = some (d, p) := hf
  have G := fun i T o hi => part_of gt gts hf' i T o hi
  obtain ⟨m0, z0, j0⟩ := G 0 _ _ rfl
  obtain ⟨m1, z1, j1⟩ := G 1 _ _ rfl
  obtain ⟨m2, z2, j2⟩ := G 2 _ _ rfl
  rw [cBool] at j0
  rw [cInt] at j1
  rw [cInts] at j2
  obtain ⟨x0, e0, _⟩ := DataW.trod_bool Try.underlying4 (show DataW.trod enc Try.prog w base spare held m0 4 [c0] = some z0 from j0)
  obtain ⟨x1, e1, _, _⟩ := DataW.trod_int Try.underlying3 (show DataW.trod enc Try.prog w base spare held m1 3 [c1] = some z1 from j1)
  obtain ⟨a, len, cap, l, rfl, hI⟩ := open_ints (show DataW.trod enc Try.prog w base spare held m2 22 [c2] = some z2 from j2)
  simp only [List.cons.injEq, and_true] at e0 e1
  subst e0 e1
  exact ⟨x0, x1, a, len, cap, l, rfl, hI⟩

theorem cAct : Try.prog.cellsOf 37 = 4 := by kernel_rfl
theorem uAct : ∃ fs : Array Field, Try.prog.underlying 37 = some (.struct fs) ∧ fs.map (fun f => (f.type, f.offset)) = #[(4, 0), (3, 1), (3, 2), (3, 3)] :=
  ⟨_, Try.underlying37, by kernel_rfl⟩
theorem wf_i64 {n : Int} (h : (Lit.int .i64 n).wf = true) : inI64 n := by
  have e1 : IntKind.i64.min = -9223372036854775808 := by decide
  have e2 : IntKind.i64.max = 9223372036854775807 := by decide
  simp [Lit.wf, e1, e2] at h
  unfold inI64
  omega
theorem four {α : Type} {l : List α} (h : l.length = 4) : ∃ a b c d, l = [a, b, c, d] := by
  match l, h with
  | [a, b, c, d], _ => exact ⟨a, b, c, d, rfl⟩
/-- Four cells that are read as an act. -/
theorem cells_act {fuel : Nat} {cs : List Value} {x : DataW H × List MemPlace} (hl : cs.length = 4) (h : DataW.trod enc Try.prog w base spare held fuel 37 cs = some x) :
    ∃ v : Ac, cs = [.bool v.ask, .int .i64 v.received, .int .i64 v.told, .int .i64 v.now] ∧ inI64 v.told := by
  obtain ⟨gs, gt, gts⟩ := uAct
  obtain ⟨c0, c1, c2, c3, rfl⟩ := four hl
  have G := fun i T o hi => part_of gt gts h i T o hi
  obtain ⟨m0, z0, j0⟩ := G 0 _ _ rfl
  obtain ⟨m1, z1, j1⟩ := G 1 _ _ rfl
  obtain ⟨m2, z2, j2⟩ := G 2 _ _ rfl
  obtain ⟨m3, z3, j3⟩ := G 3 _ _ rfl
  rw [cInt] at j1 j2 j3
  rw [cBool] at j0
  obtain ⟨x0, e0, _⟩ := DataW.trod_bool Try.underlying4 (show DataW.trod enc Try.prog w base spare held m0 4 [c0] = some z0 from j0)
  obtain ⟨x1, e1, _, w1⟩ := DataW.trod_int Try.underlying3 (show DataW.trod enc Try.prog w base spare held m1 3 [c1] = some z1 from j1)
  obtain ⟨x2, e2, _, w2⟩ := DataW.trod_int Try.underlying3 (show DataW.trod enc Try.prog w base spare held m2 3 [c2] = some z2 from j2)
  obtain ⟨x3, e3, _, w3⟩ := DataW.trod_int Try.underlying3 (show DataW.trod enc Try.prog w base spare held m3 3 [c3] = some z3 from j3)
  simp only [List.cons.injEq, and_true] at e0 e1 e2 e3
  subst e0 e1 e2 e3
  exact ⟨⟨x0, x1, x2, x3⟩, rfl, wf_i64 w2⟩

set_option maxRecDepth 20000 in
theorem open_acts {v : Value} {d : DataW H} {p : List MemPlace} {r : Reach} {b0 : Nat} (hv : Value.okWide Try.prog w r b0 25 v) (h : DataW.Trod enc Try.prog w base spare held 25 v d p) :
    ∃ (a : Option Addr) (cap : Nat) (l : List Ac), v = .slice a l.length cap ∧ ARow w a l := by
  obtain ⟨a0, len0, cap0, rfl⟩ := okWide_slice Try.underlying25 hv
  obtain ⟨fuel, hf⟩ := h
  refine ⟨a0, cap0, ?_⟩
  rcases open_slice Try.underlying25 hf with ⟨hcs, _⟩ | ⟨x, len, cap, m, n, D, Pl, hcs, hb, hl, hm, hmm, _, hel⟩
  · simp [Value.cells] at hcs
    obtain ⟨rfl, rfl, rfl⟩ := hcs
    exact ⟨[], rfl, fun j x h => by simp at h, fun x h => by cases h⟩
  · simp [Value.cells] at hcs
    obtain ⟨rfl, rfl, rfl⟩ := hcs
    have hlm : len0 ≤ m := by rw [hmm]; split <;> omega
    by_cases hz : len0 = 0
    · subst hz
      exact ⟨[], rfl, fun j x h => by simp at h, fun x h => by cases h⟩
    rw [cAct] at hel
    have key : ∀ i, i < len0 → ∃ v : Ac, (∀ j, j < 4 → w.cell? ((x.add (i * 4)).add j) = [Value.bool v.ask, .int .i64 v.received, .int .i64 v.told, .int .i64 v.now][j]?) ∧ inI64 v.told := by
      intro i hi
      obtain ⟨cs', h1, h2⟩ := hel i (by omega)
      obtain ⟨_, hlen, hc⟩ := World.cells?_some h1
      obtain ⟨v, rfl, k1⟩ := cells_act hlen h2
      exact ⟨v, hc, k1⟩
    obtain ⟨f, hf⟩ := choose_lt key
    obtain ⟨xb, off, spot⟩ := x
    have c0 := (hf 0 (by omega)).1 0 (by omega)
    have hspot : spot = none := by simpa [Addr.add] using World.cell?_spot c0
    subst hspot
    refine ⟨(List.range len0).map f, by simp, ?_, ?_⟩
    · intro k v hv
      have hk : k < len0 := by
        have := (List.getElem?_eq_some_iff.1 hv).1
        simpa using this
      have e : v = f k := by simp [hk] at hv; exact hv.symm
      subst e
      have g := fun j hj => (hf k hk).1 j hj
      simp only [Addr.add_lit] at g
      exact ⟨xb, off, rfl, World.block_lt_of_cell? _ _ (g 0 (by omega)), g 0 (by omega), g 1 (by omega), g 2 (by omega), g 3 (by omega)⟩
    · intro v hv
      obtain ⟨k, hk, rfl⟩ := List.mem_map.1 hv
      exact (hf k (List.mem_range.1 hk)).2
end
end Go.Proofs.Ytanciemiinbgmaa
