/-
  Vectors among the arguments, by value, and in a slice: four cells, each a number of 64 bits.
-/
import Derived.Test.YtiehocggdmadaaaVcC
import Derived.ProofKit
import Derived.OpenShut
import Derived.ShutString
import Derived.ChangeOld
import Derived.Deep.Fields
import Derived.Deep.Slices
import Derived.Lib.SmallJoins
namespace Go.Proofs.Ytiehocggdmadaaa
set_option linter.unusedVariables false
set_option linter.unusedSimpArgs false
open Go.ChangeShapes Go.WideShapes Go.ChangeAt Go.RowKit Go.Joins Go.Deep Vm

theorem own : ownKnob Try.prog.godebug = none := by kernel_rfl
theorem laidOut : laidOutB Try.prog = true := by kernel_rfl
theorem cU64 : Try.prog.cellsOf 22 = 1 := by kernel_rfl
theorem cVec : Try.prog.cellsOf 31 = 4 := by kernel_rfl
theorem uVec : ∃ fs : Array Field, Try.prog.underlying 31 = some (.struct fs) ∧ fs.map (fun f => (f.type, f.offset)) = #[(22, 0), (22, 1), (22, 2), (22, 3)] :=
  ⟨_, Try.underlying31, by kernel_rfl⟩

theorem wf_u64 {n : Int} (h : (Lit.int .u64 n).wf = true) : u64B n := by
  have e1 : IntKind.u64.min = 0 := by decide
  have e2 : IntKind.u64.max = 18446744073709551615 := by decide
  simp [Lit.wf, e1, e2] at h
  unfold u64B
  omega
theorem wf_u32 {n : Int} (h : (Lit.int .u32 n).wf = true) : 0 ≤ n ∧ n < 4294967296 := by
  have e1 : IntKind.u32.min = 0 := by decide
  have e2 : IntKind.u32.max = 4294967295 := by decide
  simp [Lit.wf, e1, e2] at h
  omega

instance : Inhabited Vc := ⟨⟨0, 0, 0, 0⟩⟩
theorem fieldAt {fs : Array Field} {ts : Array (TypeId × Nat)} (h : fs.map (fun f => (f.type, f.offset)) = ts) (i : Nat) (T : TypeId) (o : Nat) (hi : ts[i]? = some (T, o)) : ∃ f, fs[i]? = some f ∧ f.type = T ∧ f.offset = o := by
  rw [← h, Array.getElem?_map, Option.map_eq_some_iff] at hi
  obtain ⟨f, hf, he⟩ := hi
  simp at he
  exact ⟨f, hf, he.1, he.2⟩
theorem four {α : Type} {l : List α} (h : l.length = 4) : ∃ a b c d, l = [a, b, c, d] := by
  match l, h with
  | [a, b, c, d], _ => exact ⟨a, b, c, d, rfl⟩

section
variable {H : Type} {enc : TypeId × Value → H} {w : World} {base : Nat} {spare : Nat → Bool} {held : Bool}

theorem part_of {fs : Array Field} {ts : Array (TypeId × Nat)} {t : TypeId} {fuel : Nat} {cs : List Value} {x : DataW H × List MemPlace} (hu : Try.prog.underlying t = some (.struct fs)) (hts : fs.map (fun f => (f.type, f.offset)) = ts)
    (h : DataW.trod enc Try.prog w base spare held fuel t cs = some x) (i : Nat) (T : TypeId) (o : Nat) (hi : ts[i]? = some (T, o)) :
    ∃ n y, DataW.trod enc Try.prog w base spare held n T ((cs.drop o).take (Try.prog.cellsOf T)) = some y := by
  obtain ⟨ys, n, _, _, _, hyl, hf⟩ := DataW.trod_struct hu h
  obtain ⟨f, hfi, rfl, rfl⟩ := fieldAt hts i T o hi
  have h1 := hf i f hfi
  have hil : i < ys.length := by rw [hyl]; exact (Array.getElem?_eq_some_iff.1 hfi).1
  rw [List.getElem?_eq_getElem hil] at h1
  exact ⟨n, _, h1⟩

/-- Four cells that are read as a vector. -/
theorem cells_vec {fuel : Nat} {cs : List Value} {x : DataW H × List MemPlace} (hl : cs.length = 4) (h : DataW.trod enc Try.prog w base spare held fuel 31 cs = some x) :
    ∃ v : Vc, cs = [.int .u64 v.root, .int .u64 v.cost, .int .u64 v.bridge, .int .u64 v.port] ∧ v.ok := by
  obtain ⟨gs, gt, gts⟩ := uVec
  obtain ⟨c0, c1, c2, c3, rfl⟩ := four hl
  have G := fun i T o hi => part_of gt gts h i T o hi
  obtain ⟨m0, z0, j0⟩ := G 0 _ _ rfl
  obtain ⟨m1, z1, j1⟩ := G 1 _ _ rfl
  obtain ⟨m2, z2, j2⟩ := G 2 _ _ rfl
  obtain ⟨m3, z3, j3⟩ := G 3 _ _ rfl
  rw [cU64] at j0 j1 j2 j3
  obtain ⟨x0, e0, _, w0⟩ := DataW.trod_int Try.underlying22 (show DataW.trod enc Try.prog w base spare held m0 22 [c0] = some z0 from j0)
  obtain ⟨x1, e1, _, w1⟩ := DataW.trod_int Try.underlying22 (show DataW.trod enc Try.prog w base spare held m1 22 [c1] = some z1 from j1)
  obtain ⟨x2, e2, _, w2⟩ := DataW.trod_int Try.underlying22 (show DataW.trod enc Try.prog w base spare held m2 22 [c2] = some z2 from j2)
  obtain ⟨x3, e3, _, w3⟩ := DataW.trod_int Try.underlying22 (show DataW.trod enc Try.prog w base spare held m3 22 [c3] = some z3 from j3)
  simp only [List.cons.injEq, and_true] at e0 e1 e2 e3
  subst e0 e1 e2 e3
  exact ⟨⟨x0, x1, x2, x3⟩, rfl, ⟨wf_u64 w0, wf_u64 w1, wf_u64 w2, wf_u64 w3⟩⟩

theorem open_vec {r : Reach} {b0 : Nat} {v : Value} {d : DataW H} {p : List MemPlace} (hv : Value.okWide Try.prog w r b0 31 v) (h : DataW.Trod enc Try.prog w base spare held 31 v d p) :
    ∃ (r c b p : Int), v = vv r c b p ∧ u64B r ∧ u64B c ∧ u64B b ∧ u64B p := by
  obtain ⟨gs, gt, gts⟩ := uVec
  obtain ⟨cs, rfl, hsz⟩ := okWide_struct gt hv
  obtain ⟨l⟩ := cs
  rw [cVec] at hsz
  obtain ⟨fuel, hf⟩ := h
  have hf' : DataW.trod enc Try.prog w base spare held fuel 31 l = some (d, p) := hf
  obtain ⟨v, rfl, ok⟩ := cells_vec (by simpa using hsz) hf'
  exact ⟨_, _, _, _, rfl, ok.r, ok.c, ok.b, ok.p⟩

/-- What the walk is told of a row of vectors that came in. -/
def IsRow (w : World) (a : Option Addr) (len : Nat) (l : List Vc) : Prop :=
  len = 0 ∧ l = [] ∨ ∃ x off : Nat, a = some ⟨x, off, none⟩ ∧ IsVecs w x off len l

theorem open_vecs {v : Value} {d : DataW H} {p : List MemPlace} {r : Reach} {b0 : Nat} (hv : Value.okWide Try.prog w r b0 32 v) (h : DataW.Trod enc Try.prog w base spare held 32 v d p) :
    ∃ (a : Option Addr) (len cap : Nat) (l : List Vc), v = .slice a len cap ∧ len ≤ maxLen ∧ IsRow w a len l := by
  obtain ⟨a0, len0, cap0, rfl⟩ := okWide_slice Try.underlying32 hv
  obtain ⟨fuel, hf⟩ := h
  refine ⟨a0, len0, cap0, ?_⟩
  rcases open_slice Try.underlying32 hf with ⟨hcs, _⟩ | ⟨x, len, cap, m, n, D, Pl, hcs, hb, hl, hm, hmm, _, hel⟩
  · simp [Value.cells] at hcs
    obtain ⟨rfl, rfl, rfl⟩ := hcs
    exact ⟨[], rfl, Nat.zero_le _, .inl ⟨rfl, rfl⟩⟩
  · simp [Value.cells] at hcs
    obtain ⟨rfl, rfl, rfl⟩ := hcs
    have hlm : len0 ≤ m := by rw [hmm]; split <;> omega
    by_cases hz : len0 = 0
    · exact ⟨[], rfl, Nat.le_trans hl hm, .inl ⟨hz, rfl⟩⟩
    rw [cVec] at hel
    have key : ∀ i, i < len0 → ∃ v : Vc, ∀ j, j < 4 → w.cell? ((x.add (i * 4)).add j) = [Value.int .u64 v.root, .int .u64 v.cost, .int .u64 v.bridge, .int .u64 v.port][j]? := by
      intro i hi
      obtain ⟨cs', h1, h2⟩ := hel i (by omega)
      obtain ⟨_, hlen, hc⟩ := World.cells?_some h1
      obtain ⟨v, rfl, _⟩ := cells_vec hlen h2
      exact ⟨v, hc⟩
    obtain ⟨f, hf⟩ := choose_lt key
    obtain ⟨xb, off, spot⟩ := x
    have c0 := hf 0 (by omega) 0 (by omega)
    have hspot : spot = none := by simpa [Addr.add] using World.cell?_spot c0
    subst hspot
    refine ⟨(List.range len0).map f, rfl, Nat.le_trans hl hm, .inr ⟨xb, off, rfl, ?_, by simp, ?_⟩⟩
    · exact World.block_lt_of_cell? _ _ c0
    · intro k v hv
      have hk : k < len0 := by
        have := (List.getElem?_eq_some_iff.1 hv).1
        simpa using this
      have e : v = f k := by simp [hk] at hv; exact hv.symm
      subst e
      have g := fun j hj => hf k hk j hj
      simp only [Addr.add_lit] at g
      exact ⟨g 0 (by omega), g 1 (by omega), g 2 (by omega), g 3 (by omega)⟩
end
end Go.Proofs.Ytiehocggdmadaaa
