/-
  The table of sizes, as the row lists it: from the row's condition to the four cells; a start that meets it. A BPDU among the arguments, by value: ten cells, each of its own kind.
-/
import Derived.Test.YtaifkepojfhgkaaDoorBpA
import Derived.Test.YtaifkepojfhgkaaDoorTie
import Derived.Test.YtaifkepojfhgkaaDoorCards
import Derived.ProofKit
import Derived.LaidMore
import Derived.OpenShut
import Derived.ShutString
import Derived.ChangeOld
import Derived.Deep.Fields
import Derived.Stop.Joined
namespace Go.Proofs.YtaifkepojfhgkaaDoor
set_option linter.unusedVariables false
set_option linter.unusedSimpArgs false
open Go.ChangeShapes Go.WideShapes Go.ChangeAt Go.WideMaps Go.WideElems Go.RowKit Go.Joins Go.Deep Bm

theorem own : ownKnob Tryd.prog.godebug = none := by kernel_rfl
theorem laidOut : laidOutB Tryd.prog = true := by kernel_rfl

def laidSizes : List (String × DataW Unit) := [("treebridge/bpdu.sizes", Rows.laid_treebridge_bpdu_sizes)]
theorem gSizes : Tryd.prog.globalNamed "treebridge/bpdu.sizes" = some 0 := by kernel_rfl
theorem tSizes : (Tryd.prog.globals[0]?).map (·.type) = some 54 := by kernel_rfl
theorem cInt : Tryd.prog.cellsOf 3 = 1 := by kernel_rfl
theorem cU64 : Tryd.prog.cellsOf 22 = 1 := by kernel_rfl
theorem cVec : Tryd.prog.cellsOf 24 = 4 := by kernel_rfl
theorem cBp : Tryd.prog.cellsOf 26 = 10 := by kernel_rfl
theorem cSizes : Tryd.prog.cellsOf 54 = 4 := by kernel_rfl
theorem uSizes : Tryd.prog.underlying 54 = some (.array 4 3) := by kernel_rfl
theorem uVec : ∃ fs : Array Field, Tryd.prog.underlying 24 = some (.struct fs) ∧ fs.map (fun f => (f.type, f.offset)) = #[(22, 0), (22, 1), (22, 2), (22, 3)] :=
  ⟨_, Tryd.underlying24, by kernel_rfl⟩
theorem uBp : ∃ fs : Array Field, Tryd.prog.underlying 26 = some (.struct fs) ∧ fs.map (fun f => (f.type, f.offset)) = #[(3, 0), (3, 1), (24, 2), (3, 6), (3, 7), (3, 8), (3, 9)] :=
  ⟨_, Tryd.underlying26, by kernel_rfl⟩

/-- The door's own heap meets the condition. -/
theorem door_met (os : Os) (args : Array Value) : laidMetH Tryd.prog laidSizes ((World.doorLaid Tryd.prog 400 os).forCall (fun _ _ => 0) ⟨#[], args, []⟩).memory :=
  laidMetH_of_parts3 (fuel := 8) (laidMet_of_run' 8 (by kernel_rfl) (by kernel_rfl)) (by kernel_rfl) (by kernel_rfl)

theorem sizes_of_laid {W : World} (h : laidMetH Tryd.prog laidSizes W) : Sizes W := by
  rw [MakeChecks.laidMetH_plain _ _ _ (by kernel_rfl)] at h
  obtain ⟨ps, ⟨g, t, cs, f, p, q, hg, ht, hv, hd, _, _⟩, _, _⟩ := h
  obtain rfl := Option.some.inj (gSizes.symm.trans hg)
  obtain rfl := Option.some.inj (tSizes.symm.trans ht)
  obtain ⟨xs, m, _, hx, hlen, hn, hel⟩ := DataW.trod_array uSizes hd
  rw [cSizes] at hlen
  have k0 := hel 0 (by decide)
  have k1 := hel 1 (by decide)
  have k2 := hel 2 (by decide)
  have k3 := hel 3 (by decide)
  rw [cInt] at k0 k1 k2 k3
  obtain ⟨l⟩ := cs
  have hlen' : l.length = 4 := by simpa using hlen
  match l, hlen', xs, hn, hx, k0, k1, k2, k3, hv with
  | [c0, c1, c2, c3], _, [y0, y1, y2, y3], _, hx, k0, k1, k2, k3, hv =>
    simp [Rows.laid_treebridge_bpdu_sizes] at hx
    obtain ⟨⟨x0, x1, x2, x3⟩, _⟩ := hx
    obtain ⟨n0, a0, e0, _⟩ := DataW.trod_int Tryd.underlying3 (show DataW.trod _ Tryd.prog W 0 _ _ m 3 [c0] = some y0 from k0)
    obtain ⟨n1, a1, e1, _⟩ := DataW.trod_int Tryd.underlying3 (show DataW.trod _ Tryd.prog W 0 _ _ m 3 [c1] = some y1 from k1)
    obtain ⟨n2, a2, e2, _⟩ := DataW.trod_int Tryd.underlying3 (show DataW.trod _ Tryd.prog W 0 _ _ m 3 [c2] = some y2 from k2)
    obtain ⟨n3, a3, e3, _⟩ := DataW.trod_int Tryd.underlying3 (show DataW.trod _ Tryd.prog W 0 _ _ m 3 [c3] = some y3 from k3)
    subst e0 e1 e2 e3
    simp at x0 x1 x2 x3 a0 a1 a2 a3
    subst x0 x1 x2 x3 a0 a1 a2 a3
    have cell := fun i => World.var?_cell hg hv i
    exact ⟨by simpa using cell 0, by simpa using cell 1, by simpa using cell 2, by simpa using cell 3⟩

theorem wf_u64 {n : Int} (h : (Lit.int .u64 n).wf = true) : u64B n := by
  have e1 : IntKind.u64.min = 0 := by decide
  have e2 : IntKind.u64.max = 18446744073709551615 := by decide
  simp [Lit.wf, e1, e2] at h
  unfold u64B
  omega

/-- A field's place and type. -/
theorem fieldAt {fs : Array Field} {ts : Array (TypeId × Nat)} (h : fs.map (fun f => (f.type, f.offset)) = ts) (i : Nat) (T : TypeId) (o : Nat) (hi : ts[i]? = some (T, o)) : ∃ f, fs[i]? = some f ∧ f.type = T ∧ f.offset = o := by
  rw [← h, Array.getElem?_map, Option.map_eq_some_iff] at hi
  obtain ⟨f, hf, he⟩ := hi
  simp at he
  exact ⟨f, hf, he.1, he.2⟩

section
variable {H : Type} {enc : TypeId × Value → H} {w : World} {base : Nat} {spare : Nat → Bool} {held : Bool}

theorem part_of {fs : Array Field} {ts : Array (TypeId × Nat)} {t : TypeId} {fuel : Nat} {cs : List Value} {x : DataW H × List MemPlace} (hu : Tryd.prog.underlying t = some (.struct fs)) (hts : fs.map (fun f => (f.type, f.offset)) = ts)
    (h : DataW.trod enc Tryd.prog w base spare held fuel t cs = some x) (i : Nat) (T : TypeId) (o : Nat) (hi : ts[i]? = some (T, o)) :
    ∃ n y, DataW.trod enc Tryd.prog w base spare held n T ((cs.drop o).take (Tryd.prog.cellsOf T)) = some y := by
  obtain ⟨ys, n, _, _, _, hyl, hf⟩ := DataW.trod_struct hu h
  obtain ⟨f, hfi, rfl, rfl⟩ := fieldAt hts i T o hi
  have h1 := hf i f hfi
  have hil : i < ys.length := by rw [hyl]; exact (Array.getElem?_eq_some_iff.1 hfi).1
  rw [List.getElem?_eq_getElem hil] at h1
  exact ⟨n, _, h1⟩

theorem ten {α : Type} {l : List α} (h : l.length = 10) : ∃ a b c d e f g i j k, l = [a, b, c, d, e, f, g, i, j, k] := by
  match l, h with
  | [a, b, c, d, e, f, g, i, j, k], _ => exact ⟨a, b, c, d, e, f, g, i, j, k, rfl⟩

theorem open_bpdu {r : Reach} {b0 : Nat} {v : Value} {d : DataW H} {p : List MemPlace} (hv : Value.okWide Tryd.prog w r b0 26 v) (h : DataW.Trod enc Tryd.prog w base spare held 26 v d p) :
    ∃ (k f r c b p a m h d : Int), v = bv k f r c b p a m h d ∧ Bp.ok ⟨k, f, r, c, b, p, a, m, h, d⟩ := by
  obtain ⟨fs, ht, hts⟩ := uBp
  obtain ⟨gs, gt, gts⟩ := uVec
  obtain ⟨cs, rfl, hsz⟩ := okWide_struct ht hv
  obtain ⟨l⟩ := cs
  rw [cBp] at hsz
  obtain ⟨c0, c1, c2, c3, c4, c5, c6, c7, c8, c9, rfl⟩ := ten (l := l) hsz
  obtain ⟨fuel, hf⟩ := h
  have hf' : DataW.trod enc Tryd.prog w base spare held fuel 26 [c0, c1, c2, c3, c4, c5, c6, c7, c8, c9] = some (d, p) := hf
  have F := fun i T o hi => part_of ht hts hf' i T o hi
  obtain ⟨n0, y0, k0⟩ := F 0 _ _ rfl
  obtain ⟨n1, y1, k1⟩ := F 1 _ _ rfl
  obtain ⟨n2, y2, k2⟩ := F 2 _ _ rfl
  obtain ⟨n3, y3, k3⟩ := F 3 _ _ rfl
  obtain ⟨n4, y4, k4⟩ := F 4 _ _ rfl
  obtain ⟨n5, y5, k5⟩ := F 5 _ _ rfl
  obtain ⟨n6, y6, k6⟩ := F 6 _ _ rfl
  rw [cInt] at k0 k1 k3 k4 k5 k6
  rw [cVec] at k2
  have k2' : DataW.trod enc Tryd.prog w base spare held n2 24 [c2, c3, c4, c5] = some y2 := k2
  have G := fun i T o hi => part_of gt gts k2' i T o hi
  obtain ⟨m0, z0, j0⟩ := G 0 _ _ rfl
  obtain ⟨m1, z1, j1⟩ := G 1 _ _ rfl
  obtain ⟨m2, z2, j2⟩ := G 2 _ _ rfl
  obtain ⟨m3, z3, j3⟩ := G 3 _ _ rfl
  rw [cU64] at j0 j1 j2 j3
  obtain ⟨x0, e0, _, _⟩ := DataW.trod_int Tryd.underlying3 (show DataW.trod enc Tryd.prog w base spare held n0 3 [c0] = some y0 from k0)
  obtain ⟨x1, e1, _, _⟩ := DataW.trod_int Tryd.underlying3 (show DataW.trod enc Tryd.prog w base spare held n1 3 [c1] = some y1 from k1)
  obtain ⟨x2, e2, _, w2⟩ := DataW.trod_int Tryd.underlying22 (show DataW.trod enc Tryd.prog w base spare held m0 22 [c2] = some z0 from j0)
  obtain ⟨x3, e3, _, w3⟩ := DataW.trod_int Tryd.underlying22 (show DataW.trod enc Tryd.prog w base spare held m1 22 [c3] = some z1 from j1)
  obtain ⟨x4, e4, _, w4⟩ := DataW.trod_int Tryd.underlying22 (show DataW.trod enc Tryd.prog w base spare held m2 22 [c4] = some z2 from j2)
  obtain ⟨x5, e5, _, w5⟩ := DataW.trod_int Tryd.underlying22 (show DataW.trod enc Tryd.prog w base spare held m3 22 [c5] = some z3 from j3)
  obtain ⟨x6, e6, _, _⟩ := DataW.trod_int Tryd.underlying3 (show DataW.trod enc Tryd.prog w base spare held n3 3 [c6] = some y3 from k3)
  obtain ⟨x7, e7, _, _⟩ := DataW.trod_int Tryd.underlying3 (show DataW.trod enc Tryd.prog w base spare held n4 3 [c7] = some y4 from k4)
  obtain ⟨x8, e8, _, _⟩ := DataW.trod_int Tryd.underlying3 (show DataW.trod enc Tryd.prog w base spare held n5 3 [c8] = some y5 from k5)
  obtain ⟨x9, e9, _, _⟩ := DataW.trod_int Tryd.underlying3 (show DataW.trod enc Tryd.prog w base spare held n6 3 [c9] = some y6 from k6)
  simp only [List.cons.injEq, and_true] at e0 e1 e2 e3 e4 e5 e6 e7 e8 e9
  subst e0 e1 e2 e3 e4 e5 e6 e7 e8 e9
  exact ⟨x0, x1, x2, x3, x4, x5, x6, x7, x8, x9, rfl, wf_u64 w2, wf_u64 w3, wf_u64 w4, wf_u64 w5⟩
end
end Go.Proofs.YtaifkepojfhgkaaDoor
