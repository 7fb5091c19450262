/-
  Layer 15: setups and acts among the arguments; the table of told roles, as the row lists it; a start that meets it.
-/
import Derived.Test.YtldobcfejldbiaaGreatDoorMbc
import Derived.Test.YtldobcfejldbiaaGreatDoorMbk
import Derived.Test.YtldobcfejldbiaaGreatDoorTie
import Derived.Test.YtldobcfejldbiaaGreatDoorCards
import Derived.LaidMore
import Derived.Stop.Joined
namespace Go.Proofs.YtldobcfejldbiaaGreatDoor
set_option linter.unusedVariables false
set_option linter.unusedSimpArgs false
open Go.ChangeShapes Go.WideShapes Go.ChangeAt Go.WideMaps Go.WideElems Go.RowKit Go.Joins Go.Deep Vm Rm Bm Im

def laidRoles : List (String × DataW Unit) := [("treebridge/state.toldRoles", Rows.laid_treebridge_state_toldRoles)]
theorem gRoles : Tryz.prog.globalNamed "treebridge/state.toldRoles" = some 0 := by kernel_rfl
theorem tRoles : (Tryz.prog.globals[0]?).map (·.type) = some 251 := by kernel_rfl
theorem cRoles : Tryz.prog.cellsOf 251 = 5 := by kernel_rfl
theorem uRoles : Tryz.prog.underlying 251 = some (.array 5 3) := by kernel_rfl
/-- The door's own heap meets the condition. -/
theorem door_met (os : Os) (args : Array Value) : laidMetH Tryz.prog laidRoles ((World.doorLaid Tryz.prog 400 os).forCall (fun _ _ => 0) ⟨#[], args, []⟩).memory :=
  laidMetH_of_parts3 (fuel := 8) (laidMet_of_run' 8 (by kernel_rfl) (by kernel_rfl)) (by kernel_rfl) (by kernel_rfl)

set_option maxRecDepth 100000 in
set_option maxHeartbeats 4000000 in
theorem roles_of_laid {W : World} (h : laidMetH Tryz.prog laidRoles W) : TRoles W := by
  rw [MakeChecks.laidMetH_plain _ _ _ (by kernel_rfl)] at h
  obtain ⟨ps, ⟨g, t, cs, f, p, q, hg, ht, hv, hd, _, _⟩, _, _⟩ := h
  obtain rfl := Option.some.inj (gRoles.symm.trans hg)
  obtain rfl := Option.some.inj (tRoles.symm.trans ht)
  obtain ⟨xs, m, _, hx, hlen, hn, hel⟩ := DataW.trod_array uRoles hd
  rw [cRoles] at hlen
  have k0 := hel 0 (by decide)
  have k1 := hel 1 (by decide)
  have k2 := hel 2 (by decide)
  have k3 := hel 3 (by decide)
  have k4 := hel 4 (by decide)
  rw [cInt] at k0 k1 k2 k3 k4
  obtain ⟨l⟩ := cs
  have hlen' : l.length = 5 := by simpa using hlen
  match l, hlen', xs, hn, hx, k0, k1, k2, k3, k4, hv with
  | [c0, c1, c2, c3, c4], _, [y0, y1, y2, y3, y4], _, hx, k0, k1, k2, k3, k4, hv =>
    simp [Rows.laid_treebridge_state_toldRoles] at hx
    obtain ⟨⟨x0, x1, x2, x3, x4⟩, _⟩ := hx
    obtain ⟨n0, a0, e0, _⟩ := DataW.trod_int Tryz.underlying3 (show DataW.trod _ Tryz.prog W 0 _ _ m 3 [c0] = some y0 from k0)
    obtain ⟨n1, a1, e1, _⟩ := DataW.trod_int Tryz.underlying3 (show DataW.trod _ Tryz.prog W 0 _ _ m 3 [c1] = some y1 from k1)
    obtain ⟨n2, a2, e2, _⟩ := DataW.trod_int Tryz.underlying3 (show DataW.trod _ Tryz.prog W 0 _ _ m 3 [c2] = some y2 from k2)
    obtain ⟨n3, a3, e3, _⟩ := DataW.trod_int Tryz.underlying3 (show DataW.trod _ Tryz.prog W 0 _ _ m 3 [c3] = some y3 from k3)
    obtain ⟨n4, a4, e4, _⟩ := DataW.trod_int Tryz.underlying3 (show DataW.trod _ Tryz.prog W 0 _ _ m 3 [c4] = some y4 from k4)
    subst e0 e1 e2 e3 e4
    simp at x0 x1 x2 x3 x4 a0 a1 a2 a3 a4
    subst x0 x1 x2 x3 x4 a0 a1 a2 a3 a4
    have cell := fun i => World.var?_cell hg hv i
    exact ⟨by simpa using cell 0, by simpa using cell 1, by simpa using cell 2, by simpa using cell 3, by simpa using cell 4⟩

theorem cSu : Tryz.prog.cellsOf 82 = 3 := by kernel_rfl
theorem cAc : Tryz.prog.cellsOf 51 = 13 := by kernel_rfl
theorem uSu : ∃ fs : Array Field, Tryz.prog.underlying 82 = some (.struct fs) ∧ fs.map (fun f => (f.type, f.offset)) = #[(22, 0), (22, 1), (4, 2)] :=
  ⟨_, Tryz.underlying82, by kernel_rfl⟩
theorem uAc : ∃ fs : Array Field, Tryz.prog.underlying 51 = some (.struct fs) ∧ fs.map (fun f => (f.type, f.offset)) = #[(3, 0), (3, 1), (4, 2), (49, 3)] :=
  ⟨_, Tryz.underlying51, by kernel_rfl⟩
theorem three_of {α : Type} {l : List α} (h : l.length = 3) : ∃ a b c, l = [a, b, c] := by
  match l, h with
  | [a, b, c], _ => exact ⟨a, b, c, rfl⟩
theorem thirteen_of {α : Type} {l : List α} (h : l.length = 13) : ∃ a b c r, l = a :: b :: c :: r ∧ r.length = 10 := by
  match l, h with
  | a :: b :: c :: r, h => exact ⟨a, b, c, r, rfl, by simpa using h⟩
instance : Inhabited Su := ⟨⟨0, 0, false⟩⟩
instance : Inhabited A15 := ⟨⟨0, 0, false, zeroM⟩⟩
section
variable {H : Type} {enc : TypeId × Value → H} {w : World} {base : Nat} {spare : Nat → Bool} {held : Bool}

set_option maxRecDepth 100000 in
theorem cells_bp {fuel : Nat} {cs : List Value} {x : DataW H × List MemPlace} (hl : cs.length = 10) (h : DataW.trod enc Tryz.prog w base spare held fuel 49 cs = some x) :
    ∃ q : Bp, cs = (cellsB q).toList ∧ BpOk q := by
  obtain ⟨fs, ht, hts⟩ := uBp
  obtain ⟨gs, gt, gts⟩ := uVec
  obtain ⟨c0, c1, c2, c3, c4, c5, c6, c7, c8, c9, rfl⟩ := ten hl
  have hf' := h
  have F := fun i T o hi => part_of ht hts hf' i T o hi
  obtain ⟨n0, y0, k0⟩ := F 0 _ _ rfl
  obtain ⟨n1, y1, k1⟩ := F 1 _ _ rfl
  obtain ⟨n2, y2, k2⟩ := F 2 _ _ rfl
  obtain ⟨n3, y3, k3⟩ := F 3 _ _ rfl
  obtain ⟨n4, y4, k4⟩ := F 4 _ _ rfl
  obtain ⟨n5, y5, k5⟩ := F 5 _ _ rfl
  obtain ⟨n6, y6, k6⟩ := F 6 _ _ rfl
  rw [cInt] at k0 k1 k3 k4 k5 k6
  rw [cVec] at k2
  have k2' : DataW.trod enc Tryz.prog w base spare held n2 47 [c2, c3, c4, c5] = some y2 := k2
  have G := fun i T o hi => part_of gt gts k2' i T o hi
  obtain ⟨m0, z0, j0⟩ := G 0 _ _ rfl
  obtain ⟨m1, z1, j1⟩ := G 1 _ _ rfl
  obtain ⟨m2, z2, j2⟩ := G 2 _ _ rfl
  obtain ⟨m3, z3, j3⟩ := G 3 _ _ rfl
  rw [cU64] at j0 j1 j2 j3
  obtain ⟨x0, e0, _, _⟩ := DataW.trod_int Tryz.underlying3 (show DataW.trod enc Tryz.prog w base spare held n0 3 [c0] = some y0 from k0)
  obtain ⟨x1, e1, _, _⟩ := DataW.trod_int Tryz.underlying3 (show DataW.trod enc Tryz.prog w base spare held n1 3 [c1] = some y1 from k1)
  obtain ⟨x2, e2, _, w2⟩ := DataW.trod_int Tryz.underlying22 (show DataW.trod enc Tryz.prog w base spare held m0 22 [c2] = some z0 from j0)
  obtain ⟨x3, e3, _, w3⟩ := DataW.trod_int Tryz.underlying22 (show DataW.trod enc Tryz.prog w base spare held m1 22 [c3] = some z1 from j1)
  obtain ⟨x4, e4, _, w4⟩ := DataW.trod_int Tryz.underlying22 (show DataW.trod enc Tryz.prog w base spare held m2 22 [c4] = some z2 from j2)
  obtain ⟨x5, e5, _, w5⟩ := DataW.trod_int Tryz.underlying22 (show DataW.trod enc Tryz.prog w base spare held m3 22 [c5] = some z3 from j3)
  obtain ⟨x6, e6, _, _⟩ := DataW.trod_int Tryz.underlying3 (show DataW.trod enc Tryz.prog w base spare held n3 3 [c6] = some y3 from k3)
  obtain ⟨x7, e7, _, _⟩ := DataW.trod_int Tryz.underlying3 (show DataW.trod enc Tryz.prog w base spare held n4 3 [c7] = some y4 from k4)
  obtain ⟨x8, e8, _, _⟩ := DataW.trod_int Tryz.underlying3 (show DataW.trod enc Tryz.prog w base spare held n5 3 [c8] = some y5 from k5)
  obtain ⟨x9, e9, _, _⟩ := DataW.trod_int Tryz.underlying3 (show DataW.trod enc Tryz.prog w base spare held n6 3 [c9] = some y6 from k6)
  simp only [List.cons.injEq, and_true] at e0 e1 e2 e3 e4 e5 e6 e7 e8 e9
  subst e0 e1 e2 e3 e4 e5 e6 e7 e8 e9
  exact ⟨⟨x0, x1, x2, x3, x4, x5, x6, x7, x8, x9⟩, rfl, ⟨wf_u64 w2, wf_u64 w3, wf_u64 w4, wf_u64 w5⟩⟩

theorem cells_su {fuel : Nat} {cs : List Value} {x : DataW H × List MemPlace} (hl : cs.length = 3) (h : DataW.trod enc Tryz.prog w base spare held fuel 82 cs = some x) :
    ∃ s : Su, cs = [.int .u64 s.id, .int .u64 s.cost, .bool s.edge] ∧ Vm.u64B s.id ∧ Vm.u64B s.cost := by
  obtain ⟨gs, gt, gts⟩ := uSu
  obtain ⟨c0, c1, c2, rfl⟩ := three_of hl
  have G := fun i T o hi => part_of gt gts h i T o hi
  obtain ⟨m0, z0, j0⟩ := G 0 _ _ rfl
  obtain ⟨m1, z1, j1⟩ := G 1 _ _ rfl
  obtain ⟨m2, z2, j2⟩ := G 2 _ _ rfl
  rw [cU64] at j0 j1
  rw [cBool] at j2
  obtain ⟨x0, e0, _, w0⟩ := DataW.trod_int Tryz.underlying22 (show DataW.trod enc Tryz.prog w base spare held m0 22 [c0] = some z0 from j0)
  obtain ⟨x1, e1, _, w1⟩ := DataW.trod_int Tryz.underlying22 (show DataW.trod enc Tryz.prog w base spare held m1 22 [c1] = some z1 from j1)
  obtain ⟨x2, e2, _⟩ := DataW.trod_bool Tryz.underlying4 (show DataW.trod enc Tryz.prog w base spare held m2 4 [c2] = some z2 from j2)
  simp only [List.cons.injEq, and_true] at e0 e1 e2
  subst e0 e1 e2
  exact ⟨⟨x0, x1, x2⟩, rfl, wf_u64 w0, wf_u64 w1⟩
theorem cells_act {fuel : Nat} {cs : List Value} {x : DataW H × List MemPlace} (hl : cs.length = 13) (h : DataW.trod enc Tryz.prog w base spare held fuel 51 cs = some x) :
    ∃ y : A15, cs = (cellsA y).toList ∧ y.ok := by
  obtain ⟨gs, gt, gts⟩ := uAc
  obtain ⟨c0, c1, c2, r, rfl, hr⟩ := thirteen_of hl
  have G := fun i T o hi => part_of gt gts h i T o hi
  obtain ⟨m0, z0, j0⟩ := G 0 _ _ rfl
  obtain ⟨m1, z1, j1⟩ := G 1 _ _ rfl
  obtain ⟨m2, z2, j2⟩ := G 2 _ _ rfl
  obtain ⟨m3, z3, j3⟩ := G 3 _ _ rfl
  rw [cInt] at j0 j1
  rw [cBool] at j2
  rw [cBp] at j3
  have e3 : (List.drop 3 (c0 :: c1 :: c2 :: r)).take 10 = r := by
    show r.take 10 = r
    exact List.take_of_length_le (by omega)
  rw [e3] at j3
  obtain ⟨q, rfl, ok⟩ := cells_bp hr j3
  obtain ⟨x0, e0, _, _⟩ := DataW.trod_int Tryz.underlying3 (show DataW.trod enc Tryz.prog w base spare held m0 3 [c0] = some z0 from j0)
  obtain ⟨x1, e1, _, _⟩ := DataW.trod_int Tryz.underlying3 (show DataW.trod enc Tryz.prog w base spare held m1 3 [c1] = some z1 from j1)
  obtain ⟨x2, e2, _⟩ := DataW.trod_bool Tryz.underlying4 (show DataW.trod enc Tryz.prog w base spare held m2 4 [c2] = some z2 from j2)
  simp only [List.cons.injEq, and_true] at e0 e1 e2
  subst e0 e1 e2
  exact ⟨⟨x0, x1, x2, q⟩, rfl, ok, ok.root, ok.cost, ok.bridge, ok.port⟩

set_option maxRecDepth 20000 in
theorem open_sus {v : Value} {d : DataW H} {p : List MemPlace} {r : Reach} {b0 : Nat} (hv : Value.okWide Tryz.prog w r b0 27 v) (h : DataW.Trod enc Tryz.prog w base spare held 27 v d p) :
    ∃ (a : Option Addr) (cap : Nat) (l : List Su), v = .slice a l.length cap ∧ SuRow w a l ∧ ∀ s ∈ l, Vm.u64B s.id ∧ Vm.u64B s.cost := by
  obtain ⟨a0, len0, cap0, rfl⟩ := okWide_slice Tryz.underlying27 hv
  obtain ⟨fuel, hf⟩ := h
  refine ⟨a0, cap0, ?_⟩
  rcases open_slice Tryz.underlying27 hf with ⟨hcs, _⟩ | ⟨x, len, cap, m, n, D, Pl, hcs, hb, hl, hm, hmm, _, hel⟩
  · simp [Value.cells] at hcs
    obtain ⟨rfl, rfl, rfl⟩ := hcs
    exact ⟨[], rfl, ⟨fun j x h => by simp at h⟩, fun x h => by cases h⟩
  · simp [Value.cells] at hcs
    obtain ⟨rfl, rfl, rfl⟩ := hcs
    have hlm : len0 ≤ m := by rw [hmm]; split <;> omega
    by_cases hz : len0 = 0
    · subst hz
      exact ⟨[], rfl, ⟨fun j x h => by simp at h⟩, fun x h => by cases h⟩
    rw [cSu] at hel
    have key : ∀ i, i < len0 → ∃ v : Su, (∀ j, j < 3 → w.cell? ((x.add (i * 3)).add j) = ([Value.int .u64 v.id, .int .u64 v.cost, .bool v.edge])[j]?) ∧ (Vm.u64B v.id ∧ Vm.u64B v.cost) := by
      intro i hi
      obtain ⟨cs', h1, h2⟩ := hel i (by omega)
      obtain ⟨_, hlen, hc⟩ := World.cells?_some h1
      obtain ⟨v, rfl, ok⟩ := cells_su hlen h2
      exact ⟨v, hc, ok⟩
    obtain ⟨f, hf⟩ := choose_lt key
    obtain ⟨xb, off, spot⟩ := x
    have c0 := (hf 0 (by omega)).1 0 (by omega)
    have hspot : spot = none := by simpa [Addr.add] using World.cell?_spot (c0.trans (by rfl))
    subst hspot
    refine ⟨(List.range len0).map f, by simp, ⟨?_⟩, ?_⟩
    · intro k v hv
      have hk : k < len0 := by
        have := (List.getElem?_eq_some_iff.1 hv).1
        simpa using this
      have e : v = f k := by simp [hk] at hv; exact hv.symm
      subst e
      have g := fun j hj => (hf k hk).1 j hj
      simp only [Addr.add_mid] at g
      have g0 := g 0 (by omega)
      refine ⟨xb, off, rfl, World.block_lt_of_cell? _ _ (g0.trans rfl), fun c v hv => ?_⟩
      have hc : c < 3 := (List.getElem?_eq_some_iff.1 hv).1
      rw [g c hc, hv]
    · intro v hv
      obtain ⟨k, hk, rfl⟩ := List.mem_map.1 hv
      exact (hf k (List.mem_range.1 hk)).2

set_option maxRecDepth 20000 in
theorem open_acts {v : Value} {d : DataW H} {p : List MemPlace} {r : Reach} {b0 : Nat} (hv : Value.okWide Tryz.prog w r b0 28 v) (h : DataW.Trod enc Tryz.prog w base spare held 28 v d p) :
    ∃ (a : Option Addr) (cap : Nat) (l : List A15), v = .slice a l.length cap ∧ ARow w a l := by
  obtain ⟨a0, len0, cap0, rfl⟩ := okWide_slice Tryz.underlying28 hv
  obtain ⟨fuel, hf⟩ := h
  refine ⟨a0, cap0, ?_⟩
  rcases open_slice Tryz.underlying28 hf with ⟨hcs, _⟩ | ⟨x, len, cap, m, n, D, Pl, hcs, hb, hl, hm, hmm, _, hel⟩
  · simp [Value.cells] at hcs
    obtain ⟨rfl, rfl, rfl⟩ := hcs
    exact ⟨[], rfl, ⟨fun j x h => by simp at h, fun x h => by cases h⟩⟩
  · simp [Value.cells] at hcs
    obtain ⟨rfl, rfl, rfl⟩ := hcs
    have hlm : len0 ≤ m := by rw [hmm]; split <;> omega
    by_cases hz : len0 = 0
    · subst hz
      exact ⟨[], rfl, ⟨fun j x h => by simp at h, fun x h => by cases h⟩⟩
    rw [cAc] at hel
    have key : ∀ i, i < len0 → ∃ v : A15, (∀ j, j < 13 → w.cell? ((x.add (i * 13)).add j) = ((cellsA v).toList)[j]?) ∧ v.ok := by
      intro i hi
      obtain ⟨cs', h1, h2⟩ := hel i (by omega)
      obtain ⟨_, hlen, hc⟩ := World.cells?_some h1
      obtain ⟨v, rfl, ok⟩ := cells_act hlen h2
      exact ⟨v, hc, ok⟩
    obtain ⟨f, hf⟩ := choose_lt key
    obtain ⟨xb, off, spot⟩ := x
    have c0 := (hf 0 (by omega)).1 0 (by omega)
    have hspot : spot = none := by simpa [Addr.add] using World.cell?_spot (c0.trans (by rfl))
    subst hspot
    refine ⟨(List.range len0).map f, by simp, ⟨?_, ?_⟩⟩
    · intro k v hv
      have hk : k < len0 := by
        have := (List.getElem?_eq_some_iff.1 hv).1
        simpa using this
      have e : v = f k := by simp [hk] at hv; exact hv.symm
      subst e
      have g := fun j hj => (hf k hk).1 j hj
      simp only [Addr.add_mid] at g
      have g0 := g 0 (by omega)
      refine ⟨xb, off, rfl, World.block_lt_of_cell? _ _ (g0.trans rfl), fun c v hv => ?_⟩
      have hc : c < 13 := (List.getElem?_eq_some_iff.1 hv).1
      rw [g c hc, hv]
    · intro v hv
      obtain ⟨k, hk, rfl⟩ := List.mem_map.1 hv
      exact (hf k (List.mem_range.1 hk)).2

end
end Go.Proofs.YtldobcfejldbiaaGreatDoor
