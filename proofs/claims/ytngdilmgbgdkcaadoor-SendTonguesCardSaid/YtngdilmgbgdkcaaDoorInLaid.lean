/-
  Layer 11: a port (61 cells), a BPDU, a bridge, a row of ports among the arguments.
-/
import Derived.Test.YtngdilmgbgdkcaaDoorInY
import Derived.ProofKit
import Derived.OpenShut
import Derived.ShutString
import Derived.ChangeOld
import Derived.Deep.Fields
import Derived.Deep.Slices
import Derived.Lib.SmallJoins
namespace Go.Proofs.YtngdilmgbgdkcaaDoor
set_option linter.unusedVariables false
set_option linter.unusedSimpArgs false
open Go.ChangeShapes Go.WideShapes Go.ChangeAt Go.RowKit Go.Joins Go.Deep Vm Rm Bm Im

theorem own : ownKnob Tryd.prog.godebug = none := by kernel_rfl
theorem laidOut : laidOutB Tryd.prog = true := by kernel_rfl
theorem cInt : Tryd.prog.cellsOf 3 = 1 := by kernel_rfl
theorem cU64 : Tryd.prog.cellsOf 22 = 1 := by kernel_rfl
theorem cBool : Tryd.prog.cellsOf 4 = 1 := by kernel_rfl
theorem cVec : Tryd.prog.cellsOf 28 = 4 := by kernel_rfl
theorem cTm : Tryd.prog.cellsOf 24 = 4 := by kernel_rfl
theorem cBp : Tryd.prog.cellsOf 34 = 10 := by kernel_rfl
theorem cBr : Tryd.prog.cellsOf 26 = 5 := by kernel_rfl
theorem cPt : Tryd.prog.cellsOf 30 = 61 := by kernel_rfl
theorem uVec : ∃ fs : Array Field, Tryd.prog.underlying 28 = some (.struct fs) ∧ fs.map (fun f => (f.type, f.offset)) = #[(22, 0), (22, 1), (22, 2), (22, 3)] :=
  ⟨_, Tryd.underlying28, by kernel_rfl⟩
theorem uTm : ∃ fs : Array Field, Tryd.prog.underlying 24 = some (.struct fs) ∧ fs.map (fun f => (f.type, f.offset)) = #[(3, 0), (3, 1), (3, 2), (3, 3)] :=
  ⟨_, Tryd.underlying24, by kernel_rfl⟩
theorem uBp : ∃ fs : Array Field, Tryd.prog.underlying 34 = some (.struct fs) ∧ fs.map (fun f => (f.type, f.offset)) = #[(3, 0), (3, 1), (28, 2), (3, 6), (3, 7), (3, 8), (3, 9)] :=
  ⟨_, Tryd.underlying34, by kernel_rfl⟩
theorem uBr : ∃ fs : Array Field, Tryd.prog.underlying 26 = some (.struct fs) ∧ fs.map (fun f => (f.type, f.offset)) = #[(22, 0), (24, 1)] :=
  ⟨_, Tryd.underlying26, by kernel_rfl⟩

theorem uPt : ∃ fs : Array Field, Tryd.prog.underlying 30 = some (.struct fs) ∧ fs.map (fun f => (f.type, f.offset)) = #[(22, 0), (22, 1), (4, 2), (4, 3), (4, 4), (3, 5), (28, 6), (24, 10), (28, 14), (24, 18), (3, 22), (3, 23), (4, 24), (4, 25), (4, 26), (4, 27), (4, 28), (4, 29), (4, 30), (4, 31), (4, 32), (4, 33), (4, 34), (4, 35), (4, 36), (4, 37), (4, 38), (4, 39), (4, 40), (4, 41), (4, 42), (4, 43), (4, 44), (4, 45), (4, 46), (4, 47), (4, 48), (4, 49), (3, 50), (3, 51), (3, 52), (3, 53), (3, 54), (3, 55), (3, 56), (3, 57), (3, 58), (3, 59), (3, 60)] :=
  ⟨_, Tryd.underlying30, by kernel_rfl⟩

theorem wf_u64 {n : Int} (h : (Lit.int .u64 n).wf = true) : Vm.u64B n := by
  have e1 : IntKind.u64.min = 0 := by decide
  have e2 : IntKind.u64.max = 18446744073709551615 := by decide
  simp [Lit.wf, e1, e2] at h
  unfold Vm.u64B
  omega

theorem wf_i64 {n : Int} (h : (Lit.int .i64 n).wf = true) : inI64 n := by
  have e1 : IntKind.i64.min = -9223372036854775808 := by decide
  have e2 : IntKind.i64.max = 9223372036854775807 := by decide
  simp [Lit.wf, e1, e2] at h
  unfold inI64
  omega
instance : Inhabited Inf := ⟨⟨0, 0, 0, ⟨0, 0, 0, 0⟩⟩⟩

theorem fieldAt {fs : Array Field} {ts : Array (TypeId × Nat)} (h : fs.map (fun f => (f.type, f.offset)) = ts) (i : Nat) (T : TypeId) (o : Nat) (hi : ts[i]? = some (T, o)) : ∃ f, fs[i]? = some f ∧ f.type = T ∧ f.offset = o := by
  rw [← h, Array.getElem?_map, Option.map_eq_some_iff] at hi
  obtain ⟨f, hf, he⟩ := hi
  simp at he
  exact ⟨f, hf, he.1, he.2⟩

theorem four_of {α : Type} {l : List α} (h : l.length = 4) : ∃ a b c d, l = [a, b, c, d] := by
  match l, h with
  | [a, b, c, d], _ => exact ⟨a, b, c, d, rfl⟩

section
variable {H : Type} {enc : TypeId × Value → H} {w : World} {base : Nat} {spare : Nat → Bool} {held : Bool}

theorem part_of {fs : Array Field} {ts : Array (TypeId × Nat)} {t : TypeId} {fuel : Nat} {cs : List Value} {x : DataW H × List MemPlace} (hu : Tryd.prog.underlying t = some (.struct fs)) (hts : fs.map (fun f => (f.type, f.offset)) = ts)
    (h : DataW.trod enc Tryd.prog w base spare held fuel t cs = some x) (i : Nat) (T : TypeId) (o : Nat) (hi : ts[i]? = some (T, o)) :
    ∃ n y, DataW.trod enc Tryd.prog w base spare held n T ((cs.drop o).take (Tryd.prog.cellsOf T)) = some y := by
  obtain ⟨ys, n, _, _, _, hyl, hf⟩ := DataW.trod_struct hu h
  obtain ⟨f, hfi, rfl, rfl⟩ := fieldAt hts i T o hi
  have h1 := hf i f hfi
  have hil : i < ys.length := by rw [hyl]; exact (Array.getElem?_eq_some_iff.1 hfi).1
  rw [List.getElem?_eq_getElem hil] at h1
  exact ⟨n, _, h1⟩

/-- Four cells that are read as a vector. -/
theorem cells_vec {fuel : Nat} {cs : List Value} {x : DataW H × List MemPlace} (hl : cs.length = 4) (h : DataW.trod enc Tryd.prog w base spare held fuel 28 cs = some x) :
    ∃ v : Vc, cs = [.int .u64 v.root, .int .u64 v.cost, .int .u64 v.bridge, .int .u64 v.port] ∧ v.ok := by
  obtain ⟨gs, gt, gts⟩ := uVec
  obtain ⟨c0, c1, c2, c3, rfl⟩ := four_of hl
  have G := fun i T o hi => part_of gt gts h i T o hi
  obtain ⟨m0, z0, j0⟩ := G 0 _ _ rfl
  obtain ⟨m1, z1, j1⟩ := G 1 _ _ rfl
  obtain ⟨m2, z2, j2⟩ := G 2 _ _ rfl
  obtain ⟨m3, z3, j3⟩ := G 3 _ _ rfl
  rw [cU64] at j0 j1 j2 j3
  obtain ⟨x0, e0, _, w0⟩ := DataW.trod_int Tryd.underlying22 (show DataW.trod enc Tryd.prog w base spare held m0 22 [c0] = some z0 from j0)
  obtain ⟨x1, e1, _, w1⟩ := DataW.trod_int Tryd.underlying22 (show DataW.trod enc Tryd.prog w base spare held m1 22 [c1] = some z1 from j1)
  obtain ⟨x2, e2, _, w2⟩ := DataW.trod_int Tryd.underlying22 (show DataW.trod enc Tryd.prog w base spare held m2 22 [c2] = some z2 from j2)
  obtain ⟨x3, e3, _, w3⟩ := DataW.trod_int Tryd.underlying22 (show DataW.trod enc Tryd.prog w base spare held m3 22 [c3] = some z3 from j3)
  simp only [List.cons.injEq, and_true] at e0 e1 e2 e3
  subst e0 e1 e2 e3
  exact ⟨⟨x0, x1, x2, x3⟩, rfl, ⟨wf_u64 w0, wf_u64 w1, wf_u64 w2, wf_u64 w3⟩⟩

/-- Seven cells that are read as what is known of a port. -/

theorem cells_tm {fuel : Nat} {cs : List Value} {x : DataW H × List MemPlace} (hl : cs.length = 4) (h : DataW.trod enc Tryd.prog w base spare held fuel 24 cs = some x) :
    ∃ t : Tm, cs = [.int .i64 t.age, .int .i64 t.max, .int .i64 t.hello, .int .i64 t.delay] ∧ inI64 t.age := by
  obtain ⟨gs, gt, gts⟩ := uTm
  obtain ⟨c0, c1, c2, c3, rfl⟩ := four_of hl
  have G := fun i T o hi => part_of gt gts h i T o hi
  obtain ⟨m0, z0, j0⟩ := G 0 _ _ rfl
  obtain ⟨m1, z1, j1⟩ := G 1 _ _ rfl
  obtain ⟨m2, z2, j2⟩ := G 2 _ _ rfl
  obtain ⟨m3, z3, j3⟩ := G 3 _ _ rfl
  rw [cInt] at j0 j1 j2 j3
  obtain ⟨x0, e0, _, w0⟩ := DataW.trod_int Tryd.underlying3 (show DataW.trod enc Tryd.prog w base spare held m0 3 [c0] = some z0 from j0)
  obtain ⟨x1, e1, _, w1⟩ := DataW.trod_int Tryd.underlying3 (show DataW.trod enc Tryd.prog w base spare held m1 3 [c1] = some z1 from j1)
  obtain ⟨x2, e2, _, w2⟩ := DataW.trod_int Tryd.underlying3 (show DataW.trod enc Tryd.prog w base spare held m2 3 [c2] = some z2 from j2)
  obtain ⟨x3, e3, _, w3⟩ := DataW.trod_int Tryd.underlying3 (show DataW.trod enc Tryd.prog w base spare held m3 3 [c3] = some z3 from j3)
  simp only [List.cons.injEq, and_true] at e0 e1 e2 e3
  subst e0 e1 e2 e3
  exact ⟨⟨x0, x1, x2, x3⟩, rfl, wf_i64 w0⟩
theorem chunk_at {cs chunk : List Value} {o n o' : Nat} (h : (cs.drop o).take n = chunk) (ho : o' = o + n) : cs.drop o = chunk ++ cs.drop o' := by
  subst ho h
  rw [← List.drop_drop, List.take_append_drop]

set_option maxRecDepth 100000 in
set_option maxHeartbeats 4000000 in
theorem cells_pt {fuel : Nat} {cs : List Value} {x : DataW H × List MemPlace} (hl : cs.length = 61) (h : DataW.trod enc Tryd.prog w base spare held fuel 30 cs = some x) :
    ∃ p : Pt, cs = (cellsT p).toList ∧ PtOk p := by
  obtain ⟨fs, ht, hts⟩ := uPt
  have G := fun i T o hi => part_of ht hts h i T o hi
  obtain ⟨m0, z0, j0⟩ := G 0 22 0 rfl
  rw [cU64] at j0
  obtain ⟨x0, e0, _, w0⟩ := DataW.trod_int Tryd.underlying22 j0
  clear j0
  obtain ⟨m1, z1, j1⟩ := G 1 22 1 rfl
  rw [cU64] at j1
  obtain ⟨x1, e1, _, w1⟩ := DataW.trod_int Tryd.underlying22 j1
  clear j1
  obtain ⟨m2, z2, j2⟩ := G 2 4 2 rfl
  rw [cBool] at j2
  obtain ⟨x2, e2, _⟩ := DataW.trod_bool Tryd.underlying4 j2
  clear j2
  obtain ⟨m3, z3, j3⟩ := G 3 4 3 rfl
  rw [cBool] at j3
  obtain ⟨x3, e3, _⟩ := DataW.trod_bool Tryd.underlying4 j3
  clear j3
  obtain ⟨m4, z4, j4⟩ := G 4 4 4 rfl
  rw [cBool] at j4
  obtain ⟨x4, e4, _⟩ := DataW.trod_bool Tryd.underlying4 j4
  clear j4
  obtain ⟨m5, z5, j5⟩ := G 5 3 5 rfl
  rw [cInt] at j5
  obtain ⟨x5, e5, _, w5⟩ := DataW.trod_int Tryd.underlying3 j5
  clear j5
  obtain ⟨m6, z6, j6⟩ := G 6 28 6 rfl
  rw [cVec] at j6
  obtain ⟨x6, e6, w6⟩ := cells_vec (by rw [List.length_take, List.length_drop, hl]; rfl) j6
  clear j6
  obtain ⟨m7, z7, j7⟩ := G 7 24 10 rfl
  rw [cTm] at j7
  obtain ⟨x7, e7, w7⟩ := cells_tm (by rw [List.length_take, List.length_drop, hl]; rfl) j7
  clear j7
  obtain ⟨m8, z8, j8⟩ := G 8 28 14 rfl
  rw [cVec] at j8
  obtain ⟨x8, e8, w8⟩ := cells_vec (by rw [List.length_take, List.length_drop, hl]; rfl) j8
  clear j8
  obtain ⟨m9, z9, j9⟩ := G 9 24 18 rfl
  rw [cTm] at j9
  obtain ⟨x9, e9, w9⟩ := cells_tm (by rw [List.length_take, List.length_drop, hl]; rfl) j9
  clear j9
  obtain ⟨m10, z10, j10⟩ := G 10 3 22 rfl
  rw [cInt] at j10
  obtain ⟨x10, e10, _, w10⟩ := DataW.trod_int Tryd.underlying3 j10
  clear j10
  obtain ⟨m11, z11, j11⟩ := G 11 3 23 rfl
  rw [cInt] at j11
  obtain ⟨x11, e11, _, w11⟩ := DataW.trod_int Tryd.underlying3 j11
  clear j11
  obtain ⟨m12, z12, j12⟩ := G 12 4 24 rfl
  rw [cBool] at j12
  obtain ⟨x12, e12, _⟩ := DataW.trod_bool Tryd.underlying4 j12
  clear j12
  obtain ⟨m13, z13, j13⟩ := G 13 4 25 rfl
  rw [cBool] at j13
  obtain ⟨x13, e13, _⟩ := DataW.trod_bool Tryd.underlying4 j13
  clear j13
  obtain ⟨m14, z14, j14⟩ := G 14 4 26 rfl
  rw [cBool] at j14
  obtain ⟨x14, e14, _⟩ := DataW.trod_bool Tryd.underlying4 j14
  clear j14
  obtain ⟨m15, z15, j15⟩ := G 15 4 27 rfl
  rw [cBool] at j15
  obtain ⟨x15, e15, _⟩ := DataW.trod_bool Tryd.underlying4 j15
  clear j15
  obtain ⟨m16, z16, j16⟩ := G 16 4 28 rfl
  rw [cBool] at j16
  obtain ⟨x16, e16, _⟩ := DataW.trod_bool Tryd.underlying4 j16
  clear j16
  obtain ⟨m17, z17, j17⟩ := G 17 4 29 rfl
  rw [cBool] at j17
  obtain ⟨x17, e17, _⟩ := DataW.trod_bool Tryd.underlying4 j17
  clear j17
  obtain ⟨m18, z18, j18⟩ := G 18 4 30 rfl
  rw [cBool] at j18
  obtain ⟨x18, e18, _⟩ := DataW.trod_bool Tryd.underlying4 j18
  clear j18
  obtain ⟨m19, z19, j19⟩ := G 19 4 31 rfl
  rw [cBool] at j19
  obtain ⟨x19, e19, _⟩ := DataW.trod_bool Tryd.underlying4 j19
  clear j19
  obtain ⟨m20, z20, j20⟩ := G 20 4 32 rfl
  rw [cBool] at j20
  obtain ⟨x20, e20, _⟩ := DataW.trod_bool Tryd.underlying4 j20
  clear j20
  obtain ⟨m21, z21, j21⟩ := G 21 4 33 rfl
  rw [cBool] at j21
  obtain ⟨x21, e21, _⟩ := DataW.trod_bool Tryd.underlying4 j21
  clear j21
  obtain ⟨m22, z22, j22⟩ := G 22 4 34 rfl
  rw [cBool] at j22
  obtain ⟨x22, e22, _⟩ := DataW.trod_bool Tryd.underlying4 j22
  clear j22
  obtain ⟨m23, z23, j23⟩ := G 23 4 35 rfl
  rw [cBool] at j23
  obtain ⟨x23, e23, _⟩ := DataW.trod_bool Tryd.underlying4 j23
  clear j23
  obtain ⟨m24, z24, j24⟩ := G 24 4 36 rfl
  rw [cBool] at j24
  obtain ⟨x24, e24, _⟩ := DataW.trod_bool Tryd.underlying4 j24
  clear j24
  obtain ⟨m25, z25, j25⟩ := G 25 4 37 rfl
  rw [cBool] at j25
  obtain ⟨x25, e25, _⟩ := DataW.trod_bool Tryd.underlying4 j25
  clear j25
  obtain ⟨m26, z26, j26⟩ := G 26 4 38 rfl
  rw [cBool] at j26
  obtain ⟨x26, e26, _⟩ := DataW.trod_bool Tryd.underlying4 j26
  clear j26
  obtain ⟨m27, z27, j27⟩ := G 27 4 39 rfl
  rw [cBool] at j27
  obtain ⟨x27, e27, _⟩ := DataW.trod_bool Tryd.underlying4 j27
  clear j27
  obtain ⟨m28, z28, j28⟩ := G 28 4 40 rfl
  rw [cBool] at j28
  obtain ⟨x28, e28, _⟩ := DataW.trod_bool Tryd.underlying4 j28
  clear j28
  obtain ⟨m29, z29, j29⟩ := G 29 4 41 rfl
  rw [cBool] at j29
  obtain ⟨x29, e29, _⟩ := DataW.trod_bool Tryd.underlying4 j29
  clear j29
  obtain ⟨m30, z30, j30⟩ := G 30 4 42 rfl
  rw [cBool] at j30
  obtain ⟨x30, e30, _⟩ := DataW.trod_bool Tryd.underlying4 j30
  clear j30
  obtain ⟨m31, z31, j31⟩ := G 31 4 43 rfl
  rw [cBool] at j31
  obtain ⟨x31, e31, _⟩ := DataW.trod_bool Tryd.underlying4 j31
  clear j31
  obtain ⟨m32, z32, j32⟩ := G 32 4 44 rfl
  rw [cBool] at j32
  obtain ⟨x32, e32, _⟩ := DataW.trod_bool Tryd.underlying4 j32
  clear j32
  obtain ⟨m33, z33, j33⟩ := G 33 4 45 rfl
  rw [cBool] at j33
  obtain ⟨x33, e33, _⟩ := DataW.trod_bool Tryd.underlying4 j33
  clear j33
  obtain ⟨m34, z34, j34⟩ := G 34 4 46 rfl
  rw [cBool] at j34
  obtain ⟨x34, e34, _⟩ := DataW.trod_bool Tryd.underlying4 j34
  clear j34
  obtain ⟨m35, z35, j35⟩ := G 35 4 47 rfl
  rw [cBool] at j35
  obtain ⟨x35, e35, _⟩ := DataW.trod_bool Tryd.underlying4 j35
  clear j35
  obtain ⟨m36, z36, j36⟩ := G 36 4 48 rfl
  rw [cBool] at j36
  obtain ⟨x36, e36, _⟩ := DataW.trod_bool Tryd.underlying4 j36
  clear j36
  obtain ⟨m37, z37, j37⟩ := G 37 4 49 rfl
  rw [cBool] at j37
  obtain ⟨x37, e37, _⟩ := DataW.trod_bool Tryd.underlying4 j37
  clear j37
  obtain ⟨m38, z38, j38⟩ := G 38 3 50 rfl
  rw [cInt] at j38
  obtain ⟨x38, e38, _, w38⟩ := DataW.trod_int Tryd.underlying3 j38
  clear j38
  obtain ⟨m39, z39, j39⟩ := G 39 3 51 rfl
  rw [cInt] at j39
  obtain ⟨x39, e39, _, w39⟩ := DataW.trod_int Tryd.underlying3 j39
  clear j39
  obtain ⟨m40, z40, j40⟩ := G 40 3 52 rfl
  rw [cInt] at j40
  obtain ⟨x40, e40, _, w40⟩ := DataW.trod_int Tryd.underlying3 j40
  clear j40
  obtain ⟨m41, z41, j41⟩ := G 41 3 53 rfl
  rw [cInt] at j41
  obtain ⟨x41, e41, _, w41⟩ := DataW.trod_int Tryd.underlying3 j41
  clear j41
  obtain ⟨m42, z42, j42⟩ := G 42 3 54 rfl
  rw [cInt] at j42
  obtain ⟨x42, e42, _, w42⟩ := DataW.trod_int Tryd.underlying3 j42
  clear j42
  obtain ⟨m43, z43, j43⟩ := G 43 3 55 rfl
  rw [cInt] at j43
  obtain ⟨x43, e43, _, w43⟩ := DataW.trod_int Tryd.underlying3 j43
  clear j43
  obtain ⟨m44, z44, j44⟩ := G 44 3 56 rfl
  rw [cInt] at j44
  obtain ⟨x44, e44, _, w44⟩ := DataW.trod_int Tryd.underlying3 j44
  clear j44
  obtain ⟨m45, z45, j45⟩ := G 45 3 57 rfl
  rw [cInt] at j45
  obtain ⟨x45, e45, _, w45⟩ := DataW.trod_int Tryd.underlying3 j45
  clear j45
  obtain ⟨m46, z46, j46⟩ := G 46 3 58 rfl
  rw [cInt] at j46
  obtain ⟨x46, e46, _, w46⟩ := DataW.trod_int Tryd.underlying3 j46
  clear j46
  obtain ⟨m47, z47, j47⟩ := G 47 3 59 rfl
  rw [cInt] at j47
  obtain ⟨x47, e47, _, w47⟩ := DataW.trod_int Tryd.underlying3 j47
  clear j47
  obtain ⟨m48, z48, j48⟩ := G 48 3 60 rfl
  rw [cInt] at j48
  obtain ⟨x48, e48, _, w48⟩ := DataW.trod_int Tryd.underlying3 j48
  clear j48
  have hend : cs.drop 61 = [] := List.drop_eq_nil_of_le (by omega)
  have key : cs.drop 0 = (cellsT ⟨x0, x1, x2, x3, x4, x5, x6, x7, x8, x9, x10, x11, x12, x13, x14, x15, x16, x17, x18, x19, x20, x21, x22, x23, x24, x25, x26, x27, x28, x29, x30, x31, x32, x33, x34, x35, x36, x37, x38, x39, x40, x41, x42, x43, x44, x45, x46, x47, x48⟩).toList := by
    rw [chunk_at e0 (show 1 = 0 + 1 from rfl), chunk_at e1 (show 2 = 1 + 1 from rfl), chunk_at e2 (show 3 = 2 + 1 from rfl), chunk_at e3 (show 4 = 3 + 1 from rfl), chunk_at e4 (show 5 = 4 + 1 from rfl), chunk_at e5 (show 6 = 5 + 1 from rfl), chunk_at e6 (show 10 = 6 + 4 from rfl), chunk_at e7 (show 14 = 10 + 4 from rfl), chunk_at e8 (show 18 = 14 + 4 from rfl), chunk_at e9 (show 22 = 18 + 4 from rfl), chunk_at e10 (show 23 = 22 + 1 from rfl), chunk_at e11 (show 24 = 23 + 1 from rfl), chunk_at e12 (show 25 = 24 + 1 from rfl), chunk_at e13 (show 26 = 25 + 1 from rfl), chunk_at e14 (show 27 = 26 + 1 from rfl), chunk_at e15 (show 28 = 27 + 1 from rfl), chunk_at e16 (show 29 = 28 + 1 from rfl), chunk_at e17 (show 30 = 29 + 1 from rfl), chunk_at e18 (show 31 = 30 + 1 from rfl), chunk_at e19 (show 32 = 31 + 1 from rfl), chunk_at e20 (show 33 = 32 + 1 from rfl), chunk_at e21 (show 34 = 33 + 1 from rfl), chunk_at e22 (show 35 = 34 + 1 from rfl), chunk_at e23 (show 36 = 35 + 1 from rfl), chunk_at e24 (show 37 = 36 + 1 from rfl), chunk_at e25 (show 38 = 37 + 1 from rfl), chunk_at e26 (show 39 = 38 + 1 from rfl), chunk_at e27 (show 40 = 39 + 1 from rfl), chunk_at e28 (show 41 = 40 + 1 from rfl), chunk_at e29 (show 42 = 41 + 1 from rfl), chunk_at e30 (show 43 = 42 + 1 from rfl), chunk_at e31 (show 44 = 43 + 1 from rfl), chunk_at e32 (show 45 = 44 + 1 from rfl), chunk_at e33 (show 46 = 45 + 1 from rfl), chunk_at e34 (show 47 = 46 + 1 from rfl), chunk_at e35 (show 48 = 47 + 1 from rfl), chunk_at e36 (show 49 = 48 + 1 from rfl), chunk_at e37 (show 50 = 49 + 1 from rfl), chunk_at e38 (show 51 = 50 + 1 from rfl), chunk_at e39 (show 52 = 51 + 1 from rfl), chunk_at e40 (show 53 = 52 + 1 from rfl), chunk_at e41 (show 54 = 53 + 1 from rfl), chunk_at e42 (show 55 = 54 + 1 from rfl), chunk_at e43 (show 56 = 55 + 1 from rfl), chunk_at e44 (show 57 = 56 + 1 from rfl), chunk_at e45 (show 58 = 57 + 1 from rfl), chunk_at e46 (show 59 = 58 + 1 from rfl), chunk_at e47 (show 60 = 59 + 1 from rfl), chunk_at e48 (show 61 = 60 + 1 from rfl), hend]
    rfl
  exact ⟨⟨x0, x1, x2, x3, x4, x5, x6, x7, x8, x9, x10, x11, x12, x13, x14, x15, x16, x17, x18, x19, x20, x21, x22, x23, x24, x25, x26, x27, x28, x29, x30, x31, x32, x33, x34, x35, x36, x37, x38, x39, x40, x41, x42, x43, x44, x45, x46, x47, x48⟩, key, ⟨wf_i64 w38, wf_i64 w39, wf_i64 w40, wf_i64 w41, wf_i64 w42, wf_i64 w43, wf_i64 w44, wf_i64 w45, wf_i64 w46⟩, wf_u64 w0, wf_u64 w1, wf_i64 w5, w6, w7⟩

set_option maxRecDepth 100000 in
theorem open_pt {r : Reach} {b0 : Nat} {v : Value} {d : DataW H} {p : List MemPlace} (hv : Value.okWide Tryd.prog w r b0 30 v) (h : DataW.Trod enc Tryd.prog w base spare held 30 v d p) :
    ∃ q : Pt, v = .agg (cellsT q) ∧ PtOk q := by
  obtain ⟨fs, ht, hts⟩ := uPt
  obtain ⟨cs, rfl, hsz⟩ := okWide_struct ht hv
  rw [cPt] at hsz
  obtain ⟨l⟩ := cs
  obtain ⟨fuel, hf⟩ := h
  obtain ⟨q, e, ok⟩ := cells_pt (cs := l) hsz hf
  exact ⟨q, by subst e; rfl, ok⟩

theorem ten {α : Type} {l : List α} (h : l.length = 10) : ∃ a b c d e f g i j k, l = [a, b, c, d, e, f, g, i, j, k] := by
  match l, h with
  | [a, b, c, d, e, f, g, i, j, k], _ => exact ⟨a, b, c, d, e, f, g, i, j, k, rfl⟩

set_option maxRecDepth 100000 in
theorem open_bpdu {r : Reach} {b0 : Nat} {v : Value} {d : DataW H} {p : List MemPlace} (hv : Value.okWide Tryd.prog w r b0 34 v) (h : DataW.Trod enc Tryd.prog w base spare held 34 v d p) :
    ∃ q : Bp, v = bq q ∧ BpOk q := by
  obtain ⟨fs, ht, hts⟩ := uBp
  obtain ⟨gs, gt, gts⟩ := uVec
  obtain ⟨cs, rfl, hsz⟩ := okWide_struct ht hv
  obtain ⟨l⟩ := cs
  rw [cBp] at hsz
  obtain ⟨c0, c1, c2, c3, c4, c5, c6, c7, c8, c9, rfl⟩ := ten (l := l) hsz
  obtain ⟨fuel, hf⟩ := h
  have hf' : DataW.trod enc Tryd.prog w base spare held fuel 34 [c0, c1, c2, c3, c4, c5, c6, c7, c8, c9] = some (d, p) := hf
  have F := fun i T o hi => part_of ht hts hf' i T o hi
  obtain ⟨n0, y0, k0⟩ := F 0 _ _ rfl
  obtain ⟨n1, y1, k1⟩ := F 1 _ _ rfl
  obtain ⟨n2, y2, k2⟩ := F 2 _ _ rfl
  obtain ⟨n3, y3, k3⟩ := F 3 _ _ rfl
  obtain ⟨n4, y4, k4⟩ := F 4 _ _ rfl
  obtain ⟨n5, y5, k5⟩ := F 5 _ _ rfl
  obtain ⟨n6, y6, k6⟩ := F 6 _ _ rfl
  rw [cInt] at k0 k1 k3 k4 k5 k6
  rw [cVec] at k2
  have k2' : DataW.trod enc Tryd.prog w base spare held n2 28 [c2, c3, c4, c5] = some y2 := k2
  have G := fun i T o hi => part_of gt gts k2' i T o hi
  obtain ⟨m0, z0, j0⟩ := G 0 _ _ rfl
  obtain ⟨m1, z1, j1⟩ := G 1 _ _ rfl
  obtain ⟨m2, z2, j2⟩ := G 2 _ _ rfl
  obtain ⟨m3, z3, j3⟩ := G 3 _ _ rfl
  rw [cU64] at j0 j1 j2 j3
  obtain ⟨x0, e0, _, _⟩ := DataW.trod_int Tryd.underlying3 (show DataW.trod enc Tryd.prog w base spare held n0 3 [c0] = some y0 from k0)
  obtain ⟨x1, e1, _, _⟩ := DataW.trod_int Tryd.underlying3 (show DataW.trod enc Tryd.prog w base spare held n1 3 [c1] = some y1 from k1)
  obtain ⟨x2, e2, _, w2⟩ := DataW.trod_int Tryd.underlying22 (show DataW.trod enc Tryd.prog w base spare held m0 22 [c2] = some z0 from j0)
  obtain ⟨x3, e3, _, w3⟩ := DataW.trod_int Tryd.underlying22 (show DataW.trod enc Tryd.prog w base spare held m1 22 [c3] = some z1 from j1)
  obtain ⟨x4, e4, _, w4⟩ := DataW.trod_int Tryd.underlying22 (show DataW.trod enc Tryd.prog w base spare held m2 22 [c4] = some z2 from j2)
  obtain ⟨x5, e5, _, w5⟩ := DataW.trod_int Tryd.underlying22 (show DataW.trod enc Tryd.prog w base spare held m3 22 [c5] = some z3 from j3)
  obtain ⟨x6, e6, _, _⟩ := DataW.trod_int Tryd.underlying3 (show DataW.trod enc Tryd.prog w base spare held n3 3 [c6] = some y3 from k3)
  obtain ⟨x7, e7, _, _⟩ := DataW.trod_int Tryd.underlying3 (show DataW.trod enc Tryd.prog w base spare held n4 3 [c7] = some y4 from k4)
  obtain ⟨x8, e8, _, _⟩ := DataW.trod_int Tryd.underlying3 (show DataW.trod enc Tryd.prog w base spare held n5 3 [c8] = some y5 from k5)
  obtain ⟨x9, e9, _, _⟩ := DataW.trod_int Tryd.underlying3 (show DataW.trod enc Tryd.prog w base spare held n6 3 [c9] = some y6 from k6)
  simp only [List.cons.injEq, and_true] at e0 e1 e2 e3 e4 e5 e6 e7 e8 e9
  subst e0 e1 e2 e3 e4 e5 e6 e7 e8 e9
  exact ⟨⟨x0, x1, x2, x3, x4, x5, x6, x7, x8, x9⟩, rfl, ⟨wf_u64 w2, wf_u64 w3, wf_u64 w4, wf_u64 w5⟩⟩

theorem five {α : Type} {l : List α} (h : l.length = 5) : ∃ a b c d e, l = [a, b, c, d, e] := by
  match l, h with
  | [a, b, c, d, e], _ => exact ⟨a, b, c, d, e, rfl⟩
set_option maxRecDepth 100000 in
theorem open_br {r : Reach} {b0 : Nat} {v : Value} {d : DataW H} {p : List MemPlace} (hv : Value.okWide Tryd.prog w r b0 26 v) (h : DataW.Trod enc Tryd.prog w base spare held 26 v d p) :
    ∃ i a m h d : Int, v = brv i a m h d ∧ Vm.u64B i := by
  obtain ⟨fs, ht, hts⟩ := uBr
  obtain ⟨cs, rfl, hsz⟩ := okWide_struct ht hv
  rw [cBr] at hsz
  obtain ⟨l⟩ := cs
  obtain ⟨c0, c1, c2, c3, c4, rfl⟩ := five (l := l) hsz
  obtain ⟨fuel, hf⟩ := h
  have hf' : DataW.trod enc Tryd.prog w base spare held fuel 26 [c0, c1, c2, c3, c4] = some (d, p) := hf
  have F := fun i T o hi => part_of ht hts hf' i T o hi
  obtain ⟨n0, y0, k0⟩ := F 0 _ _ rfl
  obtain ⟨n1, y1, k1⟩ := F 1 _ _ rfl
  rw [cU64] at k0
  rw [cTm] at k1
  obtain ⟨x0, e0, _, w0⟩ := DataW.trod_int Tryd.underlying22 (show DataW.trod enc Tryd.prog w base spare held n0 22 [c0] = some y0 from k0)
  obtain ⟨⟨a, m, h, d⟩, e1, _⟩ := cells_tm (cs := [c1, c2, c3, c4]) rfl (show DataW.trod enc Tryd.prog w base spare held n1 24 [c1, c2, c3, c4] = some y1 from k1)
  simp only [List.cons.injEq, and_true] at e0 e1
  obtain ⟨e1, e2, e3, e4⟩ := e1
  subst e0 e1 e2 e3 e4
  exact ⟨x0, a, m, h, d, rfl, wf_u64 w0⟩

end
end Go.Proofs.YtngdilmgbgdkcaaDoor