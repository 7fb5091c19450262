/-
  Layer 13: awake.
-/
import Derived.Test.YtlfmjinllffifaaChX
import Derived.Great.BuildSlice
namespace Go.Proofs.Ytlfmjinllffifaa
set_option linter.unusedVariables false
set_option linter.unusedSimpArgs false
open Go.RowKit Vm Rm Bm Im

def A13 : Pt := { zeroP with id := 1, role := 1, forward := true, change := 1, sendRstp := true }
def B13 : Pt := { zeroP with id := 2, flush := true }
def L13 : List Pt := (stepI U9 [A13, B13] 0).1
def C13 : Pt := L13.getD 0 zeroP
def D13 : Pt := L13.getD 1 zeroP
theorem l13_is : stepI U9 [A13, B13] 0 = ([C13, D13], true) := by decide +kernel
theorem l13_two : stepI U9 [C13, D13] 2 = ([C13, D13], false) := by decide +kernel
theorem l13_no : stepI U9 [C13, D13] 0 = ([C13, D13], false) := by decide +kernel
theorem l13_facts : C13.change = 2 ∧ C13.tc = 3 ∧ C13.newInfo = true ∧ C13.tcProp = false ∧ D13.tcProp = true := by decide +kernel
def E13 : Pt := offP C13
def F13 : Pt := offP D13
theorem l13_flush : flushedP [C13, D13] = ([E13, F13], [2]) := by decide +kernel
theorem f13_facts : F13.flush = false := by decide +kernel

set_option maxRecDepth 100000 in
theorem wpList_row2 {ops : Array Oper} {rest : List Oper} {op : Oper} {a : Act} {w : World} {Q : Exit → Act → World → Prop} (hgd : op.guard = none) (x y : Operand) (ho : op.op = .buildSlice 27 2 #[(0, x), (1, y)]) (p q : Pt) (hx : a.eval x = .agg (cellsT p)) (hy : a.eval y = .agg (cellsT q))
    (h : wpList Try.prog ops Q rest (a.put op.dst (.slice (some ⟨w.heap.size, 0, none⟩) 2 2)) (w.alloc (.cells (cells61 [p, q]).toArray 47))) : wpList Try.prog ops Q (op :: rest) a w := by
  obtain ⟨i0, hi, hz0, hz1, hz2⟩ := info_parts info61
  refine wpList_buildSlice hgd 27 47 2 _ ho (cells61 [p, q]).toArray i0 _ Try.underlying27 hi hz0 (by rw [hz1]; decide) (by rw [hz1]; decide) ?_ h
  simp only [List.map_toArray, List.map_cons, List.map_nil, hx, hy, hz1]
  kernel_rfl
theorem two_row {w : World} {g : Nat} {l : List Pt} {T : TypeId} (h : w.heap[g]? = some (.cells (cells61 l).toArray T (0, 0))) : PRow w (some ⟨g, 0, none⟩) l :=
  ⟨fun j p hp => ⟨g, 0, rfl, (Array.getElem?_eq_some_iff.1 h).1, fun c v hv => by
    have hc : c < 61 := by have := (List.getElem?_eq_some_iff.1 hv).1; rw [cellsT_len] at this; exact this
    rw [show 0 + j * 61 + c = j * 61 + c by omega, cell_of_row w g (j * 61 + c) _ T (0, 0) h, List.getElem?_toArray, cells61_at hp c hc]
    exact hv⟩⟩

set_option maxRecDepth 20000 in
set_option maxHeartbeats 4000000 in
theorem awake13_any (w : World) :
    Calls Try.prog 5 #[] w fun e w' => e = .returned (.bool true) ∧ Below w.heap.size w w' := by
  have CU := Lib.hid (fun w' => usual_w 9 w')
  have CS0 := Lib.hid (fun (w' : World) (a' : Option Addr) (cap' : Nat) (h : PRow w' a' [A13, B13]) => show Calls Try.prog 6 #[brv 9 0 20 2 15, .slice a' 2 cap', .int .i64 0] w' (fun e w'' => Out w' w'' 2 [C13, D13] true e) from step13_w 9 U9 a' cap' 0 [A13, B13] [C13, D13] true w' h (by decide) l13_is)
  have CS1 := Lib.hid (fun (w' : World) (a' : Option Addr) (cap' : Nat) (h : PRow w' a' [C13, D13]) => show Calls Try.prog 6 #[brv 9 0 20 2 15, .slice a' 2 cap', .int .i64 2] w' (fun e w'' => Out w' w'' 2 [C13, D13] false e) from step13_w 9 U9 a' cap' 2 [C13, D13] [C13, D13] false w' h (by decide) l13_two)
  have CS2 := Lib.hid (fun (w' : World) (a' : Option Addr) (cap' : Nat) (h : PRow w' a' [C13, D13]) => show Calls Try.prog 6 #[brv 9 0 20 2 15, .slice a' 2 cap', .int .i64 0] w' (fun e w'' => Out w' w'' 2 [C13, D13] false e) from step13_w 9 U9 a' cap' 0 [C13, D13] [C13, D13] false w' h (by decide) l13_no)
  have CF := Lib.hid (fun (w' : World) (a' : Option Addr) (cap' : Nat) (h : PRow w' a' [C13, D13]) => show Calls Try.prog 12 #[.slice a' 2 cap'] w' (fun e w'' => ∃ (a' d : Option Addr) (cap' dcap : Nat), e = .returned (.tuple #[.slice a' 2 cap', .slice d 1 dcap]) ∧ PRow w'' a' [E13, F13] ∧ URow w'' d [2] ∧ Below w'.heap.size w' w'') from (flushed13_w a' cap' [C13, D13] w' h (by decide)).mono (fun e w'' hf => by
    obtain ⟨a2, d2, c2, dc2, h1, _, _, h4, h5, h6⟩ := hf
    rw [l13_flush] at h1 h4 h5
    exact ⟨a2, d2, c2, dc2, h1, h4, h5, h6⟩))
  go_enter Try.func5, Try.ntmps5
  go_upto_region 2 with (go_at_call 14; (with_reducible refine (CU.out _).mono ?_); rintro e w1 ⟨rfl, hb1⟩)
  obtain ⟨V1, hV1⟩ : ∃ V, w1.alloc (.cells #[.int .u64 9, .int .i64 0, .int .i64 20, .int .i64 2, .int .i64 15] 26) = V := ⟨_, rfl⟩
  obtain ⟨bb, hbb⟩ : ∃ b, w1.heap.size = b := ⟨_, rfl⟩
  refine wp_to (W := V1) (by exact hV1.symm) ?_
  have K1 := Lib.hid (show BrBlk V1 bb 9 0 20 2 15 by rw [← hV1, ← hbb]; exact heap_alloc_new w1 _)
  have T1 := Lib.hid (show Below w.heap.size w V1 by rw [← hV1]; exact bw_alloc hb1 _)
  rw [hbb]
  clear hV1 hbb hb1 CU
  go_upto_region 3 with (first
    | (with_reducible refine wpList_built rfl 47 _ rfl (cellsT A13) (by kernel_rfl) ?_)
    | (refine wpList_ptst rfl _ _ rfl V1.heap.size rfl A13 zeroP rfl (ptblk_new _ V1 zeroP) ?_))
  obtain ⟨V2, p2, HV2, Hp2, k2, B2, hs2⟩ := fillP_is V1 A13
  refine wp_to (W := V2) (by exact HV2.out.symm) ?_
  rw [Hp2.out]
  have B2' : Below V1.heap.size V1 V2 := by rw [Hp2.out]; exact B2
  have P2 := Lib.hid k2
  have K2 := Lib.hid (K1.out.next B2')
  have T2 := Lib.hid (bw_trans T1.out B2')
  clear k2 B2 B2' hs2 HV2 Hp2 K1 T1
  obtain ⟨k0, k1, k2, k3, k4⟩ := K2.out.cells
  have OR := Lib.hid (two_row (heap_alloc_new V2 (.cells (cells61 [A13, B13]).toArray 47)))
  have KR := Lib.hid (K2.out.next (below_box V2 (.cells (cells61 [A13, B13]).toArray 47)))
  have TR := Lib.hid (bw_alloc T2.out (.cells (cells61 [A13, B13]).toArray 47))
  unfold brv at *
  go_upto_region 4 with (first
    | (with_reducible refine wpList_pt rfl _ rfl p2 rfl A13 P2.out ?_)
    | (with_reducible refine wpList_built rfl 47 _ rfl (cellsT B13) (by kernel_rfl) ?_)
    | (with_reducible refine wpList_row2 rfl _ _ rfl A13 B13 rfl rfl ?_)
    | (go_at_call 6; (with_reducible refine (CS0.out _ _ _ OR.out).mono ?_); rintro e x1 ⟨a1, c1, rfl, hc1, hr1, hb1⟩))
  have O1 := Lib.hid hr1
  have K3 := Lib.hid (KR.out.next hb1)
  have T3 := Lib.hid (bw_trans TR.out hb1)
  clear hr1 hb1 k0 k1 k2 k3 k4 OR KR TR K2 T2 CS0 P2
  obtain ⟨k0, k1, k2, k3, k4⟩ := K3.out.cells
  go_upto_region 5 with (go_at_call 6; (with_reducible refine (CS1.out _ _ _ O1.out).mono ?_); rintro e x2 ⟨a2, c2, rfl, hc2, hr2, hb2⟩)
  have O2 := Lib.hid (O1.out.next hb2)
  have K4 := Lib.hid (K3.out.next hb2)
  have T4 := Lib.hid (bw_trans T3.out hb2)
  clear hr2 hb2 k0 k1 k2 k3 k4 hc2 O1 K3 T3 CS1
  obtain ⟨k0, k1, k2, k3, k4⟩ := K4.out.cells
  go_upto_region 6 with (go_at_call 6; (with_reducible refine (CS2.out _ _ _ O2.out).mono ?_); rintro e x3 ⟨a3, c3, rfl, hc3, hr3, hb3⟩)
  have O3 := Lib.hid (O2.out.next hb3)
  have T5 := Lib.hid (bw_trans T4.out hb3)
  clear hr3 hb3 k0 k1 k2 k3 k4 hc3 O2 K4 T4 CS2
  go_upto_region 9 with (go_at_call 12; (with_reducible refine (CF.out _ _ _ O3.out).mono ?_); rintro e x4 ⟨a4, d4, c4, dc4, rfl, hr4, hu4, hb4⟩)
  have T6 := Lib.hid (bw_trans T5.out hb4)
  have O4 := O3.out.next hb4
  obtain ⟨g, o, rfl, hg, hc⟩ := O4.at_ 0 C13 rfl
  obtain ⟨g', o', e1, hg', hd⟩ := O4.at_ 1 D13 rfl
  cases e1
  obtain ⟨gf, of', rfl, hgf, hf⟩ := hr4.at_ 1 F13 rfl
  obtain ⟨gu, ou, rfl, hgu, hu⟩ := hu4.at_ 0 2 rfl
  have r1 : x4.cell? ⟨g, o + 59, none⟩ = some (.int .i64 2) := by have h := hc 59 (.int .i64 C13.change) rfl; rw [show o + 0 * 61 + 59 = o + 59 by omega, l13_facts.1] at h; exact h
  have r2 : x4.cell? ⟨g, o + 53, none⟩ = some (.int .i64 3) := by have h := hc 53 (.int .i64 C13.tc) rfl; rw [show o + 0 * 61 + 53 = o + 53 by omega, l13_facts.2.1] at h; exact h
  have r3 : x4.cell? ⟨g, o + 39, none⟩ = some (.bool true) := by have h := hc 39 (.bool C13.newInfo) rfl; rw [show o + 0 * 61 + 39 = o + 39 by omega, l13_facts.2.2.1] at h; exact h
  have r4 : x4.cell? ⟨g, o + 44, none⟩ = some (.bool false) := by have h := hc 44 (.bool C13.tcProp) rfl; rw [show o + 0 * 61 + 44 = o + 44 by omega, l13_facts.2.2.2.1] at h; exact h
  have r5 : x4.cell? ⟨g, o + 105, none⟩ = some (.bool true) := by have h := hd 44 (.bool D13.tcProp) rfl; rw [show o + 1 * 61 + 44 = o + 105 by omega, l13_facts.2.2.2.2] at h; exact h
  have r5' : x4.cell? ⟨g, o + 61 + 44, none⟩ = some (.bool true) := r5
  have r6 : x4.cell? ⟨gf, of' + 106, none⟩ = some (.bool false) := by have h := hf 45 (.bool F13.flush) rfl; rw [show of' + 1 * 61 + 45 = of' + 106 by omega, f13_facts] at h; exact h
  have r6' : x4.cell? ⟨gf, of' + 61 + 45, none⟩ = some (.bool false) := r6
  have r7 : x4.cell? ⟨gu, ou, none⟩ = some (.int .u64 2) := hu
  clear hc hd hf hu hr4 hu4 hb4 O4 O3 T5 hg hg' hgf hgu CF
  simp only [List.append]
  go_wp2_with fail
  go_ret
  exact ⟨rfl, T6.out⟩
end Go.Proofs.Ytlfmjinllffifaa
