/-
  Walks of layer 5's statements: awake.
-/
import Derived.Test.YtiehocggdmadaaaVcB
import Derived.Test.YtiehocggdmadaaaVcC
namespace Go.Proofs.Ytiehocggdmadaaa
set_option linter.unusedVariables false
set_option linter.unusedSimpArgs false
open Go.RowKit Vm

abbrev six : ByteArray := ⟨#[0, 0, 0, 0, 0, 2]⟩
theorem six_num : Bm.num six 0 6 = 2 := by decide
theorem be_b0 : Bm.be 9223653511831486466 6 = six := by decide
theorem bridge_b0 : bridgeR 8 1 (Bm.num six 0 6) six.size = (9223653511831486466, 0) := by
  rw [six_num]; decide
theorem run_vcEq (r c b p r' c' b' p' : Int) (w : World) :
    Sem.run Try.prog (binOp .eql 31 (vv r c b p) (vv r' c' b' p')) w = .ok (.bool (decide ((⟨r, c, b, p⟩ : Vc) = ⟨r', c', b', p'⟩))) w := by
  unfold vv
  go_simp
  repeat' split
  all_goals simp_all
theorem split_w (n P V : Int) (s : ByteArray) (w : World) (hn : u64B n) (h1 : Hid (n / 1152921504606846976 = P)) (h2 : Hid (n / 281474976710656 % 4096 = V)) (h3 : Hid (Bm.be n.toNat 6 = s)) :
    Calls Try.prog 7 #[.int .u64 n] w fun e w' => e = .returned (.tuple #[.int .i64 P, .int .i64 V, .string s]) ∧ Below w.heap.size w w' := by
  have H := split_any n w hn
  rw [h1.out, h2.out, h3.out] at H
  exact H

abbrev threeCells : Array Value := #[.int .u64 1, .int .u64 6, .int .u64 0, .int .u64 0, .int .u64 1, .int .u64 5, .int .u64 0, .int .u64 0, .int .u64 1, .int .u64 5, .int .u64 0, .int .u64 0]
theorem cell_of {W : World} {b : Nat} {cs : Array Value} {T : TypeId} (h : W.heap[b]? = some (.cells cs T (0, 0))) (j : Nat) : W.cell? ⟨b, j, none⟩ = cs[j]? := by simp [World.cell?, h]
theorem best_three (T : TypeId) (w : World) :
    Calls Try.prog 11 #[.slice (some ⟨w.heap.size, 0, none⟩) 3 3] (w.alloc (.cells threeCells T)) fun e w' => e = .returned (.int .i64 1) ∧ Below w.heap.size w w' := by
  have k : (w.alloc (.cells threeCells T)).heap[w.heap.size]? = some (.cells threeCells T (0, 0)) := heap_alloc_new w _
  have h : IsVecs (w.alloc (.cells threeCells T)) w.heap.size 0 3 [⟨1, 6, 0, 0⟩, ⟨1, 5, 0, 0⟩, ⟨1, 5, 0, 0⟩] := by
    refine ⟨by simp, rfl, ?_⟩
    intro i v hv
    match i, hv with
    | 0, hv => simp at hv; subst hv; exact ⟨cell_of k _, cell_of k _, cell_of k _, cell_of k _⟩
    | 1, hv => simp at hv; subst hv; exact ⟨cell_of k _, cell_of k _, cell_of k _, cell_of k _⟩
    | 2, hv => simp at hv; subst hv; exact ⟨cell_of k _, cell_of k _, cell_of k _, cell_of k _⟩
  have e : bestI [⟨1, 6, 0, 0⟩, ⟨1, 5, 0, 0⟩, ⟨1, 5, 0, 0⟩] 3 = 1 := by decide
  have H := best_some w.heap.size 0 3 3 _ _ h (by omega)
  rw [e] at H
  exact H.mono fun _ _ ⟨h1, h2⟩ => ⟨h1, bw_trans (below_box w _) h2⟩

set_option maxHeartbeats 2000000 in
theorem awake_any (w : World) :
    Calls Try.prog 6 #[] w fun e w' => e = .returned (.bool true) ∧ Below w.heap.size w w' := by
  go_enter Try.func6, Try.ntmps6
  go_wp2_with fail
  have hpw := bridge_w 8 1 six 9223653511831486466 0 w (Lib.hid bridge_b0) (by decide)
  refine hpw.mono ?_
  clear hpw
  rintro e w' ⟨rfl, rfl⟩
  go_wp2_with fail
  have hpw := port_w 8 1 32769 0 w (Lib.hid (by decide))
  refine hpw.mono ?_
  clear hpw
  rintro e w' ⟨rfl, rfl⟩
  go_wp2_with fail
  have hpw := port_w 16 1 0 1 w (Lib.hid (by decide))
  refine hpw.mono ?_
  clear hpw
  rintro e w' ⟨rfl, rfl⟩
  go_wp2_with fail
  have hpw := split_w 9223653511831486466 8 1 six w ⟨by omega, by omega⟩ (Lib.hid (by decide)) (Lib.hid (by decide)) (Lib.hid be_b0)
  refine hpw.mono ?_
  clear hpw
  rintro e w1 ⟨rfl, hb1⟩
  go_upto_region 6 with (fail)
  obtain ⟨ub, hub⟩ : ∃ ub, ub = w1.heap.size := ⟨_, rfl⟩
  obtain ⟨vb, hvb⟩ : ∃ vb, vb = w1.heap.size + 1 := ⟨_, rfl⟩
  obtain ⟨W, hW⟩ : ∃ W, W = (w1.alloc (.cells #[.int .u64 1, .int .u64 5, .int .u64 0, .int .u64 0] 31)).alloc (.cells #[.int .u64 1, .int .u64 6, .int .u64 0, .int .u64 0] 31) := ⟨_, rfl⟩
  have kW : Blk 31 W ub ⟨1, 5, 0, 0⟩ := by rw [hW, hub]; exact (blk_new 31 w1 1 5 0 0).next (below_box _ _)
  have mW : Blk 31 W vb ⟨1, 6, 0, 0⟩ := by
    have := blk_new 31 (w1.alloc (.cells #[.int .u64 1, .int .u64 5, .int .u64 0, .int .u64 0] 31)) 1 6 0 0
    rw [size_box] at this
    rw [hW, hvb]; exact this
  have BW : Below w.heap.size w W := by rw [hW]; exact bw_alloc (bw_alloc hb1 _) _
  rw [← hW, ← hvb, ← hub]
  clear hW hvb hub hb1
  have lk := kW.lt
  have lm := mW.lt
  have C0 := Lib.hid (fun w' => compare_w 1 5 0 0 1 6 0 0 (-1) w' (Lib.hid (by decide)))
  have C1 := Lib.hid (fun w' => super_w 1 6 0 0 1 5 0 0 true w' (Lib.hid (by decide)) ⟨by omega, by omega⟩ ⟨by omega, by omega⟩ ⟨by omega, by omega⟩ ⟨by omega, by omega⟩)
  have C2 := Lib.hid (fun w' => raise_w 1 5 0 0 1 6 w' (Lib.hid (by decide)) ⟨by omega, by omega⟩ ⟨by omega, by omega⟩)
  have C3 := Lib.hid (fun w' => best_three 31 w')
  have C4 := Lib.hid (fun w' => best_none none 0 w')
  have hq := run_vcEq 1 6 0 0 1 6 0 0
  have hqt : decide ((⟨1, 6, 0, 0⟩ : Vc) = ⟨1, 6, 0, 0⟩) = true := by decide
  rw [hqt] at hq
  clear hqt
  have S0 : (W.cell? ⟨ub, 0, none⟩ = some (.int .u64 1) ∧ W.cell? ⟨ub, 1, none⟩ = some (.int .u64 5) ∧ W.cell? ⟨ub, 2, none⟩ = some (.int .u64 0) ∧ W.cell? ⟨ub, 3, none⟩ = some (.int .u64 0)) ∧ (W.cell? ⟨vb, 0, none⟩ = some (.int .u64 1) ∧ W.cell? ⟨vb, 1, none⟩ = some (.int .u64 6) ∧ W.cell? ⟨vb, 2, none⟩ = some (.int .u64 0) ∧ W.cell? ⟨vb, 3, none⟩ = some (.int .u64 0)) := ⟨kW.cells, mW.cells⟩
  go_region_held3 (fun w' => (w'.cell? ⟨ub, 0, none⟩ = some (.int .u64 1) ∧ w'.cell? ⟨ub, 1, none⟩ = some (.int .u64 5) ∧ w'.cell? ⟨ub, 2, none⟩ = some (.int .u64 0) ∧ w'.cell? ⟨ub, 3, none⟩ = some (.int .u64 0)) ∧ (w'.cell? ⟨vb, 0, none⟩ = some (.int .u64 1) ∧ w'.cell? ⟨vb, 1, none⟩ = some (.int .u64 6) ∧ w'.cell? ⟨vb, 2, none⟩ = some (.int .u64 0) ∧ w'.cell? ⟨vb, 3, none⟩ = some (.int .u64 0))) (first | exact S0 | exact T0 | exact T1 | exact T2 | exact T3 | exact T4 | exact T5) (first | (go_at_call 9; (with_reducible refine ((C0.out) _).mono ?_); rintro e y0 ⟨rfl, hb0⟩; have D0 := ((Below.refl W.heap.size W).drew).trans hb0; have T0 : (y0.cell? ⟨ub, 0, none⟩ = some (.int .u64 1) ∧ y0.cell? ⟨ub, 1, none⟩ = some (.int .u64 5) ∧ y0.cell? ⟨ub, 2, none⟩ = some (.int .u64 0) ∧ y0.cell? ⟨ub, 3, none⟩ = some (.int .u64 0)) ∧ (y0.cell? ⟨vb, 0, none⟩ = some (.int .u64 1) ∧ y0.cell? ⟨vb, 1, none⟩ = some (.int .u64 6) ∧ y0.cell? ⟨vb, 2, none⟩ = some (.int .u64 0) ∧ y0.cell? ⟨vb, 3, none⟩ = some (.int .u64 0)) := ⟨(kW.below D0 lk).cells, (mW.below D0 lm).cells⟩) | (go_at_call 10; (with_reducible refine ((C1.out) _).mono ?_); rintro e y1 ⟨rfl, hb1⟩; have D1 := bw_trans D0 hb1; have T1 : (y1.cell? ⟨ub, 0, none⟩ = some (.int .u64 1) ∧ y1.cell? ⟨ub, 1, none⟩ = some (.int .u64 5) ∧ y1.cell? ⟨ub, 2, none⟩ = some (.int .u64 0) ∧ y1.cell? ⟨ub, 3, none⟩ = some (.int .u64 0)) ∧ (y1.cell? ⟨vb, 0, none⟩ = some (.int .u64 1) ∧ y1.cell? ⟨vb, 1, none⟩ = some (.int .u64 6) ∧ y1.cell? ⟨vb, 2, none⟩ = some (.int .u64 0) ∧ y1.cell? ⟨vb, 3, none⟩ = some (.int .u64 0)) := ⟨(kW.below D1 lk).cells, (mW.below D1 lm).cells⟩) | (go_at_call 12; (with_reducible refine ((C2.out) _).mono ?_); rintro e y2 ⟨rfl, hb2⟩; have D2 := bw_trans D1 hb2; have T2 : (y2.cell? ⟨ub, 0, none⟩ = some (.int .u64 1) ∧ y2.cell? ⟨ub, 1, none⟩ = some (.int .u64 5) ∧ y2.cell? ⟨ub, 2, none⟩ = some (.int .u64 0) ∧ y2.cell? ⟨ub, 3, none⟩ = some (.int .u64 0)) ∧ (y2.cell? ⟨vb, 0, none⟩ = some (.int .u64 1) ∧ y2.cell? ⟨vb, 1, none⟩ = some (.int .u64 6) ∧ y2.cell? ⟨vb, 2, none⟩ = some (.int .u64 0) ∧ y2.cell? ⟨vb, 3, none⟩ = some (.int .u64 0)) := ⟨(kW.below D2 lk).cells, (mW.below D2 lm).cells⟩; have T5 : ((y2.alloc (.cells threeCells 31)).cell? ⟨ub, 0, none⟩ = some (.int .u64 1) ∧ (y2.alloc (.cells threeCells 31)).cell? ⟨ub, 1, none⟩ = some (.int .u64 5) ∧ (y2.alloc (.cells threeCells 31)).cell? ⟨ub, 2, none⟩ = some (.int .u64 0) ∧ (y2.alloc (.cells threeCells 31)).cell? ⟨ub, 3, none⟩ = some (.int .u64 0)) ∧ ((y2.alloc (.cells threeCells 31)).cell? ⟨vb, 0, none⟩ = some (.int .u64 1) ∧ (y2.alloc (.cells threeCells 31)).cell? ⟨vb, 1, none⟩ = some (.int .u64 6) ∧ (y2.alloc (.cells threeCells 31)).cell? ⟨vb, 2, none⟩ = some (.int .u64 0) ∧ (y2.alloc (.cells threeCells 31)).cell? ⟨vb, 3, none⟩ = some (.int .u64 0)) := ⟨((kW.below D2 lk).next (below_box _ _)).cells, ((mW.below D2 lm).next (below_box _ _)).cells⟩) | (go_at_call 11; (with_reducible refine ((C3.out) _).mono ?_); rintro e y3 ⟨rfl, hb3⟩; have D3 := bw_trans D2 hb3; have T3 : (y3.cell? ⟨ub, 0, none⟩ = some (.int .u64 1) ∧ y3.cell? ⟨ub, 1, none⟩ = some (.int .u64 5) ∧ y3.cell? ⟨ub, 2, none⟩ = some (.int .u64 0) ∧ y3.cell? ⟨ub, 3, none⟩ = some (.int .u64 0)) ∧ (y3.cell? ⟨vb, 0, none⟩ = some (.int .u64 1) ∧ y3.cell? ⟨vb, 1, none⟩ = some (.int .u64 6) ∧ y3.cell? ⟨vb, 2, none⟩ = some (.int .u64 0) ∧ y3.cell? ⟨vb, 3, none⟩ = some (.int .u64 0)) := ⟨(kW.below D3 lk).cells, (mW.below D3 lm).cells⟩) | (go_at_call 11; (with_reducible refine ((C4.out) _).mono ?_); rintro e y4 ⟨rfl, hb4⟩; have D4 := bw_trans D3 hb4; have T4 : (y4.cell? ⟨ub, 0, none⟩ = some (.int .u64 1) ∧ y4.cell? ⟨ub, 1, none⟩ = some (.int .u64 5) ∧ y4.cell? ⟨ub, 2, none⟩ = some (.int .u64 0) ∧ y4.cell? ⟨ub, 3, none⟩ = some (.int .u64 0)) ∧ (y4.cell? ⟨vb, 0, none⟩ = some (.int .u64 1) ∧ y4.cell? ⟨vb, 1, none⟩ = some (.int .u64 6) ∧ y4.cell? ⟨vb, 2, none⟩ = some (.int .u64 0) ∧ y4.cell? ⟨vb, 3, none⟩ = some (.int .u64 0)) := ⟨(kW.below D4 lk).cells, (mW.below D4 lm).cells⟩))
  all_goals go_wp2_with fail
  all_goals go_ret
  exact ⟨rfl, bw_trans BW D4⟩
end Go.Proofs.Ytiehocggdmadaaa
