/-
  Layer 11: the document's Power, Age, Settle, bit, TimesOf.
-/
import Derived.Test.YtbiggckddoeghaaInW
namespace Go.Proofs.Ytbiggckddoeghaa
set_option linter.unusedVariables false
set_option linter.unusedSimpArgs false
open Go.RowKit Vm Rm Bm Im

set_option maxRecDepth 20000 in
set_option maxHeartbeats 1000000 in
theorem rpower_same_w (p : Pt) (on : Bool) (w : World) (h : p.on = on) :
    Calls Try.prog 9 #[.agg (cellsT p), .bool on] w fun e w' => e = .returned (.agg (cellsT p)) ∧ Below w.heap.size w w' := by
  obtain ⟨W, nb, HW, HN, k0, k1, kB⟩ := twoP_is 34 w p
  have K0 := Lib.hid k0
  have K1 := Lib.hid k1
  have KB := Lib.hid kB
  have hsz := k1.lt
  have c2 := k0.c_on
  rw [h] at c2
  clear k0 k1 kB h
  go_enter Try.func9, Try.ntmps9
  go_upto_region 1 with (fail)
  refine wp_to (W := W) (by exact HW.out.symm) ?_
  rw [HN.out]
  cases on
  · go_upto_region 17 with (fail)
    refine wp_region_list ?_
    refine wpList_load_row rfl 34 _ rfl nb rfl 34 (cellsT p) (0, 0) _ K0.out rfl rfl infoRP ?_
    refine wpList_store_row rfl 34 _ _ rfl (nb + 1) (cellsT p) rfl rfl 34 _ K1.out infoRP rfl (cellsT_one p) ?_
    have K5 := Lib.hid ((K1.out).row p)
    have K6 := Lib.hid (below_row KB.out (g := nb + 1) (by omega) (cellsT p))
    go_wp2
    exact bodyPost_ret (v := .agg (cellsT p)) (results_cell_row rfl _ _ (nb + 1) 34 (cellsT p) (0, 0) _ rfl K5.out rfl rfl infoRP) rfl ⟨rfl, HN.out ▸ K6.out⟩

  · go_upto_region 17 with (fail)
    refine wp_region_list ?_
    refine wpList_load_row rfl 34 _ rfl nb rfl 34 (cellsT p) (0, 0) _ K0.out rfl rfl infoRP ?_
    refine wpList_store_row rfl 34 _ _ rfl (nb + 1) (cellsT p) rfl rfl 34 _ K1.out infoRP rfl (cellsT_one p) ?_
    have K5 := Lib.hid ((K1.out).row p)
    have K6 := Lib.hid (below_row KB.out (g := nb + 1) (by omega) (cellsT p))
    go_wp2
    exact bodyPost_ret (v := .agg (cellsT p)) (results_cell_row rfl _ _ (nb + 1) 34 (cellsT p) (0, 0) _ rfl K5.out rfl rfl infoRP) rfl ⟨rfl, HN.out ▸ K6.out⟩

set_option maxRecDepth 20000 in
set_option maxHeartbeats 1000000 in
theorem rpower_on_w (p X : Pt) (w : World) (h : p.on = false) (hX : Hid ({ p with on := true, source := 1, reselect := true, ready := false } = X)) :
    Calls Try.prog 9 #[.agg (cellsT p), .bool true] w fun e w' => e = .returned (.agg (cellsT X)) ∧ Below w.heap.size w w' := by
  obtain ⟨W, nb, HW, HN, k0, k1, kB⟩ := twoP_is 34 w p
  have K0 := Lib.hid k0
  have K1 := Lib.hid k1
  have KB := Lib.hid kB
  have hsz := k1.lt
  have c2 := k0.c_on
  rw [h] at c2
  have c3 := k0.c_source
  have c4 := k0.c_reselect
  have c5 := k0.c_ready
  have f := k0.free
  have KX := Lib.hid (show PtBlk 34 _ nb X from hX.out ▸ ((((K0.out.s_on true).s_source 1).s_reselect true).s_ready false))
  have KY := Lib.hid ((((K1.out.far (c := nb) 2 (.bool true) (by omega)).far (c := nb) 5 (.int .i64 1) (by omega)).far (c := nb) 26 (.bool true) (by omega)).far (c := nb) 24 (.bool false) (by omega))
  have KT := Lib.hid ((((KB.out.setCell (p := ⟨nb, 2, none⟩) (Nat.le_refl _) (.bool true)).setCell (p := ⟨nb, 5, none⟩) (Nat.le_refl _) (.int .i64 1)).setCell (p := ⟨nb, 26, none⟩) (Nat.le_refl _) (.bool true)).setCell (p := ⟨nb, 24, none⟩) (Nat.le_refl _) (.bool false))
  clear k0 k1 kB h
  go_enter Try.func9, Try.ntmps9
  go_upto_region 1 with (fail)
  refine wp_to (W := W) (by exact HW.out.symm) ?_
  rw [HN.out]
  go_upto_region 17 with (fail)
  refine wp_region_list ?_
  refine wpList_load_row rfl 34 _ rfl nb rfl 34 (cellsT X) (0, 0) _ KX.out rfl rfl infoRP ?_
  refine wpList_store_row rfl 34 _ _ rfl (nb + 1) (cellsT X) rfl rfl 34 _ KY.out infoRP rfl (cellsT_one X) ?_
  have K5 := Lib.hid ((KY.out).row X)
  have K6 := Lib.hid (below_row KT.out (g := nb + 1) (by omega) (cellsT X))
  go_wp2
  exact bodyPost_ret (v := .agg (cellsT X)) (results_cell_row rfl _ _ (nb + 1) 34 (cellsT X) (0, 0) _ rfl K5.out rfl rfl infoRP) rfl ⟨rfl, HN.out ▸ K6.out⟩

set_option maxRecDepth 20000 in
set_option maxHeartbeats 1000000 in
theorem rpower_off_w (p X : Pt) (w : World) (h : p.on = true) (hX : Hid ({ p with on := false, source := 0, proposing := false, proposed := false, agree := false, agreed := false, info := 0, reselect := true, ready := false, oper := p.admin } = X)) :
    Calls Try.prog 9 #[.agg (cellsT p), .bool false] w fun e w' => e = .returned (.agg (cellsT X)) ∧ Below w.heap.size w w' := by
  obtain ⟨W, nb, HW, HN, k0, k1, kB⟩ := twoP_is 34 w p
  have K0 := Lib.hid k0
  have K1 := Lib.hid k1
  have KB := Lib.hid kB
  have hsz := k1.lt
  have c2 := k0.c_on
  rw [h] at c2
  have c_source := k0.c_source
  have c_proposing := k0.c_proposing
  have c_proposed := k0.c_proposed
  have c_agree := k0.c_agree
  have c_agreed := k0.c_agreed
  have c_info := k0.c_info
  have c_reselect := k0.c_reselect
  have c_ready := k0.c_ready
  have c_oper := k0.c_oper
  have c_admin := k0.c_admin
  have f := k0.free
  have KX := Lib.hid (show PtBlk 34 _ nb X from hX.out ▸ ((((((((((K0.out.s_on false).s_source 0).s_proposing false).s_proposed false).s_agree false).s_agreed false).s_info 0).s_reselect true).s_ready false).s_oper p.admin))
  have KY := Lib.hid ((((((((((K1.out.far (c := nb) 2 (.bool false) (by omega)).far (c := nb) 5 (.int .i64 0) (by omega)).far (c := nb) 34 (.bool false) (by omega)).far (c := nb) 33 (.bool false) (by omega)).far (c := nb) 31 (.bool false) (by omega)).far (c := nb) 32 (.bool false) (by omega)).far (c := nb) 56 (.int .i64 0) (by omega)).far (c := nb) 26 (.bool true) (by omega)).far (c := nb) 24 (.bool false) (by omega)).far (c := nb) 4 (.bool p.admin) (by omega))
  have KT := Lib.hid ((((((((((KB.out.setCell (p := ⟨nb, 2, none⟩) (Nat.le_refl _) (.bool false)).setCell (p := ⟨nb, 5, none⟩) (Nat.le_refl _) (.int .i64 0)).setCell (p := ⟨nb, 34, none⟩) (Nat.le_refl _) (.bool false)).setCell (p := ⟨nb, 33, none⟩) (Nat.le_refl _) (.bool false)).setCell (p := ⟨nb, 31, none⟩) (Nat.le_refl _) (.bool false)).setCell (p := ⟨nb, 32, none⟩) (Nat.le_refl _) (.bool false)).setCell (p := ⟨nb, 56, none⟩) (Nat.le_refl _) (.int .i64 0)).setCell (p := ⟨nb, 26, none⟩) (Nat.le_refl _) (.bool true)).setCell (p := ⟨nb, 24, none⟩) (Nat.le_refl _) (.bool false)).setCell (p := ⟨nb, 4, none⟩) (Nat.le_refl _) (.bool p.admin))
  clear k0 k1 kB h
  go_enter Try.func9, Try.ntmps9
  go_upto_region 1 with (fail)
  refine wp_to (W := W) (by exact HW.out.symm) ?_
  rw [HN.out]
  go_upto_region 17 with (fail)
  refine wp_region_list ?_
  refine wpList_load_row rfl 34 _ rfl nb rfl 34 (cellsT X) (0, 0) _ KX.out rfl rfl infoRP ?_
  refine wpList_store_row rfl 34 _ _ rfl (nb + 1) (cellsT X) rfl rfl 34 _ KY.out infoRP rfl (cellsT_one X) ?_
  have K5 := Lib.hid ((KY.out).row X)
  have K6 := Lib.hid (below_row KT.out (g := nb + 1) (by omega) (cellsT X))
  go_wp2
  exact bodyPost_ret (v := .agg (cellsT X)) (results_cell_row rfl _ _ (nb + 1) 34 (cellsT X) (0, 0) _ rfl K5.out rfl rfl infoRP) rfl ⟨rfl, HN.out ▸ K6.out⟩

theorem rpower_w (p X : Pt) (on : Bool) (w : World) (hX : Hid (powerP p on = X)) :
    Calls Try.prog 9 #[.agg (cellsT p), .bool on] w fun e w' => e = .returned (.agg (cellsT X)) ∧ Below w.heap.size w w' := by
  rw [← hX.out]
  unfold powerP
  by_cases h : on = p.on
  · rw [if_pos h]
    exact rpower_same_w p on w h.symm
  · rw [if_neg h]
    cases on
    · cases hp : p.on
      · rw [hp] at h; exact absurd rfl h
      · rw [if_neg (by simp)]
        exact rpower_off_w p _ w hp (Lib.hid rfl)
    · cases hp : p.on
      · rw [if_pos rfl]
        exact rpower_on_w p _ w hp (Lib.hid rfl)
      · rw [hp] at h; exact absurd rfl h

set_option maxRecDepth 20000 in
set_option maxHeartbeats 1000000 in
theorem rage_yes_w (p X : Pt) (w : World) (h1 : p.source = 3) (h2 : p.info = 0) (h3 : p.update = false) (hX : Hid ({ p with source := 1, reselect := true, ready := false } = X)) :
    Calls Try.prog 13 #[.agg (cellsT p)] w fun e w' => e = .returned (.agg (cellsT X)) ∧ Below w.heap.size w w' := by
  obtain ⟨W, nb, HW, HN, k0, k1, kB⟩ := twoP_is 34 w p
  have K0 := Lib.hid k0
  have K1 := Lib.hid k1
  have KB := Lib.hid kB
  have hsz := k1.lt
  have c2 := k0.c_source
  have c3 := k0.c_info
  have c4 := k0.c_update
  rw [h1] at c2
  rw [h2] at c3
  rw [h3] at c4
  have c5 := k0.c_reselect
  have c6 := k0.c_ready
  have f := k0.free
  have KX := Lib.hid (show PtBlk 34 _ nb X from hX.out ▸ (((K0.out.s_source 1).s_reselect true).s_ready false))
  have KY := Lib.hid (((K1.out.far (c := nb) 5 (.int .i64 1) (by omega)).far (c := nb) 26 (.bool true) (by omega)).far (c := nb) 24 (.bool false) (by omega))
  have KT := Lib.hid (((KB.out.setCell (p := ⟨nb, 5, none⟩) (Nat.le_refl _) (.int .i64 1)).setCell (p := ⟨nb, 26, none⟩) (Nat.le_refl _) (.bool true)).setCell (p := ⟨nb, 24, none⟩) (Nat.le_refl _) (.bool false))
  clear k0 k1 kB h1 h2 h3
  go_enter Try.func13, Try.ntmps13
  go_upto_region 1 with (fail)
  refine wp_to (W := W) (by exact HW.out.symm) ?_
  rw [HN.out]
  go_upto_region 5 with (fail)
  refine wp_region_list ?_
  refine wpList_load_row rfl 34 _ rfl nb rfl 34 (cellsT X) (0, 0) _ KX.out rfl rfl infoRP ?_
  refine wpList_store_row rfl 34 _ _ rfl (nb + 1) (cellsT X) rfl rfl 34 _ KY.out infoRP rfl (cellsT_one X) ?_
  have K5 := Lib.hid ((KY.out).row X)
  have K6 := Lib.hid (below_row KT.out (g := nb + 1) (by omega) (cellsT X))
  go_wp2
  exact bodyPost_ret (v := .agg (cellsT X)) (results_cell_row rfl _ _ (nb + 1) 34 (cellsT X) (0, 0) _ rfl K5.out rfl rfl infoRP) rfl ⟨rfl, HN.out ▸ K6.out⟩

set_option maxRecDepth 20000 in
set_option maxHeartbeats 1000000 in
theorem rage_no_w (p : Pt) (w : World) (h : ¬ (p.source = 3 ∧ p.info = 0 ∧ p.update = false)) :
    Calls Try.prog 13 #[.agg (cellsT p)] w fun e w' => e = .returned (.agg (cellsT p)) ∧ Below w.heap.size w w' := by
  obtain ⟨W, nb, HW, HN, k0, k1, kB⟩ := twoP_is 34 w p
  have K0 := Lib.hid k0
  have K1 := Lib.hid k1
  have KB := Lib.hid kB
  have hsz := k1.lt
  have c2 := k0.c_source
  have c3 := k0.c_info
  have c4 := k0.c_update
  clear k0 k1 kB
  go_enter Try.func13, Try.ntmps13
  go_upto_region 1 with (fail)
  refine wp_to (W := W) (by exact HW.out.symm) ?_
  rw [HN.out]
  by_cases h1 : p.source = 3
  · rw [h1] at c2
    by_cases h2 : p.info = 0
    · rw [h2] at c3
      have h3 : p.update = true := by
        cases hu : p.update
        · exact absurd ⟨h1, h2, hu⟩ h
        · rfl
      rw [h3] at c4
      clear h h1 h2 h3
      go_upto_region 5 with (fail)
      refine wp_region_list ?_
      refine wpList_load_row rfl 34 _ rfl nb rfl 34 (cellsT p) (0, 0) _ K0.out rfl rfl infoRP ?_
      refine wpList_store_row rfl 34 _ _ rfl (nb + 1) (cellsT p) rfl rfl 34 _ K1.out infoRP rfl (cellsT_one p) ?_
      have K5 := Lib.hid ((K1.out).row p)
      have K6 := Lib.hid (below_row KB.out (g := nb + 1) (by omega) (cellsT p))
      go_wp2
      exact bodyPost_ret (v := .agg (cellsT p)) (results_cell_row rfl _ _ (nb + 1) 34 (cellsT p) (0, 0) _ rfl K5.out rfl rfl infoRP) rfl ⟨rfl, HN.out ▸ K6.out⟩

    · have z : (p.info == 0) = false := beq_eq_false_iff_ne.2 h2
      clear h h1 c4
      go_upto_region 5 with (fail)
      refine wp_region_list ?_
      refine wpList_load_row rfl 34 _ rfl nb rfl 34 (cellsT p) (0, 0) _ K0.out rfl rfl infoRP ?_
      refine wpList_store_row rfl 34 _ _ rfl (nb + 1) (cellsT p) rfl rfl 34 _ K1.out infoRP rfl (cellsT_one p) ?_
      have K5 := Lib.hid ((K1.out).row p)
      have K6 := Lib.hid (below_row KB.out (g := nb + 1) (by omega) (cellsT p))
      go_wp2
      exact bodyPost_ret (v := .agg (cellsT p)) (results_cell_row rfl _ _ (nb + 1) 34 (cellsT p) (0, 0) _ rfl K5.out rfl rfl infoRP) rfl ⟨rfl, HN.out ▸ K6.out⟩

  · have z : (p.source == 3) = false := beq_eq_false_iff_ne.2 h1
    clear h c3 c4
    go_upto_region 5 with (fail)
    refine wp_region_list ?_
    refine wpList_load_row rfl 34 _ rfl nb rfl 34 (cellsT p) (0, 0) _ K0.out rfl rfl infoRP ?_
    refine wpList_store_row rfl 34 _ _ rfl (nb + 1) (cellsT p) rfl rfl 34 _ K1.out infoRP rfl (cellsT_one p) ?_
    have K5 := Lib.hid ((K1.out).row p)
    have K6 := Lib.hid (below_row KB.out (g := nb + 1) (by omega) (cellsT p))
    go_wp2
    exact bodyPost_ret (v := .agg (cellsT p)) (results_cell_row rfl _ _ (nb + 1) 34 (cellsT p) (0, 0) _ rfl K5.out rfl rfl infoRP) rfl ⟨rfl, HN.out ▸ K6.out⟩

theorem rage_w (p X : Pt) (w : World) (hX : Hid (ageP p = X)) :
    Calls Try.prog 13 #[.agg (cellsT p)] w fun e w' => e = .returned (.agg (cellsT X)) ∧ Below w.heap.size w w' := by
  rw [← hX.out]
  unfold ageP
  by_cases h : p.source = 3 ∧ p.info = 0 ∧ p.update = false
  · rw [if_pos h]
    exact rage_yes_w p _ w h.1 h.2.1 h.2.2 (Lib.hid rfl)
  · rw [if_neg h]
    exact rage_no_w p w h

theorem bit_any (f : Int) (n : Nat) (w : World) (hn : n < 8) (hf : 0 ≤ f) :
    Calls Try.prog 35 #[.int .i64 f, .int .i64 (n : Nat)] w fun e w' => e = .returned (.bool (bitB f n)) ∧ w = w' := by
  have hn0 : (0 : Int) ≤ n := by omega
  have hn8 : (n : Int) < 64 := by omega
  have hd : 0 ≤ f / 2 ^ n := Int.ediv_nonneg hf (by exact Int.le_of_lt (Int.pow_pos (by omega)))
  have ht : (f / 2 ^ n).tmod 2 = f / 2 ^ n % 2 := Int.tmod_eq_emod_of_nonneg hd
  clear hd
  go_enter Try.func35, Try.ntmps35
  go_wp2
  all_goals go_ret
  exact ⟨ret_bool rfl, rfl⟩
theorem bit_w (f : Int) (n : Nat) (N : Int) (B : Bool) (w : World) (hN : N = (n : Nat)) (hn : n < 8) (hf : 0 ≤ f) (hB : Hid (bitB f n = B)) :
    Calls Try.prog 35 #[.int .i64 f, .int .i64 N] w fun e w' => e = .returned (.bool B) ∧ w = w' := by
  rw [← hB.out, hN]
  exact bit_any f n w hn hf
end Go.Proofs.Ytbiggckddoeghaa
