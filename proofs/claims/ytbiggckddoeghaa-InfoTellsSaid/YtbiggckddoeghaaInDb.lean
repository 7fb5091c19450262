/-
  Layer 11: the document's Settle.
-/
import Derived.Test.YtbiggckddoeghaaInDa
namespace Go.Proofs.Ytbiggckddoeghaa
set_option linter.unusedVariables false
set_option linter.unusedSimpArgs false
open Go.RowKit Vm Rm Bm Im

set_option maxRecDepth 20000 in
set_option maxHeartbeats 2000000 in
theorem rsettle_ne_w (p X : Pt) (w : World) (h1 : p.ready = true) (h2 : p.update = true) (hv : ¬ p.offer = p.vec) (hX : Hid ({ p with proposing := false, proposed := false, agreed := false, synced := false, vec := ⟨p.offer.root, p.offer.cost, p.offer.bridge, p.offer.port⟩, times := ⟨p.given.age, p.given.max, p.given.hello, p.given.delay⟩, update := false, source := 2, newInfo := true } = X)) :
    Calls Try.prog 15 #[.agg (cellsT p)] w fun e w' => e = .returned (.agg (cellsT X)) ∧ Below w.heap.size w w' := by
  obtain ⟨W, nb, HW, HN, k0, k1, kB⟩ := twoP_is 34 w p
  have K0 := Lib.hid k0
  have K1 := Lib.hid k1
  have KB := Lib.hid kB
  have hsz := k1.lt
  have c2 := k0.c_ready
  have c4 := k0.c_update
  rw [h1] at c2
  rw [h2] at c4
  have c5 := k0.c_agreed
  have c6 := k0.c_synced
  have c7 := k0.c_proposing
  have c8 := k0.c_proposed
  have c9 := k0.c_source
  have c10 := k0.c_newInfo
  obtain ⟨⟨p6, p7, p8, p9, p10, p11, p12, p13⟩, ⟨p14, p15, p16, p17, p18, p19, p20, p21⟩⟩ := k0.rds
  have f := k0.free
  have hN := run_vcNe p.offer.root p.offer.cost p.offer.bridge p.offer.port p.vec.root p.vec.cost p.vec.bridge p.vec.port
  rw [show decide ((⟨p.offer.root, p.offer.cost, p.offer.bridge, p.offer.port⟩ : Vc) = ⟨p.vec.root, p.vec.cost, p.vec.bridge, p.vec.port⟩) = false from decide_eq_false hv] at hN
  unfold vv at hN
  have KX := Lib.hid (show PtBlk 34 _ nb X from hX.out ▸ (((((((((K0.out.s_proposing false).s_proposed false).s_agreed false).s_synced false).s_vec p.offer.root p.offer.cost p.offer.bridge p.offer.port).s_times p.given.age p.given.max p.given.hello p.given.delay).s_update false).s_source 2).s_newInfo true))
  have KY := Lib.hid (((((((((((((((K1.out.far (c := nb) 34 (.bool false) (by omega)).far (c := nb) 33 (.bool false) (by omega)).far (c := nb) 32 (.bool false) (by omega)).far (c := nb) 36 (.bool false) (by omega)).far (c := nb) 6 (.int .u64 p.offer.root) (by omega)).far (c := nb) 7 (.int .u64 p.offer.cost) (by omega)).far (c := nb) 8 (.int .u64 p.offer.bridge) (by omega)).far (c := nb) 9 (.int .u64 p.offer.port) (by omega)).far (c := nb) 10 (.int .i64 p.given.age) (by omega)).far (c := nb) 11 (.int .i64 p.given.max) (by omega)).far (c := nb) 12 (.int .i64 p.given.hello) (by omega)).far (c := nb) 13 (.int .i64 p.given.delay) (by omega)).far (c := nb) 25 (.bool false) (by omega)).far (c := nb) 5 (.int .i64 2) (by omega)).far (c := nb) 39 (.bool true) (by omega))
  have KT := Lib.hid (((((((((((((((KB.out.setCell (p := ⟨nb, 34, none⟩) (Nat.le_refl _) (.bool false)).setCell (p := ⟨nb, 33, none⟩) (Nat.le_refl _) (.bool false)).setCell (p := ⟨nb, 32, none⟩) (Nat.le_refl _) (.bool false)).setCell (p := ⟨nb, 36, none⟩) (Nat.le_refl _) (.bool false)).setCell (p := ⟨nb, 6, none⟩) (Nat.le_refl _) (.int .u64 p.offer.root)).setCell (p := ⟨nb, 7, none⟩) (Nat.le_refl _) (.int .u64 p.offer.cost)).setCell (p := ⟨nb, 8, none⟩) (Nat.le_refl _) (.int .u64 p.offer.bridge)).setCell (p := ⟨nb, 9, none⟩) (Nat.le_refl _) (.int .u64 p.offer.port)).setCell (p := ⟨nb, 10, none⟩) (Nat.le_refl _) (.int .i64 p.given.age)).setCell (p := ⟨nb, 11, none⟩) (Nat.le_refl _) (.int .i64 p.given.max)).setCell (p := ⟨nb, 12, none⟩) (Nat.le_refl _) (.int .i64 p.given.hello)).setCell (p := ⟨nb, 13, none⟩) (Nat.le_refl _) (.int .i64 p.given.delay)).setCell (p := ⟨nb, 25, none⟩) (Nat.le_refl _) (.bool false)).setCell (p := ⟨nb, 5, none⟩) (Nat.le_refl _) (.int .i64 2)).setCell (p := ⟨nb, 39, none⟩) (Nat.le_refl _) (.bool true))
  clear k0 k1 kB h1 h2 hv
  go_enter Try.func15, Try.ntmps15
  go_upto_region 1 with (fail)
  refine wp_to (W := W) (by exact HW.out.symm) ?_
  rw [HN.out]
  go_upto_region 13 with (fail)
  refine wp_region_list ?_
  refine wpList_load_row rfl 34 _ rfl nb rfl 34 (cellsT X) (0, 0) _ KX.out rfl rfl infoRP ?_
  refine wpList_store_row rfl 34 _ _ rfl (nb + 1) (cellsT X) rfl rfl 34 _ KY.out infoRP rfl (cellsT_one X) ?_
  have K5 := Lib.hid ((KY.out).row X)
  have K6 := Lib.hid (below_row KT.out (g := nb + 1) (by omega) (cellsT X))
  go_wp2
  exact bodyPost_ret (v := .agg (cellsT X)) (results_cell_row rfl _ _ (nb + 1) 34 (cellsT X) (0, 0) _ rfl K5.out rfl rfl infoRP) rfl ⟨rfl, HN.out ▸ K6.out⟩
set_option maxRecDepth 20000 in
set_option maxHeartbeats 2000000 in
theorem rsettle_na_w (p X : Pt) (w : World) (h1 : p.ready = true) (h2 : p.update = true) (hv : p.offer = p.vec) (ha : p.agreed = false) (hX : Hid ({ p with proposing := false, proposed := false, synced := false, vec := ⟨p.offer.root, p.offer.cost, p.offer.bridge, p.offer.port⟩, times := ⟨p.given.age, p.given.max, p.given.hello, p.given.delay⟩, update := false, source := 2, newInfo := true } = X)) :
    Calls Try.prog 15 #[.agg (cellsT p)] w fun e w' => e = .returned (.agg (cellsT X)) ∧ Below w.heap.size w w' := by
  obtain ⟨W, nb, HW, HN, k0, k1, kB⟩ := twoP_is 34 w p
  have K0 := Lib.hid k0
  have K1 := Lib.hid k1
  have KB := Lib.hid kB
  have hsz := k1.lt
  have c2 := k0.c_ready
  have c4 := k0.c_update
  rw [h1] at c2
  rw [h2] at c4
  have c5 := k0.c_agreed
  have c6 := k0.c_synced
  have c7 := k0.c_proposing
  have c8 := k0.c_proposed
  have c9 := k0.c_source
  have c10 := k0.c_newInfo
  obtain ⟨⟨p6, p7, p8, p9, p10, p11, p12, p13⟩, ⟨p14, p15, p16, p17, p18, p19, p20, p21⟩⟩ := k0.rds
  have f := k0.free
  have hN := run_vcNe p.offer.root p.offer.cost p.offer.bridge p.offer.port p.vec.root p.vec.cost p.vec.bridge p.vec.port
  rw [show decide ((⟨p.offer.root, p.offer.cost, p.offer.bridge, p.offer.port⟩ : Vc) = ⟨p.vec.root, p.vec.cost, p.vec.bridge, p.vec.port⟩) = true from decide_eq_true hv] at hN
  unfold vv at hN
  rw [ha] at c5
  have KX := Lib.hid (show PtBlk 34 _ nb X from hX.out ▸ ((((((((K0.out.s_proposing false).s_proposed false).s_synced false).s_vec p.offer.root p.offer.cost p.offer.bridge p.offer.port).s_times p.given.age p.given.max p.given.hello p.given.delay).s_update false).s_source 2).s_newInfo true))
  have KY := Lib.hid ((((((((((((((K1.out.far (c := nb) 34 (.bool false) (by omega)).far (c := nb) 33 (.bool false) (by omega)).far (c := nb) 36 (.bool false) (by omega)).far (c := nb) 6 (.int .u64 p.offer.root) (by omega)).far (c := nb) 7 (.int .u64 p.offer.cost) (by omega)).far (c := nb) 8 (.int .u64 p.offer.bridge) (by omega)).far (c := nb) 9 (.int .u64 p.offer.port) (by omega)).far (c := nb) 10 (.int .i64 p.given.age) (by omega)).far (c := nb) 11 (.int .i64 p.given.max) (by omega)).far (c := nb) 12 (.int .i64 p.given.hello) (by omega)).far (c := nb) 13 (.int .i64 p.given.delay) (by omega)).far (c := nb) 25 (.bool false) (by omega)).far (c := nb) 5 (.int .i64 2) (by omega)).far (c := nb) 39 (.bool true) (by omega))
  have KT := Lib.hid ((((((((((((((KB.out.setCell (p := ⟨nb, 34, none⟩) (Nat.le_refl _) (.bool false)).setCell (p := ⟨nb, 33, none⟩) (Nat.le_refl _) (.bool false)).setCell (p := ⟨nb, 36, none⟩) (Nat.le_refl _) (.bool false)).setCell (p := ⟨nb, 6, none⟩) (Nat.le_refl _) (.int .u64 p.offer.root)).setCell (p := ⟨nb, 7, none⟩) (Nat.le_refl _) (.int .u64 p.offer.cost)).setCell (p := ⟨nb, 8, none⟩) (Nat.le_refl _) (.int .u64 p.offer.bridge)).setCell (p := ⟨nb, 9, none⟩) (Nat.le_refl _) (.int .u64 p.offer.port)).setCell (p := ⟨nb, 10, none⟩) (Nat.le_refl _) (.int .i64 p.given.age)).setCell (p := ⟨nb, 11, none⟩) (Nat.le_refl _) (.int .i64 p.given.max)).setCell (p := ⟨nb, 12, none⟩) (Nat.le_refl _) (.int .i64 p.given.hello)).setCell (p := ⟨nb, 13, none⟩) (Nat.le_refl _) (.int .i64 p.given.delay)).setCell (p := ⟨nb, 25, none⟩) (Nat.le_refl _) (.bool false)).setCell (p := ⟨nb, 5, none⟩) (Nat.le_refl _) (.int .i64 2)).setCell (p := ⟨nb, 39, none⟩) (Nat.le_refl _) (.bool true))
  clear k0 k1 kB h1 h2 hv ha
  go_enter Try.func15, Try.ntmps15
  go_upto_region 1 with (fail)
  refine wp_to (W := W) (by exact HW.out.symm) ?_
  rw [HN.out]
  go_upto_region 13 with (fail)
  refine wp_region_list ?_
  refine wpList_load_row rfl 34 _ rfl nb rfl 34 (cellsT X) (0, 0) _ KX.out rfl rfl infoRP ?_
  refine wpList_store_row rfl 34 _ _ rfl (nb + 1) (cellsT X) rfl rfl 34 _ KY.out infoRP rfl (cellsT_one X) ?_
  have K5 := Lib.hid ((KY.out).row X)
  have K6 := Lib.hid (below_row KT.out (g := nb + 1) (by omega) (cellsT X))
  go_wp2
  exact bodyPost_ret (v := .agg (cellsT X)) (results_cell_row rfl _ _ (nb + 1) 34 (cellsT X) (0, 0) _ rfl K5.out rfl rfl infoRP) rfl ⟨rfl, HN.out ▸ K6.out⟩
set_option maxRecDepth 20000 in
set_option maxHeartbeats 2000000 in
theorem rsettle_eq_w (p X : Pt) (w : World) (h1 : p.ready = true) (h2 : p.update = true) (hv : p.offer = p.vec) (ha : p.agreed = true) (hX : Hid ({ p with proposing := false, proposed := false, vec := ⟨p.offer.root, p.offer.cost, p.offer.bridge, p.offer.port⟩, times := ⟨p.given.age, p.given.max, p.given.hello, p.given.delay⟩, update := false, source := 2, newInfo := true } = X)) :
    Calls Try.prog 15 #[.agg (cellsT p)] w fun e w' => e = .returned (.agg (cellsT X)) ∧ Below w.heap.size w w' := by
  obtain ⟨W, nb, HW, HN, k0, k1, kB⟩ := twoP_is 34 w p
  have K0 := Lib.hid k0
  have K1 := Lib.hid k1
  have KB := Lib.hid kB
  have hsz := k1.lt
  have c2 := k0.c_ready
  have c4 := k0.c_update
  rw [h1] at c2
  rw [h2] at c4
  have c5 := k0.c_agreed
  have c6 := k0.c_synced
  have c7 := k0.c_proposing
  have c8 := k0.c_proposed
  have c9 := k0.c_source
  have c10 := k0.c_newInfo
  obtain ⟨⟨p6, p7, p8, p9, p10, p11, p12, p13⟩, ⟨p14, p15, p16, p17, p18, p19, p20, p21⟩⟩ := k0.rds
  have f := k0.free
  have hN := run_vcNe p.offer.root p.offer.cost p.offer.bridge p.offer.port p.vec.root p.vec.cost p.vec.bridge p.vec.port
  rw [show decide ((⟨p.offer.root, p.offer.cost, p.offer.bridge, p.offer.port⟩ : Vc) = ⟨p.vec.root, p.vec.cost, p.vec.bridge, p.vec.port⟩) = true from decide_eq_true hv] at hN
  unfold vv at hN
  rw [ha] at c5
  have KX := Lib.hid (show PtBlk 34 _ nb X from hX.out ▸ (((((((K0.out.s_proposing false).s_proposed false).s_vec p.offer.root p.offer.cost p.offer.bridge p.offer.port).s_times p.given.age p.given.max p.given.hello p.given.delay).s_update false).s_source 2).s_newInfo true))
  have KY := Lib.hid (((((((((((((K1.out.far (c := nb) 34 (.bool false) (by omega)).far (c := nb) 33 (.bool false) (by omega)).far (c := nb) 6 (.int .u64 p.offer.root) (by omega)).far (c := nb) 7 (.int .u64 p.offer.cost) (by omega)).far (c := nb) 8 (.int .u64 p.offer.bridge) (by omega)).far (c := nb) 9 (.int .u64 p.offer.port) (by omega)).far (c := nb) 10 (.int .i64 p.given.age) (by omega)).far (c := nb) 11 (.int .i64 p.given.max) (by omega)).far (c := nb) 12 (.int .i64 p.given.hello) (by omega)).far (c := nb) 13 (.int .i64 p.given.delay) (by omega)).far (c := nb) 25 (.bool false) (by omega)).far (c := nb) 5 (.int .i64 2) (by omega)).far (c := nb) 39 (.bool true) (by omega))
  have KT := Lib.hid (((((((((((((KB.out.setCell (p := ⟨nb, 34, none⟩) (Nat.le_refl _) (.bool false)).setCell (p := ⟨nb, 33, none⟩) (Nat.le_refl _) (.bool false)).setCell (p := ⟨nb, 6, none⟩) (Nat.le_refl _) (.int .u64 p.offer.root)).setCell (p := ⟨nb, 7, none⟩) (Nat.le_refl _) (.int .u64 p.offer.cost)).setCell (p := ⟨nb, 8, none⟩) (Nat.le_refl _) (.int .u64 p.offer.bridge)).setCell (p := ⟨nb, 9, none⟩) (Nat.le_refl _) (.int .u64 p.offer.port)).setCell (p := ⟨nb, 10, none⟩) (Nat.le_refl _) (.int .i64 p.given.age)).setCell (p := ⟨nb, 11, none⟩) (Nat.le_refl _) (.int .i64 p.given.max)).setCell (p := ⟨nb, 12, none⟩) (Nat.le_refl _) (.int .i64 p.given.hello)).setCell (p := ⟨nb, 13, none⟩) (Nat.le_refl _) (.int .i64 p.given.delay)).setCell (p := ⟨nb, 25, none⟩) (Nat.le_refl _) (.bool false)).setCell (p := ⟨nb, 5, none⟩) (Nat.le_refl _) (.int .i64 2)).setCell (p := ⟨nb, 39, none⟩) (Nat.le_refl _) (.bool true))
  clear k0 k1 kB h1 h2 hv ha
  go_enter Try.func15, Try.ntmps15
  go_upto_region 1 with (fail)
  refine wp_to (W := W) (by exact HW.out.symm) ?_
  rw [HN.out]
  go_upto_region 13 with (fail)
  refine wp_region_list ?_
  refine wpList_load_row rfl 34 _ rfl nb rfl 34 (cellsT X) (0, 0) _ KX.out rfl rfl infoRP ?_
  refine wpList_store_row rfl 34 _ _ rfl (nb + 1) (cellsT X) rfl rfl 34 _ KY.out infoRP rfl (cellsT_one X) ?_
  have K5 := Lib.hid ((KY.out).row X)
  have K6 := Lib.hid (below_row KT.out (g := nb + 1) (by omega) (cellsT X))
  go_wp2
  exact bodyPost_ret (v := .agg (cellsT X)) (results_cell_row rfl _ _ (nb + 1) 34 (cellsT X) (0, 0) _ rfl K5.out rfl rfl infoRP) rfl ⟨rfl, HN.out ▸ K6.out⟩
set_option maxRecDepth 20000 in
set_option maxHeartbeats 2000000 in
theorem rsettle_no_w (p : Pt) (w : World) (h : ¬ (p.ready = true ∧ p.update = true)) :
    Calls Try.prog 15 #[.agg (cellsT p)] w fun e w' => e = .returned (.agg (cellsT p)) ∧ Below w.heap.size w w' := by
  obtain ⟨W, nb, HW, HN, k0, k1, kB⟩ := twoP_is 34 w p
  have K0 := Lib.hid k0
  have K1 := Lib.hid k1
  have KB := Lib.hid kB
  have hsz := k1.lt
  have c2 := k0.c_ready
  have c4 := k0.c_update
  clear k0 k1 kB
  go_enter Try.func15, Try.ntmps15
  go_upto_region 1 with (fail)
  refine wp_to (W := W) (by exact HW.out.symm) ?_
  rw [HN.out]
  cases h1 : p.ready
  · rw [h1] at c2
    clear h h1 c4
    go_upto_region 13 with (fail)
    refine wp_region_list ?_
    refine wpList_load_row rfl 34 _ rfl nb rfl 34 (cellsT p) (0, 0) _ K0.out rfl rfl infoRP ?_
    refine wpList_store_row rfl 34 _ _ rfl (nb + 1) (cellsT p) rfl rfl 34 _ K1.out infoRP rfl (cellsT_one p) ?_
    have K5 := Lib.hid ((K1.out).row p)
    have K6 := Lib.hid (below_row KB.out (g := nb + 1) (by omega) (cellsT p))
    go_wp2
    exact bodyPost_ret (v := .agg (cellsT p)) (results_cell_row rfl _ _ (nb + 1) 34 (cellsT p) (0, 0) _ rfl K5.out rfl rfl infoRP) rfl ⟨rfl, HN.out ▸ K6.out⟩

  · have h3 : p.update = false := by
      cases hu : p.update
      · rfl
      · exact absurd ⟨h1, hu⟩ h
    rw [h1] at c2
    rw [h3] at c4
    clear h h1 h3
    go_upto_region 13 with (fail)
    refine wp_region_list ?_
    refine wpList_load_row rfl 34 _ rfl nb rfl 34 (cellsT p) (0, 0) _ K0.out rfl rfl infoRP ?_
    refine wpList_store_row rfl 34 _ _ rfl (nb + 1) (cellsT p) rfl rfl 34 _ K1.out infoRP rfl (cellsT_one p) ?_
    have K5 := Lib.hid ((K1.out).row p)
    have K6 := Lib.hid (below_row KB.out (g := nb + 1) (by omega) (cellsT p))
    go_wp2
    exact bodyPost_ret (v := .agg (cellsT p)) (results_cell_row rfl _ _ (nb + 1) 34 (cellsT p) (0, 0) _ rfl K5.out rfl rfl infoRP) rfl ⟨rfl, HN.out ▸ K6.out⟩

theorem rsettle_w (p X : Pt) (w : World) (hX : Hid (settleP p = X)) :
    Calls Try.prog 15 #[.agg (cellsT p)] w fun e w' => e = .returned (.agg (cellsT X)) ∧ Below w.heap.size w w' := by
  unfold settleP at hX
  by_cases h : p.ready = true ∧ p.update = true
  · rw [if_pos h] at hX
    by_cases hv : p.offer = p.vec
    · cases ha : p.agreed with
      | false =>
        refine rsettle_na_w p X w h.1 h.2 hv ha (Lib.hid ?_)
        rw [← hX.out]
        simp [ha]
      | true =>
        refine rsettle_eq_w p X w h.1 h.2 hv ha (Lib.hid ?_)
        rw [← hX.out]
        simp [ha, hv]
    · refine rsettle_ne_w p X w h.1 h.2 hv (Lib.hid ?_)
      rw [← hX.out]
      simp [hv]
  · rw [if_neg h] at hX
    have e := hX.out
    subst e
    exact rsettle_no_w p w h
end Go.Proofs.Ytbiggckddoeghaa
