/-
  Layer 11: Settle; meet and answer; Hear.
-/
import Derived.Test.YtojfmnndfophhaaGreatInJ
namespace Go.Proofs.YtojfmnndfophhaaGreat
set_option linter.unusedVariables false
set_option linter.unusedSimpArgs false
open Go.RowKit Vm Rm Bm Im

theorem does_settle (w0 : World) (p X : Pt) (hX : Hid ({ p with proposing := false, proposed := false, agreed := p.agreed && decide (p.offer = p.vec), synced := p.synced && (p.agreed && decide (p.offer = p.vec)), vec := p.offer, times := p.given, update := false, source := 2, newInfo := true } = X)) : Does w0 33 #[] p X :=
  ⟨fun _ _ => by kernel_rfl, fun w b h _ _ => by rw [Array.append_empty]; exact settle_w b p X w h hX⟩

set_option maxRecDepth 20000 in
set_option maxHeartbeats 1000000 in
theorem settle_yes_w (p X : Pt) (w : World) (h1 : p.ready = true) (h2 : p.update = true) (hX : Hid ({ p with proposing := false, proposed := false, agreed := p.agreed && decide (p.offer = p.vec), synced := p.synced && (p.agreed && decide (p.offer = p.vec)), vec := p.offer, times := p.given, update := false, source := 2, newInfo := true } = X)) :
    Calls Tryz.prog 19 #[.agg (cellsT p)] w fun e w' => e = .returned (.agg (cellsT X)) ∧ Below w.heap.size w w' := by
  obtain ⟨W, nb, HW, HN, k0, k1, kB⟩ := twoP_is 34 w p
  have K0 := Lib.hid k0
  have K1 := Lib.hid k1
  have KB := Lib.hid kB
  have hsz := k1.lt
  have c2 := k0.c_ready
  have c4 := k0.c_update
  rw [h1] at c2
  rw [h2] at c4
  clear k0 k1 kB h1 h2
  go_enter Tryz.func19, Tryz.ntmps19
  go_upto_region 1 with (fail)
  refine wp_to (W := W) (by exact HW.out.symm) ?_
  rw [HN.out]
  go_upto_region 3 with (fail)
  refine wp_region_list ?_
  refine wpList_load_row rfl 34 _ rfl nb rfl 34 (cellsT p) (0, 0) _ K0.out rfl rfl infoSP ?_
  go_wp2_with fail
  refine (behind1_w _ _ p _ _ W.heap.size _ _ (heap_alloc_new W _) (does_settle _ p X hX)).mono ?_
  rintro e w1 ⟨rfl, hb1⟩
  dsimp only
  have hB := Lib.hid (bw_trans (below_box W _) hb1)
  clear hb1
  have K2 := Lib.hid (K1.out.next hB.out)
  have st := K2.out.stores X
  have sz := cellsT_size X
  have K5 := Lib.hid (K2.out.row X)
  have K6 := Lib.hid (below_row (KB.out.trans (hB.out.mono (by omega))) (g := nb + 1) (by omega) (cellsT X))
  go_wp2
  exact bodyPost_ret (v := .agg (cellsT X)) (results_cell_row rfl _ _ (nb + 1) 34 (cellsT X) (0, 0) _ rfl K5.out rfl rfl infoSP) rfl ⟨rfl, HN.out ▸ K6.out⟩

set_option maxRecDepth 20000 in
set_option maxHeartbeats 1000000 in
theorem settle_stays_w (p : Pt) (w : World) (h : ¬ (p.ready = true ∧ p.update = true)) :
    Calls Tryz.prog 19 #[.agg (cellsT p)] w fun e w' => e = .returned (.agg (cellsT p)) ∧ Below w.heap.size w w' := by
  obtain ⟨W, nb, HW, HN, k0, k1, kB⟩ := twoP_is 34 w p
  have K0 := Lib.hid k0
  have K1 := Lib.hid k1
  have KB := Lib.hid kB
  have hsz := k1.lt
  have c2 := k0.c_ready
  have c4 := k0.c_update
  clear k0 k1 kB
  go_enter Tryz.func19, Tryz.ntmps19
  go_upto_region 1 with (fail)
  refine wp_to (W := W) (by exact HW.out.symm) ?_
  rw [HN.out]
  cases h1 : p.ready
  · rw [h1] at c2
    clear h h1 c4
    go_upto_region 2 with (fail)
    refine wp_region_list ?_
    refine wpList_load_row rfl 34 _ rfl nb rfl 34 (cellsT p) (0, 0) _ K0.out rfl rfl infoSP ?_
    refine wpList_store_row rfl 34 _ _ rfl (nb + 1) (cellsT p) rfl rfl 34 _ K1.out infoSP rfl (cellsT_one p) ?_
    have K5 := Lib.hid (K1.out.row p)
    have K6 := Lib.hid (below_row KB.out (g := nb + 1) (by omega) (cellsT p))
    go_wp2
    exact bodyPost_ret (v := .agg (cellsT p)) (results_cell_row rfl _ _ (nb + 1) 34 (cellsT p) (0, 0) _ rfl K5.out rfl rfl infoSP) rfl ⟨rfl, HN.out ▸ K6.out⟩
  · have h3 : p.update = false := by
      cases hu : p.update
      · rfl
      · exact absurd ⟨h1, hu⟩ h
    rw [h1] at c2
    rw [h3] at c4
    clear h h1 h3
    go_upto_region 2 with (fail)
    refine wp_region_list ?_
    refine wpList_load_row rfl 34 _ rfl nb rfl 34 (cellsT p) (0, 0) _ K0.out rfl rfl infoSP ?_
    refine wpList_store_row rfl 34 _ _ rfl (nb + 1) (cellsT p) rfl rfl 34 _ K1.out infoSP rfl (cellsT_one p) ?_
    have K5 := Lib.hid (K1.out.row p)
    have K6 := Lib.hid (below_row KB.out (g := nb + 1) (by omega) (cellsT p))
    go_wp2
    exact bodyPost_ret (v := .agg (cellsT p)) (results_cell_row rfl _ _ (nb + 1) 34 (cellsT p) (0, 0) _ rfl K5.out rfl rfl infoSP) rfl ⟨rfl, HN.out ▸ K6.out⟩
theorem settle11_w (p X : Pt) (w : World) (hX : Hid (settleP p = X)) :
    Calls Tryz.prog 19 #[.agg (cellsT p)] w fun e w' => e = .returned (.agg (cellsT X)) ∧ Below w.heap.size w w' := by
  unfold settleP at hX
  by_cases h : p.ready = true ∧ p.update = true
  · rw [if_pos h] at hX
    exact settle_yes_w p X w h.1 h.2 hX
  · rw [if_neg h] at hX
    have e := hX.out
    subst e
    exact settle_stays_w p w h

/-! meet and answer: what they hand back, and what that does. -/
/-- What is done besides, by what was heard. -/
def answerP (k : Int) (p : Pt) (q : Bp) : Pt := if k = 1 then superP p q else if k = 2 then recordP p q else if k = 3 then inferiorP p q else if k = 4 then otherP p q else p


end Go.Proofs.YtojfmnndfophhaaGreat
