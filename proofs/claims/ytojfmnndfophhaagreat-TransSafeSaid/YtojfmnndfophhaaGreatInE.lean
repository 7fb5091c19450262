/-
  Layer 11: Power, Age, Settle.
-/
import Derived.Test.YtojfmnndfophhaaGreatInD
namespace Go.Proofs.YtojfmnndfophhaaGreat
set_option linter.unusedVariables false
set_option linter.unusedSimpArgs false
open Go.RowKit Vm Rm Bm Im

theorem behind1_w (f0 : Nat) (c0 : Array Value) (X0 X1 : Pt) (T : TypeId) (g cap : Nat) (w : World) (hrow : w.heap[g]? = some (.cells #[.func (.func f0) #[] c0] T (0, 0))) (d0 : Does w f0 c0 X0 X1) :
    Calls Tryz.prog 22 #[.agg (cellsT X0), .slice (some ⟨g, 0, none⟩) (1 : Nat) cap] w fun e w' => e = .returned (.agg (cellsT X1)) ∧ Below w.heap.size w w' := by
  refine behind_w (fun _ => f0) (fun _ => c0) 1 g cap (fun k => match k with | 0 => X0 | _ => X1) X0 X1 w ⟨(Array.getElem?_eq_some_iff.1 hrow).1, ?_⟩ (by omega) rfl rfl ?_
  · intro k hk
    obtain rfl : k = 0 := by omega
    exact (cell_of_row w g 0 _ T _ hrow).trans rfl
  · intro k hk
    obtain rfl : k = 0 := by omega
    exact d0
theorem behind2_w (f0 f1 : Nat) (c0 c1 : Array Value) (X0 X1 X2 : Pt) (T : TypeId) (g cap : Nat) (w : World) (hrow : w.heap[g]? = some (.cells #[.func (.func f0) #[] c0, .func (.func f1) #[] c1] T (0, 0))) (d0 : Does w f0 c0 X0 X1) (d1 : Does w f1 c1 X1 X2) :
    Calls Tryz.prog 22 #[.agg (cellsT X0), .slice (some ⟨g, 0, none⟩) (2 : Nat) cap] w fun e w' => e = .returned (.agg (cellsT X2)) ∧ Below w.heap.size w w' := by
  refine behind_w (fun k => match k with | 0 => f0 | _ => f1) (fun k => match k with | 0 => c0 | _ => c1) 2 g cap (fun k => match k with | 0 => X0 | 1 => X1 | _ => X2) X0 X2 w ⟨(Array.getElem?_eq_some_iff.1 hrow).1, ?_⟩ (by omega) rfl rfl ?_
  · intro k hk
    obtain rfl | rfl : k = 0 ∨ k = 1 := by omega
    · exact (cell_of_row w g 0 _ T _ hrow).trans rfl
    · exact (cell_of_row w g 1 _ T _ hrow).trans rfl
  · intro k hk
    obtain rfl | rfl : k = 0 ∨ k = 1 := by omega
    · exact d0
    · exact d1

theorem does_as {w : World} {f : Nat} {c : Array Value} {X Y Z : Pt} (h : Does w f c X Y) (e : Y = Z) : Does w f c X Z := e ▸ h
theorem does_powerOn (w0 : World) (p : Pt) : Does w0 23 #[] p { p with on := true } :=
  ⟨fun _ _ => by kernel_rfl, fun w b h _ _ => by rw [Array.append_empty]; exact powerOn_w b p w h⟩
theorem does_powerOff (w0 : World) (p : Pt) : Does w0 25 #[] p { p with on := false, oper := p.admin } :=
  ⟨fun _ _ => by kernel_rfl, fun w b h _ _ => by rw [Array.append_empty]; exact powerOff_w b p w h⟩
theorem does_age (w0 : World) (p : Pt) : Does w0 24 #[] p { p with source := 1, reselect := true, ready := false } :=
  ⟨fun _ _ => by kernel_rfl, fun w b h _ _ => by rw [Array.append_empty]; exact age_w b p w h⟩
theorem does_letGo (w0 : World) (p : Pt) : Does w0 26 #[] p { p with source := 0, proposing := false, proposed := false, agree := false, agreed := false, info := 0, reselect := true, ready := false } :=
  ⟨fun _ _ => by kernel_rfl, fun w b h _ _ => by rw [Array.append_empty]; exact letGo_w b p w h⟩

set_option maxRecDepth 20000 in
set_option maxHeartbeats 1000000 in
theorem power_same_w (p : Pt) (on : Bool) (w : World) (h : p.on = on) :
    Calls Tryz.prog 16 #[.agg (cellsT p), .bool on] w fun e w' => e = .returned (.agg (cellsT p)) ∧ Below w.heap.size w w' := by
  obtain ⟨W, nb, HW, HN, k0, k1, kB⟩ := twoP_is 34 w p
  have K0 := Lib.hid k0
  have K1 := Lib.hid k1
  have KB := Lib.hid kB
  have hsz := k1.lt
  have c2 := k0.c_on
  rw [h] at c2
  clear k0 k1 kB h
  go_enter Tryz.func16, Tryz.ntmps16
  go_upto_region 1 with (fail)
  refine wp_to (W := W) (by exact HW.out.symm) ?_
  rw [HN.out]
  cases on
  · go_upto_region 5 with (fail)
    refine wp_region_list ?_
    refine wpList_load_row rfl 34 _ rfl nb rfl 34 (cellsT p) (0, 0) _ K0.out rfl rfl infoSP ?_
    refine wpList_store_row rfl 34 _ _ rfl (nb + 1) (cellsT p) rfl rfl 34 _ K1.out infoSP rfl (cellsT_one p) ?_
    have K5 := Lib.hid (K1.out.row p)
    have K6 := Lib.hid (below_row KB.out (g := nb + 1) (by omega) (cellsT p))
    go_wp2
    exact bodyPost_ret (v := .agg (cellsT p)) (results_cell_row rfl _ _ (nb + 1) 34 (cellsT p) (0, 0) _ rfl K5.out rfl rfl infoSP) rfl ⟨rfl, HN.out ▸ K6.out⟩
  · go_upto_region 5 with (fail)
    refine wp_region_list ?_
    refine wpList_load_row rfl 34 _ rfl nb rfl 34 (cellsT p) (0, 0) _ K0.out rfl rfl infoSP ?_
    refine wpList_store_row rfl 34 _ _ rfl (nb + 1) (cellsT p) rfl rfl 34 _ K1.out infoSP rfl (cellsT_one p) ?_
    have K5 := Lib.hid (K1.out.row p)
    have K6 := Lib.hid (below_row KB.out (g := nb + 1) (by omega) (cellsT p))
    go_wp2
    exact bodyPost_ret (v := .agg (cellsT p)) (results_cell_row rfl _ _ (nb + 1) 34 (cellsT p) (0, 0) _ rfl K5.out rfl rfl infoSP) rfl ⟨rfl, HN.out ▸ K6.out⟩

set_option maxRecDepth 20000 in
set_option maxHeartbeats 1000000 in
theorem power_on_w (p X : Pt) (w : World) (h : p.on = false) (hX : Hid ({ p with on := true, source := 1, reselect := true, ready := false } = X)) :
    Calls Tryz.prog 16 #[.agg (cellsT p), .bool true] w fun e w' => e = .returned (.agg (cellsT X)) ∧ Below w.heap.size w w' := by
  obtain ⟨W, nb, HW, HN, k0, k1, kB⟩ := twoP_is 34 w p
  have K0 := Lib.hid k0
  have K1 := Lib.hid k1
  have KB := Lib.hid kB
  have hsz := k1.lt
  have c2 := k0.c_on
  rw [h] at c2
  clear k0 k1 kB h
  go_enter Tryz.func16, Tryz.ntmps16
  go_upto_region 1 with (fail)
  refine wp_to (W := W) (by exact HW.out.symm) ?_
  rw [HN.out]
  go_upto_region 2 with (fail)
  refine wp_region_list ?_
  refine wpList_load_row rfl 34 _ rfl nb rfl 34 (cellsT p) (0, 0) _ K0.out rfl rfl infoSP ?_
  go_wp2_with fail
  refine (behind2_w _ _ _ _ p _ _ _ W.heap.size _ _ (heap_alloc_new W _) (does_powerOn _ p) (does_as (does_age _ _) hX.out)).mono ?_
  rintro e w1 ⟨rfl, hb1⟩
  dsimp only
  have hB := Lib.hid (bw_trans (below_box W _) hb1)
  clear hb1
  have K2 := Lib.hid (K1.out.next hB.out)
  have st := K2.out.stores X
  have sz := cellsT_size X
  have K5 := Lib.hid (K2.out.row X)
  have K6 := Lib.hid (below_row (KB.out.trans (hB.out.mono (by omega))) (g := nb + 1) (by omega) (cellsT X))
  go_wp2
  exact bodyPost_ret (v := .agg (cellsT X)) (results_cell_row rfl _ _ (nb + 1) 34 (cellsT X) (0, 0) _ rfl K5.out rfl rfl infoSP) rfl ⟨rfl, HN.out ▸ K6.out⟩

set_option maxRecDepth 20000 in
set_option maxHeartbeats 1000000 in
theorem power_off_w (p X : Pt) (w : World) (h : p.on = true) (hX : Hid ({ p with on := false, source := 0, proposing := false, proposed := false, agree := false, agreed := false, info := 0, reselect := true, ready := false, oper := p.admin } = X)) :
    Calls Tryz.prog 16 #[.agg (cellsT p), .bool false] w fun e w' => e = .returned (.agg (cellsT X)) ∧ Below w.heap.size w w' := by
  obtain ⟨W, nb, HW, HN, k0, k1, kB⟩ := twoP_is 34 w p
  have K0 := Lib.hid k0
  have K1 := Lib.hid k1
  have KB := Lib.hid kB
  have hsz := k1.lt
  have c2 := k0.c_on
  rw [h] at c2
  clear k0 k1 kB h
  go_enter Tryz.func16, Tryz.ntmps16
  go_upto_region 1 with (fail)
  refine wp_to (W := W) (by exact HW.out.symm) ?_
  rw [HN.out]
  go_upto_region 4 with (fail)
  refine wp_region_list ?_
  refine wpList_load_row rfl 34 _ rfl nb rfl 34 (cellsT p) (0, 0) _ K0.out rfl rfl infoSP ?_
  go_wp2_with fail
  refine (behind2_w _ _ _ _ p _ _ _ W.heap.size _ _ (heap_alloc_new W _) (does_powerOff _ p) (does_as (does_letGo _ _) hX.out)).mono ?_
  rintro e w1 ⟨rfl, hb1⟩
  dsimp only
  have hB := Lib.hid (bw_trans (below_box W _) hb1)
  clear hb1
  have K2 := Lib.hid (K1.out.next hB.out)
  have st := K2.out.stores X
  have sz := cellsT_size X
  have K5 := Lib.hid (K2.out.row X)
  have K6 := Lib.hid (below_row (KB.out.trans (hB.out.mono (by omega))) (g := nb + 1) (by omega) (cellsT X))
  go_wp2
  exact bodyPost_ret (v := .agg (cellsT X)) (results_cell_row rfl _ _ (nb + 1) 34 (cellsT X) (0, 0) _ rfl K5.out rfl rfl infoSP) rfl ⟨rfl, HN.out ▸ K6.out⟩

theorem power_w (p X : Pt) (on : Bool) (w : World) (hX : Hid (powerP p on = X)) :
    Calls Tryz.prog 16 #[.agg (cellsT p), .bool on] w fun e w' => e = .returned (.agg (cellsT X)) ∧ Below w.heap.size w w' := by
  rw [← hX.out]
  unfold powerP
  by_cases h : on = p.on
  · rw [if_pos h]
    exact power_same_w p on w h.symm
  · rw [if_neg h]
    cases on
    · cases hp : p.on
      · rw [hp] at h; exact absurd rfl h
      · rw [if_neg (by simp)]
        exact power_off_w p _ w hp (Lib.hid rfl)
    · cases hp : p.on
      · rw [if_pos rfl]
        exact power_on_w p _ w hp (Lib.hid rfl)
      · rw [hp] at h; exact absurd rfl h

end Go.Proofs.YtojfmnndfophhaaGreat
