/-
  Layer 14: check, sense, what is done in each of the three ways, Tongue, Edge; layer 10: runs, countDown, eachTimer, Tick.
  Layer 10: eachTimer, Tick, toldRole, the closure of Flags, Flags; layer 14: fine, tellsEachHello.
-/
import Derived.Test.YtldobcfejldbiaaGreatDoorMaa
import Derived.Test.YtldobcfejldbiaaGreatDoorMap
namespace Go.Proofs.YtldobcfejldbiaaGreatDoor
set_option linter.unusedVariables false
set_option linter.unusedSimpArgs false
open Go.RowKit Vm Rm Bm Im

set_option maxHeartbeats 1000000 in
theorem check14_w (b : Nat) (p : Pt) (w : World) (h : PtBlk 78 w b p) :
    Calls Tryz.prog 194 #[.pointer (some ⟨b, 0, none⟩)] w fun e w' => e = .returned (.tuple #[]) ∧ Tn 78 b (checksP p) w w' := by
  have H := Lib.hid h
  have f := h.free
  have c_migrate := h.c_migrate
  have c_md := h.c_md
  have c_check := h.c_check
  have c_sendRstp := h.c_sendRstp
  clear h
  go_enter Tryz.func194, Tryz.ntmps194
  go_wp2
  go_end0
  exact ⟨rfl, (((((Tn.refl H.out).set 60 (.int .i64 0) (H.out.s_migrate 0)).set 55 (.int .i64 3) ((H.out.s_migrate 0).s_md 3)).set 49 (.bool false) (((H.out.s_migrate 0).s_md 3).s_check false)).set 46 (.bool true) ((((H.out.s_migrate 0).s_md 3).s_check false).s_sendRstp true))⟩

set_option maxHeartbeats 1000000 in
theorem sense14_w (b : Nat) (p : Pt) (w : World) (h : PtBlk 78 w b p) :
    Calls Tryz.prog 195 #[.pointer (some ⟨b, 0, none⟩)] w fun e w' => e = .returned (.tuple #[]) ∧ Tn 78 b (sensesP p) w w' := by
  have H := Lib.hid h
  have f := h.free
  have c_migrate := h.c_migrate
  have c_heardRstp := h.c_heardRstp
  have c_heardStp := h.c_heardStp
  clear h
  go_enter Tryz.func195, Tryz.ntmps195
  go_wp2
  go_end0
  exact ⟨rfl, ((((Tn.refl H.out).set 60 (.int .i64 2) (H.out.s_migrate 2)).set 47 (.bool false) ((H.out.s_migrate 2).s_heardRstp false)).set 48 (.bool false) (((H.out.s_migrate 2).s_heardRstp false).s_heardStp false))⟩

def ofCheckingP (p : Pt) : Pt := if p.on = false ∧ ¬ p.md = 3 then checksP p else if p.md = 0 then sensesP p else p
def ofSelectingP (p : Pt) : Pt := if p.md = 0 ∨ p.on = false ∨ p.check = true then sensesP p else p
def ofSensingP (p : Pt) : Pt := if p.on = false ∨ p.check = true ∨ (p.sendRstp = false ∧ p.heardRstp = true) then checksP p
     else if p.sendRstp = true ∧ p.heardStp = true then oldP p else p
set_option maxHeartbeats 1000000 in
theorem ofChecking_w (b : Nat) (p X : Pt) (w : World) (h : PtBlk 78 w b p) (hX : Hid (ofCheckingP p = X)) :
    Calls Tryz.prog 156 #[.pointer (some ⟨b, 0, none⟩)] w fun e w' => e = .returned (.tuple #[]) ∧ Tn 78 b X w w' := by
  have H := Lib.hid h
  have f := h.free
  rw [← hX.out]
  clear hX
  unfold ofCheckingP
  have c_on := h.c_on
  obtain ⟨x_on, e_on⟩ : ∃ x, p.on = x := ⟨_, rfl⟩
  rw [e_on] at c_on
  have c_md := h.c_md
  obtain ⟨x_md, e_md⟩ : ∃ x, p.md = x := ⟨_, rfl⟩
  rw [e_md] at c_md
  simp only [e_on, e_md]
  clear h e_on e_md
  by_cases h3 : x_md = 3
  · subst h3
    cases x_on
    all_goals
      go_enter Tryz.func156, Tryz.ntmps156
      go_wp2
      go_end0
      exact ⟨rfl, Tn.refl H.out⟩
  · have g3 : (x_md == 3) = false := by simpa using h3
    have g3' : (x_md != 3) = true := by simpa using h3
    cases x_on
    · rw [if_pos ⟨rfl, h3⟩]
      go_enter Tryz.func156, Tryz.ntmps156
      go_wp2_with fail
      refine (check14_w b p _ H.out).mono ?_
      rintro e w1 ⟨rfl, t⟩
      go_wp2
      go_end0
      exact ⟨rfl, t⟩
    · rw [if_neg (by simp)]
      by_cases h0 : x_md = 0
      · subst h0
        rw [if_pos rfl]
        go_enter Tryz.func156, Tryz.ntmps156
        go_wp2_with fail
        refine (sense14_w b p _ H.out).mono ?_
        rintro e w1 ⟨rfl, t⟩
        go_wp2
        go_end0
        exact ⟨rfl, t⟩
      · have g0 : (x_md == 0) = false := by simpa using h0
        rw [if_neg h0]
        go_enter Tryz.func156, Tryz.ntmps156
        go_wp2
        go_end0
        exact ⟨rfl, Tn.refl H.out⟩

set_option maxHeartbeats 1000000 in
theorem ofSelecting_w (b : Nat) (p X : Pt) (w : World) (h : PtBlk 78 w b p) (hX : Hid (ofSelectingP p = X)) :
    Calls Tryz.prog 157 #[.pointer (some ⟨b, 0, none⟩)] w fun e w' => e = .returned (.tuple #[]) ∧ Tn 78 b X w w' := by
  have H := Lib.hid h
  have f := h.free
  rw [← hX.out]
  clear hX
  unfold ofSelectingP
  have c_md := h.c_md
  obtain ⟨x_md, e_md⟩ : ∃ x, p.md = x := ⟨_, rfl⟩
  rw [e_md] at c_md
  have c_on := h.c_on
  obtain ⟨x_on, e_on⟩ : ∃ x, p.on = x := ⟨_, rfl⟩
  rw [e_on] at c_on
  have c_check := h.c_check
  obtain ⟨x_check, e_check⟩ : ∃ x, p.check = x := ⟨_, rfl⟩
  rw [e_check] at c_check
  simp only [e_on, e_md, e_check]
  clear h e_on e_md e_check
  obtain ⟨z, hz⟩ : ∃ z, (x_md == 0) = z := ⟨_, rfl⟩
  have hz' : x_md = 0 ↔ z = true := by rw [← hz]; simp
  simp only [hz']
  clear hz'
  cases z <;> cases x_on <;> cases x_check
  all_goals first | rw [if_pos (by decide)] | rw [if_neg (by decide)]
  all_goals
    go_enter Tryz.func157, Tryz.ntmps157
    go_wp2_with fail
    first
    | (refine (sense14_w b p _ H.out).mono ?_
       rintro e w1 ⟨rfl, t⟩
       go_wp2
       go_end0
       exact ⟨rfl, t⟩)
    | (go_end0; exact ⟨rfl, Tn.refl H.out⟩)

set_option maxHeartbeats 1000000 in
theorem ofSensing_w (b : Nat) (p X : Pt) (w : World) (h : PtBlk 78 w b p) (hX : Hid (ofSensingP p = X)) :
    Calls Tryz.prog 158 #[.pointer (some ⟨b, 0, none⟩)] w fun e w' => e = .returned (.tuple #[]) ∧ Tn 78 b X w w' := by
  have H := Lib.hid h
  have f := h.free
  rw [← hX.out]
  clear hX
  unfold ofSensingP
  have c_on := h.c_on
  obtain ⟨x_on, e_on⟩ : ∃ x, p.on = x := ⟨_, rfl⟩
  rw [e_on] at c_on
  have c_check := h.c_check
  obtain ⟨x_check, e_check⟩ : ∃ x, p.check = x := ⟨_, rfl⟩
  rw [e_check] at c_check
  have c_sendRstp := h.c_sendRstp
  obtain ⟨x_sendRstp, e_sendRstp⟩ : ∃ x, p.sendRstp = x := ⟨_, rfl⟩
  rw [e_sendRstp] at c_sendRstp
  have c_heardRstp := h.c_heardRstp
  obtain ⟨x_heardRstp, e_heardRstp⟩ : ∃ x, p.heardRstp = x := ⟨_, rfl⟩
  rw [e_heardRstp] at c_heardRstp
  have c_heardStp := h.c_heardStp
  obtain ⟨x_heardStp, e_heardStp⟩ : ∃ x, p.heardStp = x := ⟨_, rfl⟩
  rw [e_heardStp] at c_heardStp
  have c_md := h.c_md
  have c_migrate := h.c_migrate
  simp only [e_on, e_check, e_sendRstp, e_heardRstp, e_heardStp]
  clear h e_on e_check e_sendRstp e_heardRstp e_heardStp
  have T := Lib.hid ((((Tn.refl H.out).set 46 (.bool false) (H.out.s_sendRstp false)).set 60 (.int .i64 1) ((H.out.s_sendRstp false).s_migrate 1)).set 55 (.int .i64 3) (((H.out.s_sendRstp false).s_migrate 1).s_md 3))
  cases x_on <;> cases x_check <;> cases x_sendRstp <;> cases x_heardRstp <;> cases x_heardStp
  all_goals first | rw [if_pos (by decide)] | (rw [if_neg (by decide)]; first | rw [if_pos (by decide)] | rw [if_neg (by decide)])
  all_goals
    go_enter Tryz.func158, Tryz.ntmps158
    go_wp2_with fail
    first
    | (refine (check14_w b p _ H.out).mono ?_
       rintro e w1 ⟨rfl, t⟩
       go_wp2
       go_end0
       exact ⟨rfl, t⟩)
    | (go_end0; exact ⟨rfl, Tn.refl H.out⟩)
    | (go_end0; exact ⟨rfl, T.out⟩)

theorem tn_end {w W V : World} {nb : Nat} {p X : Pt} (hB : Below nb w W) (k0 : PtBlk 78 W nb p) (k1 : PtBlk 78 W (nb + 1) zeroP) (t : Tn 78 nb X W V) : PtBlk 78 V nb X ∧ PtBlk 78 V (nb + 1) zeroP ∧ Below nb w V :=
  ⟨t.blk, k1.same (t.at k1.lt (by omega)), t.below hB (Nat.le_refl _) (by have := k0.lt; omega)⟩
set_option maxRecDepth 20000 in
set_option maxHeartbeats 1000000 in
theorem tongue0_w (p X : Pt) (w : World) (h : p.migrate = 0) (hX : Hid (ofCheckingP p = X)) :
    Calls Tryz.prog 117 #[.agg (cellsT p)] w fun e w' => e = .returned (.agg (cellsT X)) ∧ Below w.heap.size w w' := by
  obtain ⟨W, nb, HW, HN, k0, k1, kB⟩ := twoP_is 78 w p
  have H0 := Lib.hid k0
  have H1 := Lib.hid k1
  have HB := Lib.hid kB
  have c2 := k0.c_migrate
  rw [h] at c2
  clear k0 k1 kB h
  go_enter Tryz.func117, Tryz.ntmps117
  go_upto_region 1 with (fail)
  refine wp_to (W := W) (by exact HW.out.symm) ?_
  rw [HN.out]
  go_upto_region 3 with (fail)
  go_wp2_with fail
  refine (ofChecking_w nb p X _ H0.out hX).mono ?_
  rintro e V ⟨rfl, t⟩
  obtain ⟨q0, q1, qB⟩ := tn_end HB.out H0.out H1.out t
  have K0 := Lib.hid q0
  have K1 := Lib.hid q1
  have KB := Lib.hid qB
  have hsz := q1.lt
  clear q0 q1 qB t H0 H1 HB c2
  go_upto_region 8 with (fail)
  refine wp_region_list ?_
  refine wpList_load_row rfl 78 _ rfl nb rfl 78 (cellsT X) (0, 0) _ K0.out rfl rfl infoSP ?_
  refine wpList_store_row rfl 78 _ _ rfl (nb + 1) (cellsT X) rfl rfl 78 _ K1.out infoSP rfl (cellsT_one X) ?_
  have K5 := Lib.hid (K1.out.row X)
  have K6 := Lib.hid (below_row KB.out (g := nb + 1) (by omega) (cellsT X))
  go_wp2
  exact bodyPost_ret (v := .agg (cellsT X)) (results_cell_row rfl _ _ (nb + 1) 78 (cellsT X) (0, 0) _ rfl K5.out rfl rfl infoSP) rfl ⟨rfl, HN.out ▸ K6.out⟩

set_option maxRecDepth 20000 in
set_option maxHeartbeats 1000000 in
theorem tongue1_w (p X : Pt) (w : World) (h : p.migrate = 1) (hX : Hid (ofSelectingP p = X)) :
    Calls Tryz.prog 117 #[.agg (cellsT p)] w fun e w' => e = .returned (.agg (cellsT X)) ∧ Below w.heap.size w w' := by
  obtain ⟨W, nb, HW, HN, k0, k1, kB⟩ := twoP_is 78 w p
  have H0 := Lib.hid k0
  have H1 := Lib.hid k1
  have HB := Lib.hid kB
  have c2 := k0.c_migrate
  rw [h] at c2
  clear k0 k1 kB h
  go_enter Tryz.func117, Tryz.ntmps117
  go_upto_region 1 with (fail)
  refine wp_to (W := W) (by exact HW.out.symm) ?_
  rw [HN.out]
  go_upto_region 5 with (fail)
  go_wp2_with fail
  refine (ofSelecting_w nb p X _ H0.out hX).mono ?_
  rintro e V ⟨rfl, t⟩
  obtain ⟨q0, q1, qB⟩ := tn_end HB.out H0.out H1.out t
  have K0 := Lib.hid q0
  have K1 := Lib.hid q1
  have KB := Lib.hid qB
  have hsz := q1.lt
  clear q0 q1 qB t H0 H1 HB c2
  go_upto_region 8 with (fail)
  refine wp_region_list ?_
  refine wpList_load_row rfl 78 _ rfl nb rfl 78 (cellsT X) (0, 0) _ K0.out rfl rfl infoSP ?_
  refine wpList_store_row rfl 78 _ _ rfl (nb + 1) (cellsT X) rfl rfl 78 _ K1.out infoSP rfl (cellsT_one X) ?_
  have K5 := Lib.hid (K1.out.row X)
  have K6 := Lib.hid (below_row KB.out (g := nb + 1) (by omega) (cellsT X))
  go_wp2
  exact bodyPost_ret (v := .agg (cellsT X)) (results_cell_row rfl _ _ (nb + 1) 78 (cellsT X) (0, 0) _ rfl K5.out rfl rfl infoSP) rfl ⟨rfl, HN.out ▸ K6.out⟩

set_option maxRecDepth 20000 in
set_option maxHeartbeats 1000000 in
theorem tongue2_w (p X : Pt) (w : World) (h : p.migrate = 2) (hX : Hid (ofSensingP p = X)) :
    Calls Tryz.prog 117 #[.agg (cellsT p)] w fun e w' => e = .returned (.agg (cellsT X)) ∧ Below w.heap.size w w' := by
  obtain ⟨W, nb, HW, HN, k0, k1, kB⟩ := twoP_is 78 w p
  have H0 := Lib.hid k0
  have H1 := Lib.hid k1
  have HB := Lib.hid kB
  have c2 := k0.c_migrate
  rw [h] at c2
  clear k0 k1 kB h
  go_enter Tryz.func117, Tryz.ntmps117
  go_upto_region 1 with (fail)
  refine wp_to (W := W) (by exact HW.out.symm) ?_
  rw [HN.out]
  go_upto_region 7 with (fail)
  go_wp2_with fail
  refine (ofSensing_w nb p X _ H0.out hX).mono ?_
  rintro e V ⟨rfl, t⟩
  obtain ⟨q0, q1, qB⟩ := tn_end HB.out H0.out H1.out t
  have K0 := Lib.hid q0
  have K1 := Lib.hid q1
  have KB := Lib.hid qB
  have hsz := q1.lt
  clear q0 q1 qB t H0 H1 HB c2
  go_upto_region 8 with (fail)
  refine wp_region_list ?_
  refine wpList_load_row rfl 78 _ rfl nb rfl 78 (cellsT X) (0, 0) _ K0.out rfl rfl infoSP ?_
  refine wpList_store_row rfl 78 _ _ rfl (nb + 1) (cellsT X) rfl rfl 78 _ K1.out infoSP rfl (cellsT_one X) ?_
  have K5 := Lib.hid (K1.out.row X)
  have K6 := Lib.hid (below_row KB.out (g := nb + 1) (by omega) (cellsT X))
  go_wp2
  exact bodyPost_ret (v := .agg (cellsT X)) (results_cell_row rfl _ _ (nb + 1) 78 (cellsT X) (0, 0) _ rfl K5.out rfl rfl infoSP) rfl ⟨rfl, HN.out ▸ K6.out⟩

set_option maxRecDepth 20000 in
set_option maxHeartbeats 1000000 in
theorem tongueNo_w (p : Pt) (w : World) (h0 : ¬ p.migrate = 0) (h1 : ¬ p.migrate = 1) (h2 : ¬ p.migrate = 2) :
    Calls Tryz.prog 117 #[.agg (cellsT p)] w fun e w' => e = .returned (.agg (cellsT p)) ∧ Below w.heap.size w w' := by
  obtain ⟨W, nb, HW, HN, k0, k1, kB⟩ := twoP_is 78 w p
  have K0 := Lib.hid k0
  have K1 := Lib.hid k1
  have KB := Lib.hid kB
  have hsz := k1.lt
  have c2 := k0.c_migrate
  obtain ⟨m, hm⟩ : ∃ m, p.migrate = m := ⟨_, rfl⟩
  rw [hm] at c2 h0 h1 h2
  have g0 : (m == 0) = false := by simpa using h0
  have g1 : (m == 1) = false := by simpa using h1
  have g2 : (m == 2) = false := by simpa using h2
  clear k0 k1 kB hm
  go_enter Tryz.func117, Tryz.ntmps117
  go_upto_region 1 with (fail)
  refine wp_to (W := W) (by exact HW.out.symm) ?_
  rw [HN.out]
  go_upto_region 8 with (fail)
  refine wp_region_list ?_
  refine wpList_load_row rfl 78 _ rfl nb rfl 78 (cellsT p) (0, 0) _ K0.out rfl rfl infoSP ?_
  refine wpList_store_row rfl 78 _ _ rfl (nb + 1) (cellsT p) rfl rfl 78 _ K1.out infoSP rfl (cellsT_one p) ?_
  have K5 := Lib.hid (K1.out.row p)
  have K6 := Lib.hid (below_row KB.out (g := nb + 1) (by omega) (cellsT p))
  go_wp2
  exact bodyPost_ret (v := .agg (cellsT p)) (results_cell_row rfl _ _ (nb + 1) 78 (cellsT p) (0, 0) _ rfl K5.out rfl rfl infoSP) rfl ⟨rfl, HN.out ▸ K6.out⟩

theorem tongue14_w (p : Pt) (w : World) : Calls Tryz.prog 117 #[.agg (cellsT p)] w fun e w' => e = .returned (.agg (cellsT (tongueP p))) ∧ Below w.heap.size w w' := by
  unfold tongueP
  by_cases h0 : p.migrate = 0
  · rw [if_pos h0]; exact tongue0_w p _ w h0 (Lib.hid rfl)
  rw [if_neg h0]
  by_cases h1 : p.migrate = 1
  · rw [if_pos h1]; exact tongue1_w p _ w h1 (Lib.hid rfl)
  rw [if_neg h1]
  by_cases h2 : p.migrate = 2
  · rw [if_pos h2]; exact tongue2_w p _ w h2 (Lib.hid rfl)
  rw [if_neg h2]
  exact tongueNo_w p w h0 h1 h2

def edgeC (p : Pt) : Bool := p.on && (p.proposing && (p.sendRstp && decide (p.edge = 0)))
theorem edge_is (p : Pt) : edgeP p = if edgeC p = true then { p with oper := true } else p := by
  unfold edgeP
  cases ho : p.oper
  · have h1 : edgeB p = edgeC p := by unfold edgeB edgeC; rw [ho]; simp
    rw [h1]
  · have h1 : edgeB p = false := by unfold edgeB; rw [ho]; simp
    rw [h1, if_neg Bool.false_ne_true]
    split
    · obtain ⟨⟩ := p
      simp at ho
      subst ho
      rfl
    · rfl
set_option maxRecDepth 20000 in
set_option maxHeartbeats 1000000 in
theorem edge14_w (p : Pt) (w : World) : Calls Tryz.prog 116 #[.agg (cellsT p)] w fun e w' => e = .returned (.agg (cellsT (edgeP p))) ∧ Below w.heap.size w w' := by
  obtain ⟨W, nb, HW, HN, k0, k1, kB⟩ := twoP_is 78 w p
  have hsz := k1.lt
  have hsz0 := k0.lt
  have f := k0.free
  have c_oper := k0.c_oper
  have A0 := Lib.hid k0
  have A1 := Lib.hid k1
  have AB := Lib.hid kB
  rw [edge_is]
  obtain ⟨X, hX⟩ : ∃ X, ({ p with oper := true } : Pt) = X := ⟨_, rfl⟩
  have AT := Lib.hid (((Tn.refl A0.out).set 4 (.bool true) (A0.out.s_oper true)).as hX)
  rw [hX]
  clear hX
  unfold edgeC
  have c_on := k0.c_on
  obtain ⟨x_on, e_on⟩ : ∃ x, p.on = x := ⟨_, rfl⟩
  rw [e_on] at c_on
  have c_proposing := k0.c_proposing
  obtain ⟨x_proposing, e_proposing⟩ : ∃ x, p.proposing = x := ⟨_, rfl⟩
  rw [e_proposing] at c_proposing
  have c_sendRstp := k0.c_sendRstp
  obtain ⟨x_sendRstp, e_sendRstp⟩ : ∃ x, p.sendRstp = x := ⟨_, rfl⟩
  rw [e_sendRstp] at c_sendRstp
  have c_edge := k0.c_edge
  obtain ⟨z, hz⟩ : ∃ z, (p.edge == 0) = z := ⟨_, rfl⟩
  have hz' : decide (p.edge = 0) = z := by rw [← hz]; rfl
  simp only [e_on, e_proposing, e_sendRstp, hz']
  clear hz' e_on e_proposing e_sendRstp k0 k1 kB
  cases x_on <;> cases x_proposing <;> cases x_sendRstp <;> cases z
  all_goals simp only [Bool.false_and, Bool.true_and, Bool.and_false, Bool.and_true]
  all_goals first | rw [if_pos rfl] | rw [if_pos trivial] | rw [if_neg (by decide)]
  all_goals
    go_enter Tryz.func116, Tryz.ntmps116
    go_upto_region 1 with (fail)
    refine wp_to (W := W) (by exact HW.out.symm) ?_
    rw [HN.out]
    go_upto_region 3 with (fail)
    first
    | (have K0 := A0
       have K1 := A1
       have KB := AB
       clear A0 A1 AB
       refine wp_region_list ?_
       refine wpList_load_row rfl 78 _ rfl nb rfl 78 (cellsT p) (0, 0) _ K0.out rfl rfl infoSP ?_
       refine wpList_store_row rfl 78 _ _ rfl (nb + 1) (cellsT p) rfl rfl 78 _ K1.out infoSP rfl (cellsT_one p) ?_
       have K5 := Lib.hid (K1.out.row p)
       have K6 := Lib.hid (below_row KB.out (g := nb + 1) (by omega) (cellsT p))
       go_wp2
       exact bodyPost_ret (v := .agg (cellsT p)) (results_cell_row rfl _ _ (nb + 1) 78 (cellsT p) (0, 0) _ rfl K5.out rfl rfl infoSP) rfl ⟨rfl, HN.out ▸ K6.out⟩)
    | (obtain ⟨q0, q1, qB⟩ := tn_end AB.out A0.out A1.out AT.out
       have K0 := Lib.hid q0
       have K1 := Lib.hid q1
       have KB := Lib.hid qB
       clear q0 q1 qB A0 A1 AB
       refine wp_region_list ?_
       refine wpList_load_row rfl 78 _ rfl nb rfl 78 (cellsT X) (0, 0) _ K0.out rfl rfl infoSP ?_
       refine wpList_store_row rfl 78 _ _ rfl (nb + 1) (cellsT X) rfl rfl 78 _ K1.out infoSP rfl (cellsT_one X) ?_
       have K5 := Lib.hid (K1.out.row X)
       have K6 := Lib.hid (below_row KB.out (g := nb + 1) (by omega) (cellsT X))
       go_wp2
       exact bodyPost_ret (v := .agg (cellsT X)) (results_cell_row rfl _ _ (nb + 1) 78 (cellsT X) (0, 0) _ rfl K5.out rfl rfl infoSP) rfl ⟨rfl, HN.out ▸ K6.out⟩)

set_option maxHeartbeats 1000000 in
theorem runs10_w (n : Int) (w : World) : Calls Tryz.prog 138 #[.int .i64 n] w fun e w' => e = .returned (.bool (decide (0 < n))) ∧ w = w' := by
  by_cases h : 0 < n
  · have h' : n > 0 := h
    rw [decide_eq_true h]
    go_enter Tryz.func138, Tryz.ntmps138
    go_wp2
    all_goals first | (exfalso; omega) | skip
    all_goals go_ret
    all_goals exact ⟨ret_val (by first | rfl | simp_all), rfl⟩
  · have h' : ¬ n > 0 := h
    rw [decide_eq_false h]
    go_enter Tryz.func138, Tryz.ntmps138
    go_wp2
    all_goals first | (exfalso; omega) | skip
    all_goals go_ret
    all_goals exact ⟨ret_val (by first | rfl | simp_all), rfl⟩
set_option maxHeartbeats 1000000 in
theorem count_fd_w (b : Nat) (p X : Pt) (w : World) (h : PtBlk 78 w b p) (hk : inI64 p.fd) (hX : Hid ({ p with fd := lessI p.fd } = X)) :
    Calls Tryz.prog 92 #[.pointer (some ⟨b, 50, none⟩)] w fun e w' => e = .returned (.tuple #[]) ∧ Tn 78 b X w w' := by
  have H := Lib.hid h
  have f := h.free 50
  have c := h.c_fd
  by_cases hr : 0 < p.fd
  · have e : ({ p with fd := p.fd - 1 } : Pt) = X := by rw [← hX.out]; unfold lessI; rw [if_pos hr]
    have T := Lib.hid (((Tn.refl H.out).set 50 (.int .i64 (p.fd - 1)) (H.out.s_fd (p.fd - 1))).as e)
    have hv := decide_eq_true hr
    have hk1 := hk.1
    have hk2 := hk.2
    clear h hX e hk
    go_enter Tryz.func92, Tryz.ntmps92
    go_wp2_with fail
    refine (runs10_w p.fd _).mono ?_
    rintro e w1 ⟨rfl, rfl⟩
    rw [hv]
    go_wp2
    go_end0
    exact ⟨rfl, T.out⟩
  · have e : p = X := by rw [← hX.out]; unfold lessI; rw [if_neg hr]
    have hv := decide_eq_false hr
    rw [e] at H
    clear h hX e
    go_enter Tryz.func92, Tryz.ntmps92
    go_wp2_with fail
    refine (runs10_w p.fd _).mono ?_
    rintro e w1 ⟨rfl, rfl⟩
    rw [hv]
    go_wp2
    go_end0
    exact ⟨rfl, Tn.refl H.out⟩
set_option maxHeartbeats 1000000 in
theorem count_rr_w (b : Nat) (p X : Pt) (w : World) (h : PtBlk 78 w b p) (hk : inI64 p.rr) (hX : Hid ({ p with rr := lessI p.rr } = X)) :
    Calls Tryz.prog 92 #[.pointer (some ⟨b, 51, none⟩)] w fun e w' => e = .returned (.tuple #[]) ∧ Tn 78 b X w w' := by
  have H := Lib.hid h
  have f := h.free 51
  have c := h.c_rr
  by_cases hr : 0 < p.rr
  · have e : ({ p with rr := p.rr - 1 } : Pt) = X := by rw [← hX.out]; unfold lessI; rw [if_pos hr]
    have T := Lib.hid (((Tn.refl H.out).set 51 (.int .i64 (p.rr - 1)) (H.out.s_rr (p.rr - 1))).as e)
    have hv := decide_eq_true hr
    have hk1 := hk.1
    have hk2 := hk.2
    clear h hX e hk
    go_enter Tryz.func92, Tryz.ntmps92
    go_wp2_with fail
    refine (runs10_w p.rr _).mono ?_
    rintro e w1 ⟨rfl, rfl⟩
    rw [hv]
    go_wp2
    go_end0
    exact ⟨rfl, T.out⟩
  · have e : p = X := by rw [← hX.out]; unfold lessI; rw [if_neg hr]
    have hv := decide_eq_false hr
    rw [e] at H
    clear h hX e
    go_enter Tryz.func92, Tryz.ntmps92
    go_wp2_with fail
    refine (runs10_w p.rr _).mono ?_
    rintro e w1 ⟨rfl, rfl⟩
    rw [hv]
    go_wp2
    go_end0
    exact ⟨rfl, Tn.refl H.out⟩
set_option maxHeartbeats 1000000 in
theorem count_rb_w (b : Nat) (p X : Pt) (w : World) (h : PtBlk 78 w b p) (hk : inI64 p.rb) (hX : Hid ({ p with rb := lessI p.rb } = X)) :
    Calls Tryz.prog 92 #[.pointer (some ⟨b, 52, none⟩)] w fun e w' => e = .returned (.tuple #[]) ∧ Tn 78 b X w w' := by
  have H := Lib.hid h
  have f := h.free 52
  have c := h.c_rb
  by_cases hr : 0 < p.rb
  · have e : ({ p with rb := p.rb - 1 } : Pt) = X := by rw [← hX.out]; unfold lessI; rw [if_pos hr]
    have T := Lib.hid (((Tn.refl H.out).set 52 (.int .i64 (p.rb - 1)) (H.out.s_rb (p.rb - 1))).as e)
    have hv := decide_eq_true hr
    have hk1 := hk.1
    have hk2 := hk.2
    clear h hX e hk
    go_enter Tryz.func92, Tryz.ntmps92
    go_wp2_with fail
    refine (runs10_w p.rb _).mono ?_
    rintro e w1 ⟨rfl, rfl⟩
    rw [hv]
    go_wp2
    go_end0
    exact ⟨rfl, T.out⟩
  · have e : p = X := by rw [← hX.out]; unfold lessI; rw [if_neg hr]
    have hv := decide_eq_false hr
    rw [e] at H
    clear h hX e
    go_enter Tryz.func92, Tryz.ntmps92
    go_wp2_with fail
    refine (runs10_w p.rb _).mono ?_
    rintro e w1 ⟨rfl, rfl⟩
    rw [hv]
    go_wp2
    go_end0
    exact ⟨rfl, Tn.refl H.out⟩
set_option maxHeartbeats 1000000 in
theorem count_tc_w (b : Nat) (p X : Pt) (w : World) (h : PtBlk 78 w b p) (hk : inI64 p.tc) (hX : Hid ({ p with tc := lessI p.tc } = X)) :
    Calls Tryz.prog 92 #[.pointer (some ⟨b, 53, none⟩)] w fun e w' => e = .returned (.tuple #[]) ∧ Tn 78 b X w w' := by
  have H := Lib.hid h
  have f := h.free 53
  have c := h.c_tc
  by_cases hr : 0 < p.tc
  · have e : ({ p with tc := p.tc - 1 } : Pt) = X := by rw [← hX.out]; unfold lessI; rw [if_pos hr]
    have T := Lib.hid (((Tn.refl H.out).set 53 (.int .i64 (p.tc - 1)) (H.out.s_tc (p.tc - 1))).as e)
    have hv := decide_eq_true hr
    have hk1 := hk.1
    have hk2 := hk.2
    clear h hX e hk
    go_enter Tryz.func92, Tryz.ntmps92
    go_wp2_with fail
    refine (runs10_w p.tc _).mono ?_
    rintro e w1 ⟨rfl, rfl⟩
    rw [hv]
    go_wp2
    go_end0
    exact ⟨rfl, T.out⟩
  · have e : p = X := by rw [← hX.out]; unfold lessI; rw [if_neg hr]
    have hv := decide_eq_false hr
    rw [e] at H
    clear h hX e
    go_enter Tryz.func92, Tryz.ntmps92
    go_wp2_with fail
    refine (runs10_w p.tc _).mono ?_
    rintro e w1 ⟨rfl, rfl⟩
    rw [hv]
    go_wp2
    go_end0
    exact ⟨rfl, Tn.refl H.out⟩
set_option maxHeartbeats 1000000 in
theorem count_edge_w (b : Nat) (p X : Pt) (w : World) (h : PtBlk 78 w b p) (hk : inI64 p.edge) (hX : Hid ({ p with edge := lessI p.edge } = X)) :
    Calls Tryz.prog 92 #[.pointer (some ⟨b, 54, none⟩)] w fun e w' => e = .returned (.tuple #[]) ∧ Tn 78 b X w w' := by
  have H := Lib.hid h
  have f := h.free 54
  have c := h.c_edge
  by_cases hr : 0 < p.edge
  · have e : ({ p with edge := p.edge - 1 } : Pt) = X := by rw [← hX.out]; unfold lessI; rw [if_pos hr]
    have T := Lib.hid (((Tn.refl H.out).set 54 (.int .i64 (p.edge - 1)) (H.out.s_edge (p.edge - 1))).as e)
    have hv := decide_eq_true hr
    have hk1 := hk.1
    have hk2 := hk.2
    clear h hX e hk
    go_enter Tryz.func92, Tryz.ntmps92
    go_wp2_with fail
    refine (runs10_w p.edge _).mono ?_
    rintro e w1 ⟨rfl, rfl⟩
    rw [hv]
    go_wp2
    go_end0
    exact ⟨rfl, T.out⟩
  · have e : p = X := by rw [← hX.out]; unfold lessI; rw [if_neg hr]
    have hv := decide_eq_false hr
    rw [e] at H
    clear h hX e
    go_enter Tryz.func92, Tryz.ntmps92
    go_wp2_with fail
    refine (runs10_w p.edge _).mono ?_
    rintro e w1 ⟨rfl, rfl⟩
    rw [hv]
    go_wp2
    go_end0
    exact ⟨rfl, Tn.refl H.out⟩
set_option maxHeartbeats 1000000 in
theorem count_md_w (b : Nat) (p X : Pt) (w : World) (h : PtBlk 78 w b p) (hk : inI64 p.md) (hX : Hid ({ p with md := lessI p.md } = X)) :
    Calls Tryz.prog 92 #[.pointer (some ⟨b, 55, none⟩)] w fun e w' => e = .returned (.tuple #[]) ∧ Tn 78 b X w w' := by
  have H := Lib.hid h
  have f := h.free 55
  have c := h.c_md
  by_cases hr : 0 < p.md
  · have e : ({ p with md := p.md - 1 } : Pt) = X := by rw [← hX.out]; unfold lessI; rw [if_pos hr]
    have T := Lib.hid (((Tn.refl H.out).set 55 (.int .i64 (p.md - 1)) (H.out.s_md (p.md - 1))).as e)
    have hv := decide_eq_true hr
    have hk1 := hk.1
    have hk2 := hk.2
    clear h hX e hk
    go_enter Tryz.func92, Tryz.ntmps92
    go_wp2_with fail
    refine (runs10_w p.md _).mono ?_
    rintro e w1 ⟨rfl, rfl⟩
    rw [hv]
    go_wp2
    go_end0
    exact ⟨rfl, T.out⟩
  · have e : p = X := by rw [← hX.out]; unfold lessI; rw [if_neg hr]
    have hv := decide_eq_false hr
    rw [e] at H
    clear h hX e
    go_enter Tryz.func92, Tryz.ntmps92
    go_wp2_with fail
    refine (runs10_w p.md _).mono ?_
    rintro e w1 ⟨rfl, rfl⟩
    rw [hv]
    go_wp2
    go_end0
    exact ⟨rfl, Tn.refl H.out⟩
set_option maxHeartbeats 1000000 in
theorem count_info_w (b : Nat) (p X : Pt) (w : World) (h : PtBlk 78 w b p) (hk : inI64 p.info) (hX : Hid ({ p with info := lessI p.info } = X)) :
    Calls Tryz.prog 92 #[.pointer (some ⟨b, 56, none⟩)] w fun e w' => e = .returned (.tuple #[]) ∧ Tn 78 b X w w' := by
  have H := Lib.hid h
  have f := h.free 56
  have c := h.c_info
  by_cases hr : 0 < p.info
  · have e : ({ p with info := p.info - 1 } : Pt) = X := by rw [← hX.out]; unfold lessI; rw [if_pos hr]
    have T := Lib.hid (((Tn.refl H.out).set 56 (.int .i64 (p.info - 1)) (H.out.s_info (p.info - 1))).as e)
    have hv := decide_eq_true hr
    have hk1 := hk.1
    have hk2 := hk.2
    clear h hX e hk
    go_enter Tryz.func92, Tryz.ntmps92
    go_wp2_with fail
    refine (runs10_w p.info _).mono ?_
    rintro e w1 ⟨rfl, rfl⟩
    rw [hv]
    go_wp2
    go_end0
    exact ⟨rfl, T.out⟩
  · have e : p = X := by rw [← hX.out]; unfold lessI; rw [if_neg hr]
    have hv := decide_eq_false hr
    rw [e] at H
    clear h hX e
    go_enter Tryz.func92, Tryz.ntmps92
    go_wp2_with fail
    refine (runs10_w p.info _).mono ?_
    rintro e w1 ⟨rfl, rfl⟩
    rw [hv]
    go_wp2
    go_end0
    exact ⟨rfl, Tn.refl H.out⟩
set_option maxHeartbeats 1000000 in
theorem count_hello_w (b : Nat) (p X : Pt) (w : World) (h : PtBlk 78 w b p) (hk : inI64 p.hello) (hX : Hid ({ p with hello := lessI p.hello } = X)) :
    Calls Tryz.prog 92 #[.pointer (some ⟨b, 57, none⟩)] w fun e w' => e = .returned (.tuple #[]) ∧ Tn 78 b X w w' := by
  have H := Lib.hid h
  have f := h.free 57
  have c := h.c_hello
  by_cases hr : 0 < p.hello
  · have e : ({ p with hello := p.hello - 1 } : Pt) = X := by rw [← hX.out]; unfold lessI; rw [if_pos hr]
    have T := Lib.hid (((Tn.refl H.out).set 57 (.int .i64 (p.hello - 1)) (H.out.s_hello (p.hello - 1))).as e)
    have hv := decide_eq_true hr
    have hk1 := hk.1
    have hk2 := hk.2
    clear h hX e hk
    go_enter Tryz.func92, Tryz.ntmps92
    go_wp2_with fail
    refine (runs10_w p.hello _).mono ?_
    rintro e w1 ⟨rfl, rfl⟩
    rw [hv]
    go_wp2
    go_end0
    exact ⟨rfl, T.out⟩
  · have e : p = X := by rw [← hX.out]; unfold lessI; rw [if_neg hr]
    have hv := decide_eq_false hr
    rw [e] at H
    clear h hX e
    go_enter Tryz.func92, Tryz.ntmps92
    go_wp2_with fail
    refine (runs10_w p.hello _).mono ?_
    rintro e w1 ⟨rfl, rfl⟩
    rw [hv]
    go_wp2
    go_end0
    exact ⟨rfl, Tn.refl H.out⟩
set_option maxHeartbeats 1000000 in
theorem count_txCount_w (b : Nat) (p X : Pt) (w : World) (h : PtBlk 78 w b p) (hk : inI64 p.txCount) (hX : Hid ({ p with txCount := lessI p.txCount } = X)) :
    Calls Tryz.prog 92 #[.pointer (some ⟨b, 58, none⟩)] w fun e w' => e = .returned (.tuple #[]) ∧ Tn 78 b X w w' := by
  have H := Lib.hid h
  have f := h.free 58
  have c := h.c_txCount
  by_cases hr : 0 < p.txCount
  · have e : ({ p with txCount := p.txCount - 1 } : Pt) = X := by rw [← hX.out]; unfold lessI; rw [if_pos hr]
    have T := Lib.hid (((Tn.refl H.out).set 58 (.int .i64 (p.txCount - 1)) (H.out.s_txCount (p.txCount - 1))).as e)
    have hv := decide_eq_true hr
    have hk1 := hk.1
    have hk2 := hk.2
    clear h hX e hk
    go_enter Tryz.func92, Tryz.ntmps92
    go_wp2_with fail
    refine (runs10_w p.txCount _).mono ?_
    rintro e w1 ⟨rfl, rfl⟩
    rw [hv]
    go_wp2
    go_end0
    exact ⟨rfl, T.out⟩
  · have e : p = X := by rw [← hX.out]; unfold lessI; rw [if_neg hr]
    have hv := decide_eq_false hr
    rw [e] at H
    clear h hX e
    go_enter Tryz.func92, Tryz.ntmps92
    go_wp2_with fail
    refine (runs10_w p.txCount _).mono ?_
    rintro e w1 ⟨rfl, rfl⟩
    rw [hv]
    go_wp2
    go_end0
    exact ⟨rfl, Tn.refl H.out⟩
end Go.Proofs.YtldobcfejldbiaaGreatDoor

namespace Go.Proofs.YtldobcfejldbiaaGreatDoor
set_option linter.unusedVariables false
set_option linter.unusedSimpArgs false
open Go.RowKit Vm Rm Bm Im

/-- The table of told roles lies where the package's variable lies. -/
def TRoles (w : World) : Prop := w.cell? ⟨0, 0, none⟩ = some (.int .i64 0) ∧ w.cell? ⟨0, 1, none⟩ = some (.int .i64 2) ∧ w.cell? ⟨0, 2, none⟩ = some (.int .i64 3) ∧ w.cell? ⟨0, 3, none⟩ = some (.int .i64 1) ∧ w.cell? ⟨0, 4, none⟩ = some (.int .i64 1)
theorem TRoles.pos {w : World} (h : TRoles w) : 0 < w.heap.size := by
  have h0 := h.1
  rcases Nat.eq_zero_or_pos w.heap.size with e | e
  · exfalso
    have : w.heap[0]? = none := Array.getElem?_eq_none (by omega)
    simp [World.cell?, this] at h0
  · exact e
theorem TRoles.below {w w' : World} {B : Nat} (h : TRoles w) (hb : Below B w w') (hB : 0 < B) : TRoles w' := by
  obtain ⟨h0, h1, h2, h3, h4⟩ := h
  exact ⟨(hb.cell (p := ⟨0, 0, none⟩) hB).trans h0, (hb.cell (p := ⟨0, 1, none⟩) hB).trans h1, (hb.cell (p := ⟨0, 2, none⟩) hB).trans h2, (hb.cell (p := ⟨0, 3, none⟩) hB).trans h3, (hb.cell (p := ⟨0, 4, none⟩) hB).trans h4⟩
theorem TRoles.next {w w' : World} (h : TRoles w) (hb : Below w.heap.size w w') : TRoles w' := h.below hb h.pos
theorem less_in {n : Int} (h : inI64 n) : inI64 (lessI n) := by
  obtain ⟨h0, h1⟩ := h
  unfold lessI inI64
  split <;> omega
theorem tk_fd {p : Pt} (h : TkOk p) : TkOk { p with fd := lessI p.fd } := ⟨less_in h.fd, h.rr, h.rb, h.tc, h.edge, h.md, h.info, h.hello, h.txCount⟩
theorem tk_rr {p : Pt} (h : TkOk p) : TkOk { p with rr := lessI p.rr } := ⟨h.fd, less_in h.rr, h.rb, h.tc, h.edge, h.md, h.info, h.hello, h.txCount⟩
theorem tk_rb {p : Pt} (h : TkOk p) : TkOk { p with rb := lessI p.rb } := ⟨h.fd, h.rr, less_in h.rb, h.tc, h.edge, h.md, h.info, h.hello, h.txCount⟩
theorem tk_tc {p : Pt} (h : TkOk p) : TkOk { p with tc := lessI p.tc } := ⟨h.fd, h.rr, h.rb, less_in h.tc, h.edge, h.md, h.info, h.hello, h.txCount⟩
theorem tk_edge {p : Pt} (h : TkOk p) : TkOk { p with edge := lessI p.edge } := ⟨h.fd, h.rr, h.rb, h.tc, less_in h.edge, h.md, h.info, h.hello, h.txCount⟩
theorem tk_md {p : Pt} (h : TkOk p) : TkOk { p with md := lessI p.md } := ⟨h.fd, h.rr, h.rb, h.tc, h.edge, less_in h.md, h.info, h.hello, h.txCount⟩
theorem tk_info {p : Pt} (h : TkOk p) : TkOk { p with info := lessI p.info } := ⟨h.fd, h.rr, h.rb, h.tc, h.edge, h.md, less_in h.info, h.hello, h.txCount⟩
theorem tk_hello {p : Pt} (h : TkOk p) : TkOk { p with hello := lessI p.hello } := ⟨h.fd, h.rr, h.rb, h.tc, h.edge, h.md, h.info, less_in h.hello, h.txCount⟩
set_option maxRecDepth 20000 in
set_option maxHeartbeats 2000000 in
theorem eachTimer_w (b : Nat) (p X : Pt) (w : World) (h : PtBlk 78 w b p) (hk : TkOk p) (hX : Hid ({ p with fd := lessI p.fd, rr := lessI p.rr, rb := lessI p.rb, tc := lessI p.tc, edge := lessI p.edge, md := lessI p.md, info := lessI p.info, hello := lessI p.hello } = X)) :
    Calls Tryz.prog 91 #[.pointer (some ⟨b, 0, none⟩), .func (.func 92) #[] #[]] w fun e w' => e = .returned (.tuple #[]) ∧ Tn 78 b X w w' := by
  have HT := Lib.hid (tn_draw (Tn.refl h))
  obtain ⟨P0, h0⟩ : ∃ P, p = P := ⟨_, rfl⟩
  have K0 := Lib.hid hk
  rw [h0] at HT K0
  obtain ⟨P1, h1⟩ : ∃ P, ({ P0 with fd := lessI P0.fd } : Pt) = P := ⟨_, rfl⟩
  have E1 := Lib.hid h1
  have K1 := Lib.hid (h1 ▸ tk_fd K0.out : TkOk P1)
  obtain ⟨P2, h2⟩ : ∃ P, ({ P1 with rr := lessI P1.rr } : Pt) = P := ⟨_, rfl⟩
  have E2 := Lib.hid h2
  have K2 := Lib.hid (h2 ▸ tk_rr K1.out : TkOk P2)
  obtain ⟨P3, h3⟩ : ∃ P, ({ P2 with rb := lessI P2.rb } : Pt) = P := ⟨_, rfl⟩
  have E3 := Lib.hid h3
  have K3 := Lib.hid (h3 ▸ tk_rb K2.out : TkOk P3)
  obtain ⟨P4, h4⟩ : ∃ P, ({ P3 with tc := lessI P3.tc } : Pt) = P := ⟨_, rfl⟩
  have E4 := Lib.hid h4
  have K4 := Lib.hid (h4 ▸ tk_tc K3.out : TkOk P4)
  obtain ⟨P5, h5⟩ : ∃ P, ({ P4 with edge := lessI P4.edge } : Pt) = P := ⟨_, rfl⟩
  have E5 := Lib.hid h5
  have K5 := Lib.hid (h5 ▸ tk_edge K4.out : TkOk P5)
  obtain ⟨P6, h6⟩ : ∃ P, ({ P5 with md := lessI P5.md } : Pt) = P := ⟨_, rfl⟩
  have E6 := Lib.hid h6
  have K6 := Lib.hid (h6 ▸ tk_md K5.out : TkOk P6)
  obtain ⟨P7, h7⟩ : ∃ P, ({ P6 with info := lessI P6.info } : Pt) = P := ⟨_, rfl⟩
  have E7 := Lib.hid h7
  have K7 := Lib.hid (h7 ▸ tk_info K6.out : TkOk P7)
  obtain ⟨P8, h8⟩ : ∃ P, ({ P7 with hello := lessI P7.hello } : Pt) = P := ⟨_, rfl⟩
  have E8 := Lib.hid h8
  have K8 := Lib.hid (h8 ▸ tk_hello K7.out : TkOk P8)
  have HX := Lib.hid (show P8 = X by rw [← hX.out, ← h8, ← h7, ← h6, ← h5, ← h4, ← h3, ← h2, ← h1, ← h0])
  have i0 : ∀ w, (Instr.index 188 (.agg #[.pointer (some ⟨b, 50, none⟩), .pointer (some ⟨b, 51, none⟩), .pointer (some ⟨b, 52, none⟩), .pointer (some ⟨b, 53, none⟩), .pointer (some ⟨b, 54, none⟩), .pointer (some ⟨b, 55, none⟩), .pointer (some ⟨b, 56, none⟩), .pointer (some ⟨b, 57, none⟩)]) (.int .i64 0)).run Tryz.prog w = .ok (.pointer (some ⟨b, 50, none⟩)) w := fun _ => by kernel_rfl
  have i1 : ∀ w, (Instr.index 188 (.agg #[.pointer (some ⟨b, 50, none⟩), .pointer (some ⟨b, 51, none⟩), .pointer (some ⟨b, 52, none⟩), .pointer (some ⟨b, 53, none⟩), .pointer (some ⟨b, 54, none⟩), .pointer (some ⟨b, 55, none⟩), .pointer (some ⟨b, 56, none⟩), .pointer (some ⟨b, 57, none⟩)]) (.int .i64 1)).run Tryz.prog w = .ok (.pointer (some ⟨b, 51, none⟩)) w := fun _ => by kernel_rfl
  have i2 : ∀ w, (Instr.index 188 (.agg #[.pointer (some ⟨b, 50, none⟩), .pointer (some ⟨b, 51, none⟩), .pointer (some ⟨b, 52, none⟩), .pointer (some ⟨b, 53, none⟩), .pointer (some ⟨b, 54, none⟩), .pointer (some ⟨b, 55, none⟩), .pointer (some ⟨b, 56, none⟩), .pointer (some ⟨b, 57, none⟩)]) (.int .i64 2)).run Tryz.prog w = .ok (.pointer (some ⟨b, 52, none⟩)) w := fun _ => by kernel_rfl
  have i3 : ∀ w, (Instr.index 188 (.agg #[.pointer (some ⟨b, 50, none⟩), .pointer (some ⟨b, 51, none⟩), .pointer (some ⟨b, 52, none⟩), .pointer (some ⟨b, 53, none⟩), .pointer (some ⟨b, 54, none⟩), .pointer (some ⟨b, 55, none⟩), .pointer (some ⟨b, 56, none⟩), .pointer (some ⟨b, 57, none⟩)]) (.int .i64 3)).run Tryz.prog w = .ok (.pointer (some ⟨b, 53, none⟩)) w := fun _ => by kernel_rfl
  have i4 : ∀ w, (Instr.index 188 (.agg #[.pointer (some ⟨b, 50, none⟩), .pointer (some ⟨b, 51, none⟩), .pointer (some ⟨b, 52, none⟩), .pointer (some ⟨b, 53, none⟩), .pointer (some ⟨b, 54, none⟩), .pointer (some ⟨b, 55, none⟩), .pointer (some ⟨b, 56, none⟩), .pointer (some ⟨b, 57, none⟩)]) (.int .i64 4)).run Tryz.prog w = .ok (.pointer (some ⟨b, 54, none⟩)) w := fun _ => by kernel_rfl
  have i5 : ∀ w, (Instr.index 188 (.agg #[.pointer (some ⟨b, 50, none⟩), .pointer (some ⟨b, 51, none⟩), .pointer (some ⟨b, 52, none⟩), .pointer (some ⟨b, 53, none⟩), .pointer (some ⟨b, 54, none⟩), .pointer (some ⟨b, 55, none⟩), .pointer (some ⟨b, 56, none⟩), .pointer (some ⟨b, 57, none⟩)]) (.int .i64 5)).run Tryz.prog w = .ok (.pointer (some ⟨b, 55, none⟩)) w := fun _ => by kernel_rfl
  have i6 : ∀ w, (Instr.index 188 (.agg #[.pointer (some ⟨b, 50, none⟩), .pointer (some ⟨b, 51, none⟩), .pointer (some ⟨b, 52, none⟩), .pointer (some ⟨b, 53, none⟩), .pointer (some ⟨b, 54, none⟩), .pointer (some ⟨b, 55, none⟩), .pointer (some ⟨b, 56, none⟩), .pointer (some ⟨b, 57, none⟩)]) (.int .i64 6)).run Tryz.prog w = .ok (.pointer (some ⟨b, 56, none⟩)) w := fun _ => by kernel_rfl
  have i7 : ∀ w, (Instr.index 188 (.agg #[.pointer (some ⟨b, 50, none⟩), .pointer (some ⟨b, 51, none⟩), .pointer (some ⟨b, 52, none⟩), .pointer (some ⟨b, 53, none⟩), .pointer (some ⟨b, 54, none⟩), .pointer (some ⟨b, 55, none⟩), .pointer (some ⟨b, 56, none⟩), .pointer (some ⟨b, 57, none⟩)]) (.int .i64 7)).run Tryz.prog w = .ok (.pointer (some ⟨b, 57, none⟩)) w := fun _ => by kernel_rfl
  clear h hX hk h0 h1 h2 h3 h4 h5 h6 h7 h8
  go_enter Tryz.func91, Tryz.ntmps91
  go_wp2_with fail
  go_region
  all_goals go_wp2_with fail
  refine wp_loop_rounds 9 ?_
  rw [rounds_succ]
  go_wp2_with fail
  refine (count_fd_w b P0 P1 _ HT.out.blk K0.out.fd E1).mono ?_
  rintro e w1 ⟨rfl, t⟩
  have HT' := Lib.hid (HT.out.trans t)
  clear HT t
  have HT := HT'
  clear HT'
  go_wp2_with fail
  rw [rounds_succ]
  go_wp2_with fail
  refine (count_rr_w b P1 P2 _ HT.out.blk K1.out.rr E2).mono ?_
  rintro e w2 ⟨rfl, t⟩
  have HT' := Lib.hid (HT.out.trans t)
  clear HT t
  have HT := HT'
  clear HT'
  go_wp2_with fail
  rw [rounds_succ]
  go_wp2_with fail
  refine (count_rb_w b P2 P3 _ HT.out.blk K2.out.rb E3).mono ?_
  rintro e w3 ⟨rfl, t⟩
  have HT' := Lib.hid (HT.out.trans t)
  clear HT t
  have HT := HT'
  clear HT'
  go_wp2_with fail
  rw [rounds_succ]
  go_wp2_with fail
  refine (count_tc_w b P3 P4 _ HT.out.blk K3.out.tc E4).mono ?_
  rintro e w4 ⟨rfl, t⟩
  have HT' := Lib.hid (HT.out.trans t)
  clear HT t
  have HT := HT'
  clear HT'
  go_wp2_with fail
  rw [rounds_succ]
  go_wp2_with fail
  refine (count_edge_w b P4 P5 _ HT.out.blk K4.out.edge E5).mono ?_
  rintro e w5 ⟨rfl, t⟩
  have HT' := Lib.hid (HT.out.trans t)
  clear HT t
  have HT := HT'
  clear HT'
  go_wp2_with fail
  rw [rounds_succ]
  go_wp2_with fail
  refine (count_md_w b P5 P6 _ HT.out.blk K5.out.md E6).mono ?_
  rintro e w6 ⟨rfl, t⟩
  have HT' := Lib.hid (HT.out.trans t)
  clear HT t
  have HT := HT'
  clear HT'
  go_wp2_with fail
  rw [rounds_succ]
  go_wp2_with fail
  refine (count_info_w b P6 P7 _ HT.out.blk K6.out.info E7).mono ?_
  rintro e w7 ⟨rfl, t⟩
  have HT' := Lib.hid (HT.out.trans t)
  clear HT t
  have HT := HT'
  clear HT'
  go_wp2_with fail
  rw [rounds_succ]
  go_wp2_with fail
  refine (count_hello_w b P7 P8 _ HT.out.blk K7.out.hello E8).mono ?_
  rintro e w8 ⟨rfl, t⟩
  have HT' := Lib.hid (HT.out.trans t)
  clear HT t
  have HT := HT'
  clear HT'
  go_wp2_with fail
  rw [rounds_succ]
  go_wp2
  go_end0
  exact ⟨rfl, HX.out ▸ HT.out⟩

set_option maxRecDepth 20000 in
set_option maxHeartbeats 1000000 in
theorem tick10_w (p : Pt) (w : World) (hk : TkOk p) : Calls Tryz.prog 47 #[.agg (cellsT p)] w fun e w' => e = .returned (.agg (cellsT (tickP p))) ∧ Below w.heap.size w w' := by
  obtain ⟨W, nb, HW, HN, k0, k1, kB⟩ := twoP_is 78 w p
  obtain ⟨Y, hY⟩ : ∃ Y, ({ p with fd := lessI p.fd, rr := lessI p.rr, rb := lessI p.rb, tc := lessI p.tc, edge := lessI p.edge, md := lessI p.md, info := lessI p.info, hello := lessI p.hello } : Pt) = Y := ⟨_, rfl⟩
  have HY := Lib.hid hY
  obtain ⟨X, hX⟩ : ∃ X, tickP p = X := ⟨_, rfl⟩
  have HX := Lib.hid (show ({ Y with txCount := lessI Y.txCount } : Pt) = X by rw [← hX, ← hY]; rfl)
  have HK := Lib.hid (show inI64 Y.txCount by rw [← hY]; exact hk.txCount)
  have Hk := Lib.hid hk
  rw [hX]
  have H0 := Lib.hid k0
  have H1 := Lib.hid k1
  have HB := Lib.hid kB
  clear k0 k1 kB hX hY hk
  go_enter Tryz.func47, Tryz.ntmps47
  go_upto_region 1 with (fail)
  refine wp_to (W := W) (by exact HW.out.symm) ?_
  rw [HN.out]
  go_wp2_with fail
  refine (eachTimer_w nb p Y _ H0.out Hk.out HY).mono ?_
  rintro e V ⟨rfl, t⟩
  obtain ⟨q0, q1, qB⟩ := tn_end HB.out H0.out H1.out t
  have J0 := Lib.hid q0
  have J1 := Lib.hid q1
  have JB := Lib.hid qB
  clear q0 q1 qB t H0 H1 HB
  go_wp2_with fail
  refine (count_txCount_w nb Y X _ J0.out HK.out HX).mono ?_
  rintro e V ⟨rfl, t⟩
  obtain ⟨q0, q1, qB⟩ := tn_end JB.out J0.out J1.out t
  have K0 := Lib.hid q0
  have K1 := Lib.hid q1
  have KB := Lib.hid qB
  have hsz := q1.lt
  clear q0 q1 qB t J0 J1 JB
  go_upto_region 3 with (fail)
  refine wp_region_list ?_
  refine wpList_load_row rfl 78 _ rfl nb rfl 78 (cellsT X) (0, 0) _ K0.out rfl rfl infoSP ?_
  refine wpList_store_row rfl 78 _ _ rfl (nb + 1) (cellsT X) rfl rfl 78 _ K1.out infoSP rfl (cellsT_one X) ?_
  have K5 := Lib.hid (K1.out.row X)
  have K6 := Lib.hid (below_row KB.out (g := nb + 1) (by omega) (cellsT X))
  go_wp2
  exact bodyPost_ret (v := .agg (cellsT X)) (results_cell_row rfl _ _ (nb + 1) 78 (cellsT X) (0, 0) _ rfl K5.out rfl rfl infoSP) rfl ⟨rfl, HN.out ▸ K6.out⟩

set_option maxHeartbeats 1000000 in
theorem told_w (r : Int) (w : World) (hT : TRoles w) : Calls Tryz.prog 203 #[.int .i64 r] w fun e w' => e = .returned (.int .i64 (toldRole r)) ∧ w = w' := by
  obtain ⟨t0, t1, t2, t3, t4⟩ := hT
  unfold toldRole
  by_cases h : 0 ≤ r ∧ r ≤ 4
  · obtain rfl | rfl | rfl | rfl | rfl : r = 0 ∨ r = 1 ∨ r = 2 ∨ r = 3 ∨ r = 4 := by omega
    all_goals
      go_enter Tryz.func203, Tryz.ntmps203
      go_wp2
      go_ret
      exact ⟨rfl, rfl⟩
  · rw [if_neg (by omega), if_neg (by omega), if_neg (by omega)]
    by_cases hn : r < 0
    · go_enter Tryz.func203, Tryz.ntmps203
      go_wp2
      go_ret
      exact ⟨rfl, rfl⟩
    · have hg : r ≥ 5 := by omega
      go_enter Tryz.func203, Tryz.ntmps203
      go_wp2
      go_ret
      exact ⟨rfl, rfl⟩

set_option maxHeartbeats 1000000 in
theorem fine14_w (n : Int) (w : World) (h : 0 ≤ n) (h2 : n < 1099511627776) : Calls Tryz.prog 175 #[.int .i64 n] w fun e w' => e = .returned (.int .i64 (scaledI n)) ∧ w = w' := by
  by_cases hg : n > 255
  · rw [show scaledI n = 65535 by unfold scaledI; rw [if_pos (by omega)]]
    go_enter Tryz.func175, Tryz.ntmps175
    go_wp2
    go_ret
    exact ⟨rfl, rfl⟩
  · rw [show scaledI n = n * 256 by unfold scaledI; rw [if_neg (by omega)]]
    have hm : max n 0 = n := by omega
    go_enter Tryz.func175, Tryz.ntmps175
    go_wp2
    go_ret
    exact ⟨ret_val (by rfl), rfl⟩

set_option maxHeartbeats 1000000 in
theorem hellos14_w (p : Pt) (R : Bool) (w : World) (hR : Hid ((decide (p.role = 2) || (decide (p.role = 1) && !decide (p.tc = 0))) = R)) :
    Calls Tryz.prog 94 #[.agg (cellsT p)] w fun e w' => e = .returned (.bool R) ∧ Below w.heap.size w w' := by
  have k0 := ptblk_new 78 w p
  have B0 := Lib.hid (below_box w (.cells (cellsT p) 78))
  have c_role := k0.c_role
  have c_tc := k0.c_tc
  rw [← hR.out]
  clear hR
  obtain ⟨z1, d1⟩ : ∃ z, (p.role == 2) = z := ⟨_, rfl⟩
  obtain ⟨z2, d2⟩ : ∃ z, (p.role == 1) = z := ⟨_, rfl⟩
  obtain ⟨z3, d3⟩ : ∃ z, (p.tc == 0) = z := ⟨_, rfl⟩
  rw [show decide (p.role = 2) = z1 from d1, show decide (p.role = 1) = z2 from d2, show decide (p.tc = 0) = z3 from d3]
  clear k0
  cases z1 <;> cases z2
  all_goals
    go_enter Tryz.func94, Tryz.ntmps94
    go_wp2
    all_goals go_ret
    all_goals refine ⟨?_, B0.out⟩
    all_goals (refine ret_val ?_; first | rfl | (simp_all; done) | (subst d3; simp_all [bne]; done))

/-! ### Flags -/
theorem or_bit : ∀ (n : Fin 128), (n.val < 1 → bits .or .i64 ((n.val : Int)) 1 = (n.val : Int) + 1) ∧ (n.val < 2 → bits .or .i64 ((n.val : Int)) 2 = (n.val : Int) + 2) ∧ (n.val < 16 → bits .or .i64 ((n.val : Int)) 16 = (n.val : Int) + 16) ∧ (n.val < 32 → bits .or .i64 ((n.val : Int)) 32 = (n.val : Int) + 32) ∧ (n.val < 64 → bits .or .i64 ((n.val : Int)) 64 = (n.val : Int) + 64) ∧ (bits .or .i64 ((n.val : Int)) 128 = (n.val : Int) + 128) := by
  decide +kernel
theorem or_at {n m : Int} (h0 : 0 ≤ n) (h : n < m) (hm : m = 1 ∨ m = 2 ∨ m = 16 ∨ m = 32 ∨ m = 64 ∨ m = 128) : bits .or .i64 n m = n + m := by
  obtain ⟨k, rfl⟩ : ∃ k : Nat, n = (k : Int) := ⟨n.toNat, by omega⟩
  obtain ⟨a0, a1, a2, a3, a4, a5⟩ := or_bit ⟨k, by omega⟩
  rcases hm with rfl | rfl | rfl | rfl | rfl | rfl
  · exact a0 (by show k < 1; omega)
  · exact a1 (by show k < 2; omega)
  · exact a2 (by show k < 16; omega)
  · exact a3 (by show k < 32; omega)
  · exact a4 (by show k < 64; omega)
  · exact a5
theorem below_put {B : Nat} {w w' : World} {c : Nat} (h : Below B w w') (hc : B ≤ c) (v : Value) : Below B w (w'.setCell ⟨c, 0, none⟩ v) := h.setCell (p := ⟨c, 0, none⟩) hc v
set_option maxHeartbeats 1000000 in
theorem set0_w (c : Nat) (n : Int) (on : Bool) (w : World) (h : One 3 w c (.int .i64 n)) (h0 : 0 ≤ n) (h1 : n < 1) :
    Calls Tryz.prog 202 #[.int .i64 0, .bool on, .pointer (some ⟨c, 0, none⟩)] w fun e w' => e = .returned (.tuple #[]) ∧ One 3 w' c (.int .i64 (n + bI on 1)) ∧ Below c w w' := by
  have H := Lib.hid h
  have k0 := h.cell
  have f0 := h.free
  have hb := or_at h0 h1 (by decide)
  clear h
  cases on
  · go_enter Tryz.func202, Tryz.ntmps202
    go_wp2
    go_end0
    exact ⟨rfl, by rw [show n + bI false 1 = n from by simp [bI]]; exact H.out, Below.refl _ _⟩
  · go_enter Tryz.func202, Tryz.ntmps202
    go_wp2_with fail
    go_region
    all_goals go_wp2
    all_goals go_end0
    all_goals refine ⟨rfl, ?_, (below_put (Below.refl c w) (Nat.le_refl _) _).drew⟩
    all_goals (rw [show bI true 1 = 1 from rfl]; exact H.out.put _)
set_option maxHeartbeats 1000000 in
theorem set7_w (c : Nat) (n : Int) (on : Bool) (w : World) (h : One 3 w c (.int .i64 n)) (h0 : 0 ≤ n) (h1 : n < 128) :
    Calls Tryz.prog 202 #[.int .i64 7, .bool on, .pointer (some ⟨c, 0, none⟩)] w fun e w' => e = .returned (.tuple #[]) ∧ One 3 w' c (.int .i64 (n + bI on 128)) ∧ Below c w w' := by
  have H := Lib.hid h
  have k0 := h.cell
  have f0 := h.free
  have hb := or_at h0 h1 (by decide)
  clear h
  cases on
  · go_enter Tryz.func202, Tryz.ntmps202
    go_wp2
    go_end0
    exact ⟨rfl, by rw [show n + bI false 128 = n from by simp [bI]]; exact H.out, Below.refl _ _⟩
  · go_enter Tryz.func202, Tryz.ntmps202
    go_wp2_with fail
    go_region
    all_goals go_wp2
    all_goals go_end0
    all_goals refine ⟨rfl, ?_, (below_put (Below.refl c w) (Nat.le_refl _) _).drew⟩
    all_goals (rw [show bI true 128 = 128 from rfl]; exact H.out.put _)
set_option maxHeartbeats 1000000 in
theorem set1_w (c : Nat) (n : Int) (on : Bool) (w : World) (h : One 3 w c (.int .i64 n)) (h0 : 0 ≤ n) (h1 : n < 2) :
    Calls Tryz.prog 202 #[.int .i64 1, .bool on, .pointer (some ⟨c, 0, none⟩)] w fun e w' => e = .returned (.tuple #[]) ∧ One 3 w' c (.int .i64 (n + bI on 2)) ∧ Below c w w' := by
  have H := Lib.hid h
  have k0 := h.cell
  have f0 := h.free
  have hb := or_at h0 h1 (by decide)
  clear h
  cases on
  · go_enter Tryz.func202, Tryz.ntmps202
    go_wp2
    go_end0
    exact ⟨rfl, by rw [show n + bI false 2 = n from by simp [bI]]; exact H.out, Below.refl _ _⟩
  · go_enter Tryz.func202, Tryz.ntmps202
    go_wp2_with fail
    go_region
    all_goals go_wp2
    all_goals go_end0
    all_goals refine ⟨rfl, ?_, (below_put (Below.refl c w) (Nat.le_refl _) _).drew⟩
    all_goals (rw [show bI true 2 = 2 from rfl]; exact H.out.put _)
set_option maxHeartbeats 1000000 in
theorem set4_w (c : Nat) (n : Int) (on : Bool) (w : World) (h : One 3 w c (.int .i64 n)) (h0 : 0 ≤ n) (h1 : n < 16) :
    Calls Tryz.prog 202 #[.int .i64 4, .bool on, .pointer (some ⟨c, 0, none⟩)] w fun e w' => e = .returned (.tuple #[]) ∧ One 3 w' c (.int .i64 (n + bI on 16)) ∧ Below c w w' := by
  have H := Lib.hid h
  have k0 := h.cell
  have f0 := h.free
  have hb := or_at h0 h1 (by decide)
  clear h
  cases on
  · go_enter Tryz.func202, Tryz.ntmps202
    go_wp2
    go_end0
    exact ⟨rfl, by rw [show n + bI false 16 = n from by simp [bI]]; exact H.out, Below.refl _ _⟩
  · go_enter Tryz.func202, Tryz.ntmps202
    go_wp2_with fail
    go_region
    all_goals go_wp2
    all_goals go_end0
    all_goals refine ⟨rfl, ?_, (below_put (Below.refl c w) (Nat.le_refl _) _).drew⟩
    all_goals (rw [show bI true 16 = 16 from rfl]; exact H.out.put _)
set_option maxHeartbeats 1000000 in
theorem set5_w (c : Nat) (n : Int) (on : Bool) (w : World) (h : One 3 w c (.int .i64 n)) (h0 : 0 ≤ n) (h1 : n < 32) :
    Calls Tryz.prog 202 #[.int .i64 5, .bool on, .pointer (some ⟨c, 0, none⟩)] w fun e w' => e = .returned (.tuple #[]) ∧ One 3 w' c (.int .i64 (n + bI on 32)) ∧ Below c w w' := by
  have H := Lib.hid h
  have k0 := h.cell
  have f0 := h.free
  have hb := or_at h0 h1 (by decide)
  clear h
  cases on
  · go_enter Tryz.func202, Tryz.ntmps202
    go_wp2
    go_end0
    exact ⟨rfl, by rw [show n + bI false 32 = n from by simp [bI]]; exact H.out, Below.refl _ _⟩
  · go_enter Tryz.func202, Tryz.ntmps202
    go_wp2_with fail
    go_region
    all_goals go_wp2
    all_goals go_end0
    all_goals refine ⟨rfl, ?_, (below_put (Below.refl c w) (Nat.le_refl _) _).drew⟩
    all_goals (rw [show bI true 32 = 32 from rfl]; exact H.out.put _)
set_option maxHeartbeats 1000000 in
theorem set6_w (c : Nat) (n : Int) (on : Bool) (w : World) (h : One 3 w c (.int .i64 n)) (h0 : 0 ≤ n) (h1 : n < 64) :
    Calls Tryz.prog 202 #[.int .i64 6, .bool on, .pointer (some ⟨c, 0, none⟩)] w fun e w' => e = .returned (.tuple #[]) ∧ One 3 w' c (.int .i64 (n + bI on 64)) ∧ Below c w w' := by
  have H := Lib.hid h
  have k0 := h.cell
  have f0 := h.free
  have hb := or_at h0 h1 (by decide)
  clear h
  cases on
  · go_enter Tryz.func202, Tryz.ntmps202
    go_wp2
    go_end0
    exact ⟨rfl, by rw [show n + bI false 64 = n from by simp [bI]]; exact H.out, Below.refl _ _⟩
  · go_enter Tryz.func202, Tryz.ntmps202
    go_wp2_with fail
    go_region
    all_goals go_wp2
    all_goals go_end0
    all_goals refine ⟨rfl, ?_, (below_put (Below.refl c w) (Nat.le_refl _) _).drew⟩
    all_goals (rw [show bI true 64 = 64 from rfl]; exact H.out.put _)

theorem bw_c {nb c : Nat} {w w1 w2 : World} (h : Below nb w w1) (k : Below c w1 w2) (hc : nb < c) : Below nb w w2 := h.trans (k.mono (by omega))
theorem flag_in {n : Int} {b : Bool} {m k : Int} (h0 : 0 ≤ n) (h : n < m) (hm : m + m ≤ k) : 0 ≤ n + bI b m ∧ n + bI b m < k := by
  have := bI_or b m
  omega
theorem flags_join : ∀ (b0 b1 b4 b5 b6 : Bool) (t : Fin 4), bits .or .i64 (bI b0 1 + bI b1 2 + bI b4 16 + bI b5 32 + bI b6 64) ((t.val : Int) * 4) = bI b0 1 + bI b1 2 + 4 * (t.val : Int) + bI b4 16 + bI b5 32 + bI b6 64 := by
  decide +kernel
theorem flags_is {p : Pt} : bits .or .i64 (bI (decide (0 < p.tc)) 1 + bI p.proposing 2 + bI p.learning 16 + bI p.forwarding 32 + bI p.agree 64) (toldRole p.role * 4) = flagsI p false := by
  have h := toldRole_in p.role
  obtain ⟨k, hk⟩ : ∃ k : Nat, toldRole p.role = (k : Int) := ⟨(toldRole p.role).toNat, by omega⟩
  have := flags_join (decide (0 < p.tc)) p.proposing p.learning p.forwarding p.agree ⟨k, by omega⟩
  unfold flagsI
  rw [if_neg (by decide), hk]
  exact this
theorem pf_is (T : TypeId) (w : World) (p : Pt) : ∃ (W : World) (nb : Nat), Hid (((w.alloc (.cells (cellsT p) T)).alloc (.cells #[.int .i64 0] 3)) = W) ∧ Hid (w.heap.size = nb) ∧ PtBlk T W nb p ∧ One 3 W (nb + 1) (.int .i64 0) ∧ Below nb w W := by
  refine ⟨_, _, Lib.hid rfl, Lib.hid rfl, ?_, ?_, ?_⟩
  · exact heap_alloc2_old w _ _
  · exact heap_alloc2_new w _ _
  · exact bw_alloc (below_box w _) _

set_option maxRecDepth 20000 in
set_option maxHeartbeats 2000000 in
theorem flags10_w (p : Pt) (cfg : Bool) (w : World) (hT : TRoles w) :
    Calls Tryz.prog 174 #[.agg (cellsT p), .bool cfg] w fun e w' => e = .returned (.int .i64 (flagsI p cfg)) ∧ Below w.heap.size w w' := by
  obtain ⟨W, nb, HW, HN, k0, k1, kB⟩ := pf_is 78 w p
  have HT := Lib.hid hT
  have F1 := Lib.hid (flag_in (n := 0) (b := decide (0 < p.tc)) (m := 1) (k := 2) (by decide) (by decide) (by decide))
  have G1 := Lib.hid (show 0 ≤ bI (decide (0 < p.tc)) 1 ∧ bI (decide (0 < p.tc)) 1 < 2 from (Int.zero_add (bI (decide (0 < p.tc)) 1)) ▸ F1.out)
  have G2 := Lib.hid (flag_in (b := p.proposing) (m := 2) (k := 16) G1.out.1 G1.out.2 (by decide))
  have G3 := Lib.hid (flag_in (b := p.learning) (m := 16) (k := 32) G2.out.1 G2.out.2 (by decide))
  have G4 := Lib.hid (flag_in (b := p.forwarding) (m := 32) (k := 64) G3.out.1 G3.out.2 (by decide))
  have G5 := Lib.hid (flag_in (b := p.agree) (m := 64) (k := 128) G4.out.1 G4.out.2 (by decide))
  have HFi := Lib.hid (flags_is (p := p))
  have Htr := Lib.hid (toldRole_in p.role)
  cases cfg with
  | true =>
    have O0 := Lib.hid k1
    have K0 := Lib.hid k0
    have B0 := Lib.hid kB
    have c := k0.c_tc
    have hsz := k1.lt
    clear k0 k1 kB hT
    go_enter Tryz.func174, Tryz.ntmps174
    go_upto_region 3 with (fail)
    refine wp_to (W := W) (by exact HW.out.symm) ?_
    rw [HN.out]
    go_wp2_with fail
    refine (runs10_w p.tc _).mono ?_
    rintro e w0 ⟨rfl, rfl⟩
    go_wp2_with fail
    refine (set0_w (nb + 1) (0) (decide (0 < p.tc)) _ O0.out (by decide) (by decide)).mono ?_
    rintro e w1 ⟨rfl, o, hb⟩
    have O1 := Lib.hid o
    have K1 := Lib.hid (K0.out.same (hb.block nb (Nat.lt_succ_self nb)))
    have B1 := Lib.hid (bw_c B0.out hb (Nat.lt_succ_self nb))
    clear o hb O0 K0 B0
    rw [Int.zero_add] at O1
    clear c hsz
    have c := K1.out.c_tcAck
    go_wp2_with fail
    refine (set7_w (nb + 1) (bI (decide (0 < p.tc)) 1) p.tcAck _ O1.out (G1.out.1) (by have := G1.out.2; omega)).mono ?_
    rintro e w2 ⟨rfl, o, hb⟩
    have O2 := Lib.hid o
    have K2 := Lib.hid (K1.out.same (hb.block nb (Nat.lt_succ_self nb)))
    have B2 := Lib.hid (bw_c B1.out hb (Nat.lt_succ_self nb))
    clear o hb O1 K1 B1
    have c2 := O2.out.cell
    go_wp2
    go_ret
    exact ⟨ret_val (by rfl), HN.out ▸ B2.out⟩
  | false =>
    have O0 := Lib.hid k1
    have K0 := Lib.hid k0
    have B0 := Lib.hid kB
    have c := k0.c_tc
    have hsz := k1.lt
    clear k0 k1 kB hT
    go_enter Tryz.func174, Tryz.ntmps174
    go_upto_region 3 with (fail)
    refine wp_to (W := W) (by exact HW.out.symm) ?_
    rw [HN.out]
    go_wp2_with fail
    refine (runs10_w p.tc _).mono ?_
    rintro e w0 ⟨rfl, rfl⟩
    go_wp2_with fail
    refine (set0_w (nb + 1) (0) (decide (0 < p.tc)) _ O0.out (by decide) (by decide)).mono ?_
    rintro e w1 ⟨rfl, o, hb⟩
    have O1 := Lib.hid o
    have K1 := Lib.hid (K0.out.same (hb.block nb (Nat.lt_succ_self nb)))
    have B1 := Lib.hid (bw_c B0.out hb (Nat.lt_succ_self nb))
    clear o hb O0 K0 B0
    rw [Int.zero_add] at O1
    clear c hsz
    have c := K1.out.c_proposing
    go_wp2_with fail
    clear c
    refine (set1_w (nb + 1) (bI (decide (0 < p.tc)) 1) p.proposing _ O1.out (G1.out.1) (G1.out.2)).mono ?_
    rintro e w2 ⟨rfl, o, hb⟩
    have O2 := Lib.hid o
    have K2 := Lib.hid (K1.out.same (hb.block nb (Nat.lt_succ_self nb)))
    have B2 := Lib.hid (bw_c B1.out hb (Nat.lt_succ_self nb))
    clear o hb O1 K1 B1
    have c := K2.out.c_learning
    go_wp2_with fail
    clear c
    refine (set4_w (nb + 1) (bI (decide (0 < p.tc)) 1 + bI p.proposing 2) p.learning _ O2.out (G2.out.1) (G2.out.2)).mono ?_
    rintro e w3 ⟨rfl, o, hb⟩
    have O3 := Lib.hid o
    have K3 := Lib.hid (K2.out.same (hb.block nb (Nat.lt_succ_self nb)))
    have B3 := Lib.hid (bw_c B2.out hb (Nat.lt_succ_self nb))
    clear o hb O2 K2 B2
    have c := K3.out.c_forwarding
    go_wp2_with fail
    clear c
    refine (set5_w (nb + 1) (bI (decide (0 < p.tc)) 1 + bI p.proposing 2 + bI p.learning 16) p.forwarding _ O3.out (G3.out.1) (G3.out.2)).mono ?_
    rintro e w4 ⟨rfl, o, hb⟩
    have O4 := Lib.hid o
    have K4 := Lib.hid (K3.out.same (hb.block nb (Nat.lt_succ_self nb)))
    have B4 := Lib.hid (bw_c B3.out hb (Nat.lt_succ_self nb))
    clear o hb O3 K3 B3
    have c := K4.out.c_agree
    go_wp2_with fail
    clear c
    refine (set6_w (nb + 1) (bI (decide (0 < p.tc)) 1 + bI p.proposing 2 + bI p.learning 16 + bI p.forwarding 32) p.agree _ O4.out (G4.out.1) (G4.out.2)).mono ?_
    rintro e w5 ⟨rfl, o, hb⟩
    have O5 := Lib.hid o
    have K5 := Lib.hid (K4.out.same (hb.block nb (Nat.lt_succ_self nb)))
    have B5 := Lib.hid (bw_c B4.out hb (Nat.lt_succ_self nb))
    clear o hb O4 K4 B4
    have c0 := O5.out.cell
    have c1 := K5.out.c_role
    have T5 := Lib.hid (HT.out.next (HN.out ▸ B5.out))
    have CQ := Lib.hid (fun (n : Nat) => (told_w p.role (w5.drewN n) T5.out).mono (fun e w' (he : e = .returned (.int .i64 (toldRole p.role)) ∧ w5.drewN n = w') => (⟨he.1, he.2.symm⟩ : e = .returned (.int .i64 (toldRole p.role)) ∧ w' = w5.drewN n)))
    obtain ⟨R, hR⟩ : ∃ R, toldRole p.role = R := ⟨_, rfl⟩
    rw [hR] at CQ Htr HFi
    have hr0 := Htr.out.1
    have hr1 := Htr.out.2
    obtain ⟨n, hn⟩ : ∃ n, bI (decide (0 < p.tc)) 1 + bI p.proposing 2 + bI p.learning 16 + bI p.forwarding 32 + bI p.agree 64 = n := ⟨_, rfl⟩
    rw [hn] at c0 HFi
    have hfi := HFi.out
    clear hR hn
    go_wp2_with fail
    go_quiet ((go_at_call 203; exact Calls.quiet_of_same (CQ.out _)))
    all_goals go_wp2
    all_goals go_ret
    all_goals refine ⟨?_, HN.out ▸ below_drewN B5.out _⟩
    all_goals exact ret_val rfl
end Go.Proofs.YtldobcfejldbiaaGreatDoor
