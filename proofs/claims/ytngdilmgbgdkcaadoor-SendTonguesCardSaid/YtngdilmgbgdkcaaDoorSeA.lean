/-
  Layer 14: check, sense, what is done in each of the three ways, Tongue, Edge; layer 10: runs, countDown, eachTimer, Tick.
-/
import Derived.Test.YtngdilmgbgdkcaaDoorSeMath
import Derived.Test.YtngdilmgbgdkcaaDoorInW
namespace Go.Proofs.YtngdilmgbgdkcaaDoor
set_option linter.unusedVariables false
set_option linter.unusedSimpArgs false
open Go.RowKit Vm Rm Bm Im

set_option maxHeartbeats 1000000 in
theorem check14_w (b : Nat) (p : Pt) (w : World) (h : PtBlk 30 w b p) :
    Calls Tryd.prog 28 #[.pointer (some ⟨b, 0, none⟩)] w fun e w' => e = .returned (.tuple #[]) ∧ Tn 30 b (checksP p) w w' := by
  have H := Lib.hid h
  have f := h.free
  have c_migrate := h.c_migrate
  have c_md := h.c_md
  have c_check := h.c_check
  have c_sendRstp := h.c_sendRstp
  clear h
  go_enter Tryd.func28, Tryd.ntmps28
  go_wp2
  go_end0
  exact ⟨rfl, (((((Tn.refl H.out).set 60 (.int .i64 0) (H.out.s_migrate 0)).set 55 (.int .i64 3) ((H.out.s_migrate 0).s_md 3)).set 49 (.bool false) (((H.out.s_migrate 0).s_md 3).s_check false)).set 46 (.bool true) ((((H.out.s_migrate 0).s_md 3).s_check false).s_sendRstp true))⟩

set_option maxHeartbeats 1000000 in
theorem sense14_w (b : Nat) (p : Pt) (w : World) (h : PtBlk 30 w b p) :
    Calls Tryd.prog 29 #[.pointer (some ⟨b, 0, none⟩)] w fun e w' => e = .returned (.tuple #[]) ∧ Tn 30 b (sensesP p) w w' := by
  have H := Lib.hid h
  have f := h.free
  have c_migrate := h.c_migrate
  have c_heardRstp := h.c_heardRstp
  have c_heardStp := h.c_heardStp
  clear h
  go_enter Tryd.func29, Tryd.ntmps29
  go_wp2
  go_end0
  exact ⟨rfl, ((((Tn.refl H.out).set 60 (.int .i64 2) (H.out.s_migrate 2)).set 47 (.bool false) ((H.out.s_migrate 2).s_heardRstp false)).set 48 (.bool false) (((H.out.s_migrate 2).s_heardRstp false).s_heardStp false))⟩

def ofCheckingP (p : Pt) : Pt := if p.on = false ∧ ¬ p.md = 3 then checksP p else if p.md = 0 then sensesP p else p
def ofSelectingP (p : Pt) : Pt := if p.md = 0 ∨ p.on = false ∨ p.check = true then sensesP p else p
def ofSensingP (p : Pt) : Pt := if p.on = false ∨ p.check = true ∨ (p.sendRstp = false ∧ p.heardRstp = true) then checksP p
     else if p.sendRstp = true ∧ p.heardStp = true then oldP p else p
set_option maxHeartbeats 1000000 in
theorem ofChecking_w (b : Nat) (p X : Pt) (w : World) (h : PtBlk 30 w b p) (hX : Hid (ofCheckingP p = X)) :
    Calls Tryd.prog 20 #[.pointer (some ⟨b, 0, none⟩)] w fun e w' => e = .returned (.tuple #[]) ∧ Tn 30 b X w w' := by
  have H := Lib.hid h
  have f := h.free
  rw [← hX.out]
  clear hX
  unfold ofCheckingP
  have c_on := h.c_on
  obtain ⟨x_on, e_on⟩ : ∃ x, p.on = x := ⟨_, rfl⟩
  rw [e_on] at c_on
  have c_md := h.c_md
  obtain ⟨x_md, e_md⟩ : ∃ x, p.md = x := ⟨_, rfl⟩
  rw [e_md] at c_md
  simp only [e_on, e_md]
  clear h e_on e_md
  by_cases h3 : x_md = 3
  · subst h3
    cases x_on
    all_goals
      go_enter Tryd.func20, Tryd.ntmps20
      go_wp2
      go_end0
      exact ⟨rfl, Tn.refl H.out⟩
  · have g3 : (x_md == 3) = false := by simpa using h3
    have g3' : (x_md != 3) = true := by simpa using h3
    cases x_on
    · rw [if_pos ⟨rfl, h3⟩]
      go_enter Tryd.func20, Tryd.ntmps20
      go_wp2_with fail
      refine (check14_w b p _ H.out).mono ?_
      rintro e w1 ⟨rfl, t⟩
      go_wp2
      go_end0
      exact ⟨rfl, t⟩
    · rw [if_neg (by simp)]
      by_cases h0 : x_md = 0
      · subst h0
        rw [if_pos rfl]
        go_enter Tryd.func20, Tryd.ntmps20
        go_wp2_with fail
        refine (sense14_w b p _ H.out).mono ?_
        rintro e w1 ⟨rfl, t⟩
        go_wp2
        go_end0
        exact ⟨rfl, t⟩
      · have g0 : (x_md == 0) = false := by simpa using h0
        rw [if_neg h0]
        go_enter Tryd.func20, Tryd.ntmps20
        go_wp2
        go_end0
        exact ⟨rfl, Tn.refl H.out⟩

set_option maxHeartbeats 1000000 in
theorem ofSelecting_w (b : Nat) (p X : Pt) (w : World) (h : PtBlk 30 w b p) (hX : Hid (ofSelectingP p = X)) :
    Calls Tryd.prog 21 #[.pointer (some ⟨b, 0, none⟩)] w fun e w' => e = .returned (.tuple #[]) ∧ Tn 30 b X w w' := by
  have H := Lib.hid h
  have f := h.free
  rw [← hX.out]
  clear hX
  unfold ofSelectingP
  have c_md := h.c_md
  obtain ⟨x_md, e_md⟩ : ∃ x, p.md = x := ⟨_, rfl⟩
  rw [e_md] at c_md
  have c_on := h.c_on
  obtain ⟨x_on, e_on⟩ : ∃ x, p.on = x := ⟨_, rfl⟩
  rw [e_on] at c_on
  have c_check := h.c_check
  obtain ⟨x_check, e_check⟩ : ∃ x, p.check = x := ⟨_, rfl⟩
  rw [e_check] at c_check
  simp only [e_on, e_md, e_check]
  clear h e_on e_md e_check
  obtain ⟨z, hz⟩ : ∃ z, (x_md == 0) = z := ⟨_, rfl⟩
  have hz' : x_md = 0 ↔ z = true := by rw [← hz]; simp
  simp only [hz']
  clear hz'
  cases z <;> cases x_on <;> cases x_check
  all_goals first | rw [if_pos (by decide)] | rw [if_neg (by decide)]
  all_goals
    go_enter Tryd.func21, Tryd.ntmps21
    go_wp2_with fail
    first
    | (refine (sense14_w b p _ H.out).mono ?_
       rintro e w1 ⟨rfl, t⟩
       go_wp2
       go_end0
       exact ⟨rfl, t⟩)
    | (go_end0; exact ⟨rfl, Tn.refl H.out⟩)

set_option maxHeartbeats 1000000 in
theorem ofSensing_w (b : Nat) (p X : Pt) (w : World) (h : PtBlk 30 w b p) (hX : Hid (ofSensingP p = X)) :
    Calls Tryd.prog 22 #[.pointer (some ⟨b, 0, none⟩)] w fun e w' => e = .returned (.tuple #[]) ∧ Tn 30 b X w w' := by
  have H := Lib.hid h
  have f := h.free
  rw [← hX.out]
  clear hX
  unfold ofSensingP
  have c_on := h.c_on
  obtain ⟨x_on, e_on⟩ : ∃ x, p.on = x := ⟨_, rfl⟩
  rw [e_on] at c_on
  have c_check := h.c_check
  obtain ⟨x_check, e_check⟩ : ∃ x, p.check = x := ⟨_, rfl⟩
  rw [e_check] at c_check
  have c_sendRstp := h.c_sendRstp
  obtain ⟨x_sendRstp, e_sendRstp⟩ : ∃ x, p.sendRstp = x := ⟨_, rfl⟩
  rw [e_sendRstp] at c_sendRstp
  have c_heardRstp := h.c_heardRstp
  obtain ⟨x_heardRstp, e_heardRstp⟩ : ∃ x, p.heardRstp = x := ⟨_, rfl⟩
  rw [e_heardRstp] at c_heardRstp
  have c_heardStp := h.c_heardStp
  obtain ⟨x_heardStp, e_heardStp⟩ : ∃ x, p.heardStp = x := ⟨_, rfl⟩
  rw [e_heardStp] at c_heardStp
  have c_md := h.c_md
  have c_migrate := h.c_migrate
  simp only [e_on, e_check, e_sendRstp, e_heardRstp, e_heardStp]
  clear h e_on e_check e_sendRstp e_heardRstp e_heardStp
  have T := Lib.hid ((((Tn.refl H.out).set 46 (.bool false) (H.out.s_sendRstp false)).set 60 (.int .i64 1) ((H.out.s_sendRstp false).s_migrate 1)).set 55 (.int .i64 3) (((H.out.s_sendRstp false).s_migrate 1).s_md 3))
  cases x_on <;> cases x_check <;> cases x_sendRstp <;> cases x_heardRstp <;> cases x_heardStp
  all_goals first | rw [if_pos (by decide)] | (rw [if_neg (by decide)]; first | rw [if_pos (by decide)] | rw [if_neg (by decide)])
  all_goals
    go_enter Tryd.func22, Tryd.ntmps22
    go_wp2_with fail
    first
    | (refine (check14_w b p _ H.out).mono ?_
       rintro e w1 ⟨rfl, t⟩
       go_wp2
       go_end0
       exact ⟨rfl, t⟩)
    | (go_end0; exact ⟨rfl, Tn.refl H.out⟩)
    | (go_end0; exact ⟨rfl, T.out⟩)

theorem tn_end {w W V : World} {nb : Nat} {p X : Pt} (hB : Below nb w W) (k0 : PtBlk 30 W nb p) (k1 : PtBlk 30 W (nb + 1) zeroP) (t : Tn 30 nb X W V) : PtBlk 30 V nb X ∧ PtBlk 30 V (nb + 1) zeroP ∧ Below nb w V :=
  ⟨t.blk, k1.same (t.at k1.lt (by omega)), t.below hB (Nat.le_refl _) (by have := k0.lt; omega)⟩
set_option maxRecDepth 20000 in
set_option maxHeartbeats 1000000 in
theorem tongue0_w (p X : Pt) (w : World) (h : p.migrate = 0) (hX : Hid (ofCheckingP p = X)) :
    Calls Tryd.prog 11 #[.agg (cellsT p)] w fun e w' => e = .returned (.agg (cellsT X)) ∧ Below w.heap.size w w' := by
  obtain ⟨W, nb, HW, HN, k0, k1, kB⟩ := twoP_is 30 w p
  have H0 := Lib.hid k0
  have H1 := Lib.hid k1
  have HB := Lib.hid kB
  have c2 := k0.c_migrate
  rw [h] at c2
  clear k0 k1 kB h
  go_enter Tryd.func11, Tryd.ntmps11
  go_upto_region 1 with (fail)
  refine wp_to (W := W) (by exact HW.out.symm) ?_
  rw [HN.out]
  go_upto_region 3 with (fail)
  go_wp2_with fail
  refine (ofChecking_w nb p X _ H0.out hX).mono ?_
  rintro e V ⟨rfl, t⟩
  obtain ⟨q0, q1, qB⟩ := tn_end HB.out H0.out H1.out t
  have K0 := Lib.hid q0
  have K1 := Lib.hid q1
  have KB := Lib.hid qB
  have hsz := q1.lt
  clear q0 q1 qB t H0 H1 HB c2
  go_upto_region 8 with (fail)
  refine wp_region_list ?_
  refine wpList_load_row rfl 30 _ rfl nb rfl 30 (cellsT X) (0, 0) _ K0.out rfl rfl infoSP ?_
  refine wpList_store_row rfl 30 _ _ rfl (nb + 1) (cellsT X) rfl rfl 30 _ K1.out infoSP rfl (cellsT_one X) ?_
  have K5 := Lib.hid (K1.out.row X)
  have K6 := Lib.hid (below_row KB.out (g := nb + 1) (by omega) (cellsT X))
  go_wp2
  exact bodyPost_ret (v := .agg (cellsT X)) (results_cell_row rfl _ _ (nb + 1) 30 (cellsT X) (0, 0) _ rfl K5.out rfl rfl infoSP) rfl ⟨rfl, HN.out ▸ K6.out⟩

set_option maxRecDepth 20000 in
set_option maxHeartbeats 1000000 in
theorem tongue1_w (p X : Pt) (w : World) (h : p.migrate = 1) (hX : Hid (ofSelectingP p = X)) :
    Calls Tryd.prog 11 #[.agg (cellsT p)] w fun e w' => e = .returned (.agg (cellsT X)) ∧ Below w.heap.size w w' := by
  obtain ⟨W, nb, HW, HN, k0, k1, kB⟩ := twoP_is 30 w p
  have H0 := Lib.hid k0
  have H1 := Lib.hid k1
  have HB := Lib.hid kB
  have c2 := k0.c_migrate
  rw [h] at c2
  clear k0 k1 kB h
  go_enter Tryd.func11, Tryd.ntmps11
  go_upto_region 1 with (fail)
  refine wp_to (W := W) (by exact HW.out.symm) ?_
  rw [HN.out]
  go_upto_region 5 with (fail)
  go_wp2_with fail
  refine (ofSelecting_w nb p X _ H0.out hX).mono ?_
  rintro e V ⟨rfl, t⟩
  obtain ⟨q0, q1, qB⟩ := tn_end HB.out H0.out H1.out t
  have K0 := Lib.hid q0
  have K1 := Lib.hid q1
  have KB := Lib.hid qB
  have hsz := q1.lt
  clear q0 q1 qB t H0 H1 HB c2
  go_upto_region 8 with (fail)
  refine wp_region_list ?_
  refine wpList_load_row rfl 30 _ rfl nb rfl 30 (cellsT X) (0, 0) _ K0.out rfl rfl infoSP ?_
  refine wpList_store_row rfl 30 _ _ rfl (nb + 1) (cellsT X) rfl rfl 30 _ K1.out infoSP rfl (cellsT_one X) ?_
  have K5 := Lib.hid (K1.out.row X)
  have K6 := Lib.hid (below_row KB.out (g := nb + 1) (by omega) (cellsT X))
  go_wp2
  exact bodyPost_ret (v := .agg (cellsT X)) (results_cell_row rfl _ _ (nb + 1) 30 (cellsT X) (0, 0) _ rfl K5.out rfl rfl infoSP) rfl ⟨rfl, HN.out ▸ K6.out⟩

set_option maxRecDepth 20000 in
set_option maxHeartbeats 1000000 in
theorem tongue2_w (p X : Pt) (w : World) (h : p.migrate = 2) (hX : Hid (ofSensingP p = X)) :
    Calls Tryd.prog 11 #[.agg (cellsT p)] w fun e w' => e = .returned (.agg (cellsT X)) ∧ Below w.heap.size w w' := by
  obtain ⟨W, nb, HW, HN, k0, k1, kB⟩ := twoP_is 30 w p
  have H0 := Lib.hid k0
  have H1 := Lib.hid k1
  have HB := Lib.hid kB
  have c2 := k0.c_migrate
  rw [h] at c2
  clear k0 k1 kB h
  go_enter Tryd.func11, Tryd.ntmps11
  go_upto_region 1 with (fail)
  refine wp_to (W := W) (by exact HW.out.symm) ?_
  rw [HN.out]
  go_upto_region 7 with (fail)
  go_wp2_with fail
  refine (ofSensing_w nb p X _ H0.out hX).mono ?_
  rintro e V ⟨rfl, t⟩
  obtain ⟨q0, q1, qB⟩ := tn_end HB.out H0.out H1.out t
  have K0 := Lib.hid q0
  have K1 := Lib.hid q1
  have KB := Lib.hid qB
  have hsz := q1.lt
  clear q0 q1 qB t H0 H1 HB c2
  go_upto_region 8 with (fail)
  refine wp_region_list ?_
  refine wpList_load_row rfl 30 _ rfl nb rfl 30 (cellsT X) (0, 0) _ K0.out rfl rfl infoSP ?_
  refine wpList_store_row rfl 30 _ _ rfl (nb + 1) (cellsT X) rfl rfl 30 _ K1.out infoSP rfl (cellsT_one X) ?_
  have K5 := Lib.hid (K1.out.row X)
  have K6 := Lib.hid (below_row KB.out (g := nb + 1) (by omega) (cellsT X))
  go_wp2
  exact bodyPost_ret (v := .agg (cellsT X)) (results_cell_row rfl _ _ (nb + 1) 30 (cellsT X) (0, 0) _ rfl K5.out rfl rfl infoSP) rfl ⟨rfl, HN.out ▸ K6.out⟩

set_option maxRecDepth 20000 in
set_option maxHeartbeats 1000000 in
theorem tongueNo_w (p : Pt) (w : World) (h0 : ¬ p.migrate = 0) (h1 : ¬ p.migrate = 1) (h2 : ¬ p.migrate = 2) :
    Calls Tryd.prog 11 #[.agg (cellsT p)] w fun e w' => e = .returned (.agg (cellsT p)) ∧ Below w.heap.size w w' := by
  obtain ⟨W, nb, HW, HN, k0, k1, kB⟩ := twoP_is 30 w p
  have K0 := Lib.hid k0
  have K1 := Lib.hid k1
  have KB := Lib.hid kB
  have hsz := k1.lt
  have c2 := k0.c_migrate
  obtain ⟨m, hm⟩ : ∃ m, p.migrate = m := ⟨_, rfl⟩
  rw [hm] at c2 h0 h1 h2
  have g0 : (m == 0) = false := by simpa using h0
  have g1 : (m == 1) = false := by simpa using h1
  have g2 : (m == 2) = false := by simpa using h2
  clear k0 k1 kB hm
  go_enter Tryd.func11, Tryd.ntmps11
  go_upto_region 1 with (fail)
  refine wp_to (W := W) (by exact HW.out.symm) ?_
  rw [HN.out]
  go_upto_region 8 with (fail)
  refine wp_region_list ?_
  refine wpList_load_row rfl 30 _ rfl nb rfl 30 (cellsT p) (0, 0) _ K0.out rfl rfl infoSP ?_
  refine wpList_store_row rfl 30 _ _ rfl (nb + 1) (cellsT p) rfl rfl 30 _ K1.out infoSP rfl (cellsT_one p) ?_
  have K5 := Lib.hid (K1.out.row p)
  have K6 := Lib.hid (below_row KB.out (g := nb + 1) (by omega) (cellsT p))
  go_wp2
  exact bodyPost_ret (v := .agg (cellsT p)) (results_cell_row rfl _ _ (nb + 1) 30 (cellsT p) (0, 0) _ rfl K5.out rfl rfl infoSP) rfl ⟨rfl, HN.out ▸ K6.out⟩

theorem tongue14_w (p : Pt) (w : World) : Calls Tryd.prog 11 #[.agg (cellsT p)] w fun e w' => e = .returned (.agg (cellsT (tongueP p))) ∧ Below w.heap.size w w' := by
  unfold tongueP
  by_cases h0 : p.migrate = 0
  · rw [if_pos h0]; exact tongue0_w p _ w h0 (Lib.hid rfl)
  rw [if_neg h0]
  by_cases h1 : p.migrate = 1
  · rw [if_pos h1]; exact tongue1_w p _ w h1 (Lib.hid rfl)
  rw [if_neg h1]
  by_cases h2 : p.migrate = 2
  · rw [if_pos h2]; exact tongue2_w p _ w h2 (Lib.hid rfl)
  rw [if_neg h2]
  exact tongueNo_w p w h0 h1 h2

def edgeC (p : Pt) : Bool := p.on && (p.proposing && (p.sendRstp && decide (p.edge = 0)))
theorem edge_is (p : Pt) : edgeP p = if edgeC p = true then { p with oper := true } else p := by
  unfold edgeP
  cases ho : p.oper
  · have h1 : edgeB p = edgeC p := by unfold edgeB edgeC; rw [ho]; simp
    rw [h1]
  · have h1 : edgeB p = false := by unfold edgeB; rw [ho]; simp
    rw [h1, if_neg Bool.false_ne_true]
    split
    · obtain ⟨⟩ := p
      simp at ho
      subst ho
      rfl
    · rfl
set_option maxRecDepth 20000 in
set_option maxHeartbeats 1000000 in
theorem edge14_w (p : Pt) (w : World) : Calls Tryd.prog 12 #[.agg (cellsT p)] w fun e w' => e = .returned (.agg (cellsT (edgeP p))) ∧ Below w.heap.size w w' := by
  obtain ⟨W, nb, HW, HN, k0, k1, kB⟩ := twoP_is 30 w p
  have hsz := k1.lt
  have hsz0 := k0.lt
  have f := k0.free
  have c_oper := k0.c_oper
  have A0 := Lib.hid k0
  have A1 := Lib.hid k1
  have AB := Lib.hid kB
  rw [edge_is]
  obtain ⟨X, hX⟩ : ∃ X, ({ p with oper := true } : Pt) = X := ⟨_, rfl⟩
  have AT := Lib.hid (((Tn.refl A0.out).set 4 (.bool true) (A0.out.s_oper true)).as hX)
  rw [hX]
  clear hX
  unfold edgeC
  have c_on := k0.c_on
  obtain ⟨x_on, e_on⟩ : ∃ x, p.on = x := ⟨_, rfl⟩
  rw [e_on] at c_on
  have c_proposing := k0.c_proposing
  obtain ⟨x_proposing, e_proposing⟩ : ∃ x, p.proposing = x := ⟨_, rfl⟩
  rw [e_proposing] at c_proposing
  have c_sendRstp := k0.c_sendRstp
  obtain ⟨x_sendRstp, e_sendRstp⟩ : ∃ x, p.sendRstp = x := ⟨_, rfl⟩
  rw [e_sendRstp] at c_sendRstp
  have c_edge := k0.c_edge
  obtain ⟨z, hz⟩ : ∃ z, (p.edge == 0) = z := ⟨_, rfl⟩
  have hz' : decide (p.edge = 0) = z := by rw [← hz]; rfl
  simp only [e_on, e_proposing, e_sendRstp, hz']
  clear hz' e_on e_proposing e_sendRstp k0 k1 kB
  cases x_on <;> cases x_proposing <;> cases x_sendRstp <;> cases z
  all_goals simp only [Bool.false_and, Bool.true_and, Bool.and_false, Bool.and_true]
  all_goals first | rw [if_pos rfl] | rw [if_pos trivial] | rw [if_neg (by decide)]
  all_goals
    go_enter Tryd.func12, Tryd.ntmps12
    go_upto_region 1 with (fail)
    refine wp_to (W := W) (by exact HW.out.symm) ?_
    rw [HN.out]
    go_upto_region 3 with (fail)
    first
    | (have K0 := A0
       have K1 := A1
       have KB := AB
       clear A0 A1 AB
       refine wp_region_list ?_
       refine wpList_load_row rfl 30 _ rfl nb rfl 30 (cellsT p) (0, 0) _ K0.out rfl rfl infoSP ?_
       refine wpList_store_row rfl 30 _ _ rfl (nb + 1) (cellsT p) rfl rfl 30 _ K1.out infoSP rfl (cellsT_one p) ?_
       have K5 := Lib.hid (K1.out.row p)
       have K6 := Lib.hid (below_row KB.out (g := nb + 1) (by omega) (cellsT p))
       go_wp2
       exact bodyPost_ret (v := .agg (cellsT p)) (results_cell_row rfl _ _ (nb + 1) 30 (cellsT p) (0, 0) _ rfl K5.out rfl rfl infoSP) rfl ⟨rfl, HN.out ▸ K6.out⟩)
    | (obtain ⟨q0, q1, qB⟩ := tn_end AB.out A0.out A1.out AT.out
       have K0 := Lib.hid q0
       have K1 := Lib.hid q1
       have KB := Lib.hid qB
       clear q0 q1 qB A0 A1 AB
       refine wp_region_list ?_
       refine wpList_load_row rfl 30 _ rfl nb rfl 30 (cellsT X) (0, 0) _ K0.out rfl rfl infoSP ?_
       refine wpList_store_row rfl 30 _ _ rfl (nb + 1) (cellsT X) rfl rfl 30 _ K1.out infoSP rfl (cellsT_one X) ?_
       have K5 := Lib.hid (K1.out.row X)
       have K6 := Lib.hid (below_row KB.out (g := nb + 1) (by omega) (cellsT X))
       go_wp2
       exact bodyPost_ret (v := .agg (cellsT X)) (results_cell_row rfl _ _ (nb + 1) 30 (cellsT X) (0, 0) _ rfl K5.out rfl rfl infoSP) rfl ⟨rfl, HN.out ▸ K6.out⟩)

set_option maxHeartbeats 1000000 in
theorem runs10_w (n : Int) (w : World) : Calls Tryd.prog 27 #[.int .i64 n] w fun e w' => e = .returned (.bool (decide (0 < n))) ∧ w = w' := by
  by_cases h : 0 < n
  · have h' : n > 0 := h
    rw [decide_eq_true h]
    go_enter Tryd.func27, Tryd.ntmps27
    go_wp2
    all_goals first | (exfalso; omega) | skip
    all_goals go_ret
    all_goals exact ⟨ret_val (by first | rfl | simp_all), rfl⟩
  · have h' : ¬ n > 0 := h
    rw [decide_eq_false h]
    go_enter Tryd.func27, Tryd.ntmps27
    go_wp2
    all_goals first | (exfalso; omega) | skip
    all_goals go_ret
    all_goals exact ⟨ret_val (by first | rfl | simp_all), rfl⟩
set_option maxHeartbeats 1000000 in
theorem count_fd_w (b : Nat) (p X : Pt) (w : World) (h : PtBlk 30 w b p) (hk : inI64 p.fd) (hX : Hid ({ p with fd := lessI p.fd } = X)) :
    Calls Tryd.prog 19 #[.pointer (some ⟨b, 50, none⟩)] w fun e w' => e = .returned (.tuple #[]) ∧ Tn 30 b X w w' := by
  have H := Lib.hid h
  have f := h.free 50
  have c := h.c_fd
  by_cases hr : 0 < p.fd
  · have e : ({ p with fd := p.fd - 1 } : Pt) = X := by rw [← hX.out]; unfold lessI; rw [if_pos hr]
    have T := Lib.hid (((Tn.refl H.out).set 50 (.int .i64 (p.fd - 1)) (H.out.s_fd (p.fd - 1))).as e)
    have hv := decide_eq_true hr
    have hk1 := hk.1
    have hk2 := hk.2
    clear h hX e hk
    go_enter Tryd.func19, Tryd.ntmps19
    go_wp2_with fail
    refine (runs10_w p.fd _).mono ?_
    rintro e w1 ⟨rfl, rfl⟩
    rw [hv]
    go_wp2
    go_end0
    exact ⟨rfl, T.out⟩
  · have e : p = X := by rw [← hX.out]; unfold lessI; rw [if_neg hr]
    have hv := decide_eq_false hr
    rw [e] at H
    clear h hX e
    go_enter Tryd.func19, Tryd.ntmps19
    go_wp2_with fail
    refine (runs10_w p.fd _).mono ?_
    rintro e w1 ⟨rfl, rfl⟩
    rw [hv]
    go_wp2
    go_end0
    exact ⟨rfl, Tn.refl H.out⟩
set_option maxHeartbeats 1000000 in
theorem count_rr_w (b : Nat) (p X : Pt) (w : World) (h : PtBlk 30 w b p) (hk : inI64 p.rr) (hX : Hid ({ p with rr := lessI p.rr } = X)) :
    Calls Tryd.prog 19 #[.pointer (some ⟨b, 51, none⟩)] w fun e w' => e = .returned (.tuple #[]) ∧ Tn 30 b X w w' := by
  have H := Lib.hid h
  have f := h.free 51
  have c := h.c_rr
  by_cases hr : 0 < p.rr
  · have e : ({ p with rr := p.rr - 1 } : Pt) = X := by rw [← hX.out]; unfold lessI; rw [if_pos hr]
    have T := Lib.hid (((Tn.refl H.out).set 51 (.int .i64 (p.rr - 1)) (H.out.s_rr (p.rr - 1))).as e)
    have hv := decide_eq_true hr
    have hk1 := hk.1
    have hk2 := hk.2
    clear h hX e hk
    go_enter Tryd.func19, Tryd.ntmps19
    go_wp2_with fail
    refine (runs10_w p.rr _).mono ?_
    rintro e w1 ⟨rfl, rfl⟩
    rw [hv]
    go_wp2
    go_end0
    exact ⟨rfl, T.out⟩
  · have e : p = X := by rw [← hX.out]; unfold lessI; rw [if_neg hr]
    have hv := decide_eq_false hr
    rw [e] at H
    clear h hX e
    go_enter Tryd.func19, Tryd.ntmps19
    go_wp2_with fail
    refine (runs10_w p.rr _).mono ?_
    rintro e w1 ⟨rfl, rfl⟩
    rw [hv]
    go_wp2
    go_end0
    exact ⟨rfl, Tn.refl H.out⟩
set_option maxHeartbeats 1000000 in
theorem count_rb_w (b : Nat) (p X : Pt) (w : World) (h : PtBlk 30 w b p) (hk : inI64 p.rb) (hX : Hid ({ p with rb := lessI p.rb } = X)) :
    Calls Tryd.prog 19 #[.pointer (some ⟨b, 52, none⟩)] w fun e w' => e = .returned (.tuple #[]) ∧ Tn 30 b X w w' := by
  have H := Lib.hid h
  have f := h.free 52
  have c := h.c_rb
  by_cases hr : 0 < p.rb
  · have e : ({ p with rb := p.rb - 1 } : Pt) = X := by rw [← hX.out]; unfold lessI; rw [if_pos hr]
    have T := Lib.hid (((Tn.refl H.out).set 52 (.int .i64 (p.rb - 1)) (H.out.s_rb (p.rb - 1))).as e)
    have hv := decide_eq_true hr
    have hk1 := hk.1
    have hk2 := hk.2
    clear h hX e hk
    go_enter Tryd.func19, Tryd.ntmps19
    go_wp2_with fail
    refine (runs10_w p.rb _).mono ?_
    rintro e w1 ⟨rfl, rfl⟩
    rw [hv]
    go_wp2
    go_end0
    exact ⟨rfl, T.out⟩
  · have e : p = X := by rw [← hX.out]; unfold lessI; rw [if_neg hr]
    have hv := decide_eq_false hr
    rw [e] at H
    clear h hX e
    go_enter Tryd.func19, Tryd.ntmps19
    go_wp2_with fail
    refine (runs10_w p.rb _).mono ?_
    rintro e w1 ⟨rfl, rfl⟩
    rw [hv]
    go_wp2
    go_end0
    exact ⟨rfl, Tn.refl H.out⟩
set_option maxHeartbeats 1000000 in
theorem count_tc_w (b : Nat) (p X : Pt) (w : World) (h : PtBlk 30 w b p) (hk : inI64 p.tc) (hX : Hid ({ p with tc := lessI p.tc } = X)) :
    Calls Tryd.prog 19 #[.pointer (some ⟨b, 53, none⟩)] w fun e w' => e = .returned (.tuple #[]) ∧ Tn 30 b X w w' := by
  have H := Lib.hid h
  have f := h.free 53
  have c := h.c_tc
  by_cases hr : 0 < p.tc
  · have e : ({ p with tc := p.tc - 1 } : Pt) = X := by rw [← hX.out]; unfold lessI; rw [if_pos hr]
    have T := Lib.hid (((Tn.refl H.out).set 53 (.int .i64 (p.tc - 1)) (H.out.s_tc (p.tc - 1))).as e)
    have hv := decide_eq_true hr
    have hk1 := hk.1
    have hk2 := hk.2
    clear h hX e hk
    go_enter Tryd.func19, Tryd.ntmps19
    go_wp2_with fail
    refine (runs10_w p.tc _).mono ?_
    rintro e w1 ⟨rfl, rfl⟩
    rw [hv]
    go_wp2
    go_end0
    exact ⟨rfl, T.out⟩
  · have e : p = X := by rw [← hX.out]; unfold lessI; rw [if_neg hr]
    have hv := decide_eq_false hr
    rw [e] at H
    clear h hX e
    go_enter Tryd.func19, Tryd.ntmps19
    go_wp2_with fail
    refine (runs10_w p.tc _).mono ?_
    rintro e w1 ⟨rfl, rfl⟩
    rw [hv]
    go_wp2
    go_end0
    exact ⟨rfl, Tn.refl H.out⟩
set_option maxHeartbeats 1000000 in
theorem count_edge_w (b : Nat) (p X : Pt) (w : World) (h : PtBlk 30 w b p) (hk : inI64 p.edge) (hX : Hid ({ p with edge := lessI p.edge } = X)) :
    Calls Tryd.prog 19 #[.pointer (some ⟨b, 54, none⟩)] w fun e w' => e = .returned (.tuple #[]) ∧ Tn 30 b X w w' := by
  have H := Lib.hid h
  have f := h.free 54
  have c := h.c_edge
  by_cases hr : 0 < p.edge
  · have e : ({ p with edge := p.edge - 1 } : Pt) = X := by rw [← hX.out]; unfold lessI; rw [if_pos hr]
    have T := Lib.hid (((Tn.refl H.out).set 54 (.int .i64 (p.edge - 1)) (H.out.s_edge (p.edge - 1))).as e)
    have hv := decide_eq_true hr
    have hk1 := hk.1
    have hk2 := hk.2
    clear h hX e hk
    go_enter Tryd.func19, Tryd.ntmps19
    go_wp2_with fail
    refine (runs10_w p.edge _).mono ?_
    rintro e w1 ⟨rfl, rfl⟩
    rw [hv]
    go_wp2
    go_end0
    exact ⟨rfl, T.out⟩
  · have e : p = X := by rw [← hX.out]; unfold lessI; rw [if_neg hr]
    have hv := decide_eq_false hr
    rw [e] at H
    clear h hX e
    go_enter Tryd.func19, Tryd.ntmps19
    go_wp2_with fail
    refine (runs10_w p.edge _).mono ?_
    rintro e w1 ⟨rfl, rfl⟩
    rw [hv]
    go_wp2
    go_end0
    exact ⟨rfl, Tn.refl H.out⟩
set_option maxHeartbeats 1000000 in
theorem count_md_w (b : Nat) (p X : Pt) (w : World) (h : PtBlk 30 w b p) (hk : inI64 p.md) (hX : Hid ({ p with md := lessI p.md } = X)) :
    Calls Tryd.prog 19 #[.pointer (some ⟨b, 55, none⟩)] w fun e w' => e = .returned (.tuple #[]) ∧ Tn 30 b X w w' := by
  have H := Lib.hid h
  have f := h.free 55
  have c := h.c_md
  by_cases hr : 0 < p.md
  · have e : ({ p with md := p.md - 1 } : Pt) = X := by rw [← hX.out]; unfold lessI; rw [if_pos hr]
    have T := Lib.hid (((Tn.refl H.out).set 55 (.int .i64 (p.md - 1)) (H.out.s_md (p.md - 1))).as e)
    have hv := decide_eq_true hr
    have hk1 := hk.1
    have hk2 := hk.2
    clear h hX e hk
    go_enter Tryd.func19, Tryd.ntmps19
    go_wp2_with fail
    refine (runs10_w p.md _).mono ?_
    rintro e w1 ⟨rfl, rfl⟩
    rw [hv]
    go_wp2
    go_end0
    exact ⟨rfl, T.out⟩
  · have e : p = X := by rw [← hX.out]; unfold lessI; rw [if_neg hr]
    have hv := decide_eq_false hr
    rw [e] at H
    clear h hX e
    go_enter Tryd.func19, Tryd.ntmps19
    go_wp2_with fail
    refine (runs10_w p.md _).mono ?_
    rintro e w1 ⟨rfl, rfl⟩
    rw [hv]
    go_wp2
    go_end0
    exact ⟨rfl, Tn.refl H.out⟩
set_option maxHeartbeats 1000000 in
theorem count_info_w (b : Nat) (p X : Pt) (w : World) (h : PtBlk 30 w b p) (hk : inI64 p.info) (hX : Hid ({ p with info := lessI p.info } = X)) :
    Calls Tryd.prog 19 #[.pointer (some ⟨b, 56, none⟩)] w fun e w' => e = .returned (.tuple #[]) ∧ Tn 30 b X w w' := by
  have H := Lib.hid h
  have f := h.free 56
  have c := h.c_info
  by_cases hr : 0 < p.info
  · have e : ({ p with info := p.info - 1 } : Pt) = X := by rw [← hX.out]; unfold lessI; rw [if_pos hr]
    have T := Lib.hid (((Tn.refl H.out).set 56 (.int .i64 (p.info - 1)) (H.out.s_info (p.info - 1))).as e)
    have hv := decide_eq_true hr
    have hk1 := hk.1
    have hk2 := hk.2
    clear h hX e hk
    go_enter Tryd.func19, Tryd.ntmps19
    go_wp2_with fail
    refine (runs10_w p.info _).mono ?_
    rintro e w1 ⟨rfl, rfl⟩
    rw [hv]
    go_wp2
    go_end0
    exact ⟨rfl, T.out⟩
  · have e : p = X := by rw [← hX.out]; unfold lessI; rw [if_neg hr]
    have hv := decide_eq_false hr
    rw [e] at H
    clear h hX e
    go_enter Tryd.func19, Tryd.ntmps19
    go_wp2_with fail
    refine (runs10_w p.info _).mono ?_
    rintro e w1 ⟨rfl, rfl⟩
    rw [hv]
    go_wp2
    go_end0
    exact ⟨rfl, Tn.refl H.out⟩
set_option maxHeartbeats 1000000 in
theorem count_hello_w (b : Nat) (p X : Pt) (w : World) (h : PtBlk 30 w b p) (hk : inI64 p.hello) (hX : Hid ({ p with hello := lessI p.hello } = X)) :
    Calls Tryd.prog 19 #[.pointer (some ⟨b, 57, none⟩)] w fun e w' => e = .returned (.tuple #[]) ∧ Tn 30 b X w w' := by
  have H := Lib.hid h
  have f := h.free 57
  have c := h.c_hello
  by_cases hr : 0 < p.hello
  · have e : ({ p with hello := p.hello - 1 } : Pt) = X := by rw [← hX.out]; unfold lessI; rw [if_pos hr]
    have T := Lib.hid (((Tn.refl H.out).set 57 (.int .i64 (p.hello - 1)) (H.out.s_hello (p.hello - 1))).as e)
    have hv := decide_eq_true hr
    have hk1 := hk.1
    have hk2 := hk.2
    clear h hX e hk
    go_enter Tryd.func19, Tryd.ntmps19
    go_wp2_with fail
    refine (runs10_w p.hello _).mono ?_
    rintro e w1 ⟨rfl, rfl⟩
    rw [hv]
    go_wp2
    go_end0
    exact ⟨rfl, T.out⟩
  · have e : p = X := by rw [← hX.out]; unfold lessI; rw [if_neg hr]
    have hv := decide_eq_false hr
    rw [e] at H
    clear h hX e
    go_enter Tryd.func19, Tryd.ntmps19
    go_wp2_with fail
    refine (runs10_w p.hello _).mono ?_
    rintro e w1 ⟨rfl, rfl⟩
    rw [hv]
    go_wp2
    go_end0
    exact ⟨rfl, Tn.refl H.out⟩
set_option maxHeartbeats 1000000 in
theorem count_txCount_w (b : Nat) (p X : Pt) (w : World) (h : PtBlk 30 w b p) (hk : inI64 p.txCount) (hX : Hid ({ p with txCount := lessI p.txCount } = X)) :
    Calls Tryd.prog 19 #[.pointer (some ⟨b, 58, none⟩)] w fun e w' => e = .returned (.tuple #[]) ∧ Tn 30 b X w w' := by
  have H := Lib.hid h
  have f := h.free 58
  have c := h.c_txCount
  by_cases hr : 0 < p.txCount
  · have e : ({ p with txCount := p.txCount - 1 } : Pt) = X := by rw [← hX.out]; unfold lessI; rw [if_pos hr]
    have T := Lib.hid (((Tn.refl H.out).set 58 (.int .i64 (p.txCount - 1)) (H.out.s_txCount (p.txCount - 1))).as e)
    have hv := decide_eq_true hr
    have hk1 := hk.1
    have hk2 := hk.2
    clear h hX e hk
    go_enter Tryd.func19, Tryd.ntmps19
    go_wp2_with fail
    refine (runs10_w p.txCount _).mono ?_
    rintro e w1 ⟨rfl, rfl⟩
    rw [hv]
    go_wp2
    go_end0
    exact ⟨rfl, T.out⟩
  · have e : p = X := by rw [← hX.out]; unfold lessI; rw [if_neg hr]
    have hv := decide_eq_false hr
    rw [e] at H
    clear h hX e
    go_enter Tryd.func19, Tryd.ntmps19
    go_wp2_with fail
    refine (runs10_w p.txCount _).mono ?_
    rintro e w1 ⟨rfl, rfl⟩
    rw [hv]
    go_wp2
    go_end0
    exact ⟨rfl, Tn.refl H.out⟩
end Go.Proofs.YtngdilmgbgdkcaaDoor
