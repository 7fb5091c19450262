/-
  Layer 14: SendTongues.
-/
import Derived.Test.YtngdilmgbgdkcaaDoorSeE
import Derived.Test.YtngdilmgbgdkcaaDoorInY
namespace Go.Proofs.YtngdilmgbgdkcaaDoor
set_option linter.unusedVariables false
set_option linter.unusedSimpArgs false
open Go.RowKit Vm Rm Bm Im

set_option maxRecDepth 20000 in
set_option maxHeartbeats 8000000 in
theorem sendTongues_any (p : Pt) (w : World) (hT : TRoles w) :
    Calls Tryd.prog 4 #[.agg (cellsT p)] w fun e w' => e = .returned (.bool true) ∧ Below w.heap.size w w' := by
  have K0 := Lib.hid (ptblk_new 30 w p)
  have B0 := Lib.hid (below_box w (.cells (cellsT p) 30))
  have HT := Lib.hid (hT.next B0.out)
  have CW := Lib.hid (awake14_any _ HT.out)
  clear hT
  have CT := Lib.hid (fun w' => tongue14_w p w')
  have CE := Lib.hid (fun w' => edge14_w p w')
  have hq := run_ptEq1 p
  have hne := run_ptNe1 p
  obtain ⟨q, hqq⟩ : ∃ q, tongueP p = q := ⟨_, rfl⟩
  have HQ := Lib.hid hqq
  rw [hqq] at CT
  obtain ⟨r, hrr⟩ : ∃ r, edgeP p = r := ⟨_, rfl⟩
  have HRR := Lib.hid hrr
  rw [hrr] at CE
  obtain ⟨mi, hmi⟩ : ∃ m, p.migrate = m := ⟨_, rfl⟩
  have HMI := Lib.hid hmi
  clear hqq hmi hrr
  go_enter Tryd.func4, Tryd.ntmps4
  go_upto_region 3 with (go_at_call 5; (with_reducible refine CW.out.mono ?_); rintro e w1 ⟨rfl, hb1⟩)
  have K1 := Lib.hid (K0.out.next hb1)
  have B1 := Lib.hid (bw_trans B0.out hb1)
  have a1 := K1.out.c_migrate
  rw [HMI.out] at a1
  clear hb1 K0 B0 CW
  by_cases hlo : mi < 0
  · have hfp : q = p := by rw [← HQ.out]; exact tongue_far (.inl (by rw [HMI.out]; exact hlo))
    go_upto_region 4 with (fail)
    refine wp_region_held_drew (S := fun V => PtBlk 30 V w.heap.size p) (by kernel_rfl) (show PtBlk 30 w1.drew w.heap.size p from K1.out) (fun hHeld => ?_)
    try simp only [Act.put]
    refine wpAnyH_take (i := 0) (v := .agg (cellsT p)) rfl (by kernel_rfl) (by kernel_rfl) (by kernel_rfl) (fun _ _ _ h => h) (yieldsIf_run (by rfl) 30 _ rfl ⟨w.heap.size, 0, none⟩ rfl _ (fun V h => loadAt_row h rfl rfl (by kernel_rfl))) hHeld ?_
    try simp only [Act.put, List.getElem_toArray, List.getElem_cons_succ, List.getElem_cons_zero, List.setIfInBounds_toArray, List.set_cons_zero, List.set_cons_succ]
    refine wpAnyH_take (i := 2) (v := .agg (cellsT p)) rfl (by kernel_rfl) (by kernel_rfl) (by kernel_rfl) (fun _ _ _ h => h) (yieldsIf_run (by rfl) 30 _ rfl ⟨w.heap.size, 0, none⟩ rfl _ (fun V h => loadAt_row h rfl rfl (by kernel_rfl))) hHeld ?_
    try simp only [Act.put, List.getElem_toArray, List.getElem_cons_succ, List.getElem_cons_zero, List.setIfInBounds_toArray, List.set_cons_zero, List.set_cons_succ]
    refine wpAnyH_ready (rs := [1]) (by kernel_rfl) (by simp) ?_
    refine AllReadyH.cons rfl (fun K hK => ?_) AllReadyH.nil
    go_simp
    (with_reducible refine (CT.out _).mono ?_)
    rintro e z1 ⟨rfl, hz1⟩
    have BZ := Lib.hid (bw_trans B1.out.drew hz1)
    have KZ := Lib.hid ((show PtBlk 30 w1.drew w.heap.size p from K1.out).next hz1)
    clear hHeld hz1
    rw [hfp]
    go_simp
    refine hK.out _ _ KZ.out (fun hHeld => ?_)
    clear hK
    try simp only [Act.put, List.getElem_toArray, List.getElem_cons_succ, List.getElem_cons_zero, List.setIfInBounds_toArray, List.set_cons_zero, List.set_cons_succ]
    refine wpAnyH_take (i := 3) (v := .bool true) rfl (by kernel_rfl) (by kernel_rfl) (by kernel_rfl) (fun _ _ _ h => h) (Or.inl ⟨by rfl, fun V h => by have h1 := hq V; go_simp⟩) hHeld ?_
    try simp only [Act.put, List.getElem_toArray, List.getElem_cons_succ, List.getElem_cons_zero, List.setIfInBounds_toArray, List.set_cons_zero, List.set_cons_succ]
    refine wpAnyH_take (i := 4) (v := .bool true) rfl (by kernel_rfl) (by kernel_rfl) (by kernel_rfl) (fun _ _ _ h => h) (Or.inl ⟨by rfl, fun V h => by go_simp⟩) hHeld ?_
    try simp only [Act.put, List.getElem_toArray, List.getElem_cons_succ, List.getElem_cons_zero, List.setIfInBounds_toArray, List.set_cons_zero, List.set_cons_succ]
    refine wpAnyH_done (by kernel_rfl) ?_ _
    clear hHeld
    go_wp2_with fail
    go_ret
    exact ⟨rfl, BZ.out⟩
  by_cases hhi : mi > 2
  · have hfp : q = p := by rw [← HQ.out]; exact tongue_far (.inr (by rw [HMI.out]; exact hhi))
    go_upto_region 4 with (fail)
    refine wp_region_held_drew (S := fun V => PtBlk 30 V w.heap.size p) (by kernel_rfl) (show PtBlk 30 w1.drew w.heap.size p from K1.out) (fun hHeld => ?_)
    try simp only [Act.put]
    refine wpAnyH_take (i := 0) (v := .agg (cellsT p)) rfl (by kernel_rfl) (by kernel_rfl) (by kernel_rfl) (fun _ _ _ h => h) (yieldsIf_run (by rfl) 30 _ rfl ⟨w.heap.size, 0, none⟩ rfl _ (fun V h => loadAt_row h rfl rfl (by kernel_rfl))) hHeld ?_
    try simp only [Act.put, List.getElem_toArray, List.getElem_cons_succ, List.getElem_cons_zero, List.setIfInBounds_toArray, List.set_cons_zero, List.set_cons_succ]
    refine wpAnyH_take (i := 2) (v := .agg (cellsT p)) rfl (by kernel_rfl) (by kernel_rfl) (by kernel_rfl) (fun _ _ _ h => h) (yieldsIf_run (by rfl) 30 _ rfl ⟨w.heap.size, 0, none⟩ rfl _ (fun V h => loadAt_row h rfl rfl (by kernel_rfl))) hHeld ?_
    try simp only [Act.put, List.getElem_toArray, List.getElem_cons_succ, List.getElem_cons_zero, List.setIfInBounds_toArray, List.set_cons_zero, List.set_cons_succ]
    refine wpAnyH_ready (rs := [1]) (by kernel_rfl) (by simp) ?_
    refine AllReadyH.cons rfl (fun K hK => ?_) AllReadyH.nil
    go_simp
    (with_reducible refine (CT.out _).mono ?_)
    rintro e z1 ⟨rfl, hz1⟩
    have BZ := Lib.hid (bw_trans B1.out.drew hz1)
    have KZ := Lib.hid ((show PtBlk 30 w1.drew w.heap.size p from K1.out).next hz1)
    clear hHeld hz1
    rw [hfp]
    go_simp
    refine hK.out _ _ KZ.out (fun hHeld => ?_)
    clear hK
    try simp only [Act.put, List.getElem_toArray, List.getElem_cons_succ, List.getElem_cons_zero, List.setIfInBounds_toArray, List.set_cons_zero, List.set_cons_succ]
    refine wpAnyH_take (i := 3) (v := .bool true) rfl (by kernel_rfl) (by kernel_rfl) (by kernel_rfl) (fun _ _ _ h => h) (Or.inl ⟨by rfl, fun V h => by have h1 := hq V; go_simp⟩) hHeld ?_
    try simp only [Act.put, List.getElem_toArray, List.getElem_cons_succ, List.getElem_cons_zero, List.setIfInBounds_toArray, List.set_cons_zero, List.set_cons_succ]
    refine wpAnyH_take (i := 4) (v := .bool true) rfl (by kernel_rfl) (by kernel_rfl) (by kernel_rfl) (fun _ _ _ h => h) (Or.inl ⟨by rfl, fun V h => by go_simp⟩) hHeld ?_
    try simp only [Act.put, List.getElem_toArray, List.getElem_cons_succ, List.getElem_cons_zero, List.setIfInBounds_toArray, List.set_cons_zero, List.set_cons_succ]
    refine wpAnyH_done (by kernel_rfl) ?_ _
    clear hHeld
    go_wp2_with fail
    go_ret
    exact ⟨rfl, BZ.out⟩
  go_upto_region 5 with (fail)
  clear a1
  go_upto_region 6 with (first
    | (with_reducible refine wpList_pt rfl _ rfl w.heap.size rfl p K1.out ?_)
    | (go_at_call 11; (with_reducible refine (CT.out _).mono ?_); rintro e w2 ⟨rfl, hb2⟩)
    | (refine wpList_ptst rfl _ _ rfl w2.heap.size rfl q zeroP rfl (ptblk_new _ w2 zeroP) ?_))
  obtain ⟨V, qb, HV, Hq, k5, B5, hs5⟩ := fillS_is w2 q
  refine wp_to (W := V) (by exact HV.out.symm) ?_
  rw [Hq.out]
  have B6 : Below w2.heap.size w2 V := by rw [Hq.out]; exact B5
  have K2 := Lib.hid ((K1.out.next hb2).next B6)
  have B2 := Lib.hid (bw_trans (bw_trans B1.out hb2) B6)
  have KQ := Lib.hid k5
  clear k5 B5 B6 hs5 HV Hq hb2 K1 B1 CT
  obtain ⟨on, hon⟩ : ∃ b, p.on = b := ⟨_, rfl⟩
  obtain ⟨ck, hck⟩ : ∃ b, p.check = b := ⟨_, rfl⟩
  obtain ⟨sr, hsr⟩ : ∃ b, p.sendRstp = b := ⟨_, rfl⟩
  obtain ⟨hs, hhs⟩ : ∃ b, p.heardStp = b := ⟨_, rfl⟩
  obtain ⟨hr, hhr⟩ : ∃ b, p.heardRstp = b := ⟨_, rfl⟩
  have a1 := K2.out.c_migrate
  have a2 := K2.out.c_on
  have a3 := K2.out.c_check
  have a4 := K2.out.c_sendRstp
  have a5 := K2.out.c_heardStp
  have a6 := K2.out.c_heardRstp
  rw [HMI.out] at a1
  rw [hon] at a2
  rw [hck] at a3
  rw [hsr] at a4
  rw [hhs] at a5
  rw [hhr] at a6
  have b1 := KQ.out.c_migrate
  have b3 := KQ.out.c_check
  have b4 := KQ.out.c_sendRstp
  have b7 := KQ.out.c_md
  simp only [Act.put]
  go_cut [32] (fun u wx => u = .bool (decide (mi = 2) && (on && !ck)) ∧ wx = V)
  case first =>
    by_cases h2 : mi = 2
    · subst h2
      cases on <;> cases ck
      all_goals go_wp2_with fail
      all_goals go_meet
      all_goals exact ⟨rfl, rfl⟩
    · have d : (mi == 2) = false := by simp [h2]
      go_wp2_with fail
      go_meet
      exact ⟨by simp [h2], rfl⟩
  case rest =>
  obtain ⟨rfl, e⟩ := hcut
  rw [e]
  clear e
  obtain ⟨DD, hD⟩ : ∃ D, (decide (mi = 2) && (on && !ck)) = D := ⟨_, rfl⟩
  rw [hD]
  go_upto_if 32 with (fail)
  go_cut [] (fun wx => wx = V)
  case first =>
    cases DD with
    | false =>
      go_wp2_with fail
      go_meet
      rfl
    | true =>
      have h3 : mi = 2 ∧ on = true ∧ ck = false := by simpa using hD
      have hm2 : p.migrate = 2 := HMI.out.trans h3.1
      have hon' : p.on = true := hon.trans h3.2.1
      have hck' : p.check = false := hck.trans h3.2.2
      clear hD
      cases sr with
      | false =>
        cases hr with
        | false =>
          go_wp2_with fail
          go_meet
          rfl
        | true =>
          have e1 : q = checksP p := by rw [← HQ.out]; exact tongue_new hm2 hsr hhr
          rw [e1] at b1 b4
          unfold checksP at b1 b4
          go_wp2_with fail
          go_meet
          rfl
      | true =>
        cases hs with
        | false =>
          go_wp2_with fail
          go_meet
          rfl
        | true =>
          have e1 : q = oldP p := by rw [← HQ.out]; exact tongue_old hm2 hon' hck' hsr hhs
          rw [e1] at b1 b4
          unfold oldP at b1 b4
          go_wp2_with fail
          go_meet
          rfl
  case rest =>
  rw [hcut]
  clear hcut a4 a5 a6 hD
  go_upto_region 9 with (fail)
  go_cut [92] (fun u wx => u = .bool false ∧ wx = V)
  case first =>
    by_cases h2 : mi = 2
    · have hm2 : p.migrate = 2 := HMI.out.trans h2
      subst h2
      by_cases hoc : p.check = true ∨ p.on = false
      · have e1 : q = checksP p := by rw [← HQ.out]; exact tongue_told hm2 hoc
        rw [e1] at b3 b4 b7
        unfold checksP at b3 b4 b7
        rw [hon, hck] at hoc
        cases ck <;> cases on
        all_goals first
          | (exfalso; revert hoc; decide)
          | (go_wp2_with fail; go_meet; exact ⟨rfl, rfl⟩)
      · rw [hon, hck] at hoc
        cases ck <;> cases on
        all_goals first
          | (exfalso; revert hoc; decide)
          | (go_wp2_with fail; go_meet; exact ⟨rfl, rfl⟩)
    · have d : (mi == 2) = false := by simp [h2]
      go_wp2_with fail
      go_meet
      exact ⟨rfl, rfl⟩
  case rest =>
  obtain ⟨rfl, e⟩ := hcut
  rw [e]
  clear e a1 a3 b1 b3 b4 b7
  go_upto_region 12 with (first
    | (with_reducible refine wpList_pt rfl _ rfl w.heap.size rfl p K2.out ?_)
    | (go_at_call 12; (with_reducible refine (CE.out _).mono ?_); rintro e w3 ⟨rfl, hb3⟩)
    | (refine wpList_ptst rfl _ _ rfl w3.heap.size rfl r zeroP rfl (ptblk_new _ w3 zeroP) ?_))
  obtain ⟨V3, rb, HV3, Hr3, k6, B7, hs7⟩ := fillS_is w3 r
  refine wp_to (W := V3) (by exact HV3.out.symm) ?_
  rw [Hr3.out]
  have B8 : Below w3.heap.size w3 V3 := by rw [Hr3.out]; exact B7
  have K3 := Lib.hid ((K2.out.next hb3).next B8)
  have KQ3 := Lib.hid ((KQ.out.next hb3).next B8)
  have B3 := Lib.hid (bw_trans (bw_trans B2.out hb3) B8)
  have hwr : w.heap.size ≤ rb := by
    have h1 := B2.out.size
    have h2 := hb3.size
    have h3 := Hr3.out
    omega
  have KR := Lib.hid k6
  have hrq : qb ≠ rb := by
    have h1 := KQ.out.lt
    have h2 := hb3.size
    have h3 := Hr3.out
    omega
  have hrp : w.heap.size ≠ rb := by
    have h1 := K2.out.lt
    have h2 := hb3.size
    have h3 := Hr3.out
    omega
  clear k6 B7 B8 hs7 HV3 Hr3 hb3 K2 KQ B2 CE a2
  obtain ⟨op, hop⟩ : ∃ b, p.oper = b := ⟨_, rfl⟩
  obtain ⟨ro, hro⟩ : ∃ b, r.oper = b := ⟨_, rfl⟩
  have HOP := Lib.hid hop
  have a1 := K3.out.c_oper
  have a2 := K3.out.c_on
  have a3 := K3.out.c_proposing
  have a4 := K3.out.c_edge
  have b1 := KR.out.c_oper
  rw [hop] at a1
  rw [hro] at b1
  simp only [Act.put]
  go_cut [125] (fun u wx => u = .bool false ∧ wx = V3)
  case first =>
    cases op with
    | true =>
      have er : r = p := by rw [← HRR.out]; exact edge_oper hop
      have ero : ro = true := by rw [← hro, er]; exact hop
      have KRp : PtBlk 30 V3 rb p := by rw [← er]; exact KR.out
      have KPp : PtBlk 30 V3 w.heap.size p := K3.out
      rw [ero] at b1
      clear a2 a3 a4 er ero hro KR KQ3 K3
      clear hne hq
      go_wp2_with (first
        | (refine wpList_ptg (by kernel_rfl) (.tmp 4) rfl rb rfl p KRp ?_; simp only [Act.put, List.setIfInBounds_toArray, List.set_cons_zero, List.set_cons_succ]; refine wpList_ptg (by kernel_rfl) (.tmp 1) rfl w.heap.size rfl p KPp ?_; simp only [Act.put, List.setIfInBounds_toArray, List.set_cons_zero, List.set_cons_succ]; refine wpList_neqg (by kernel_rfl) (.tmp 98) (.tmp 99) rfl p rfl rfl ?_; simp only [Act.put, List.setIfInBounds_toArray, List.set_cons_zero, List.set_cons_succ]; clear KRp KPp; go_wp2_with fail; go_meet; exact ⟨rfl, rfl⟩))
    | false =>
      cases ro with
      | false =>
        go_wp2_with fail
        go_meet
        exact ⟨rfl, rfl⟩
      | true =>
        obtain ⟨e1, e2, e3⟩ := edge_when (p := p) (by rw [HRR.out]; exact hro) hop
        rw [e1] at a2
        rw [e2] at a3
        rw [e3] at a4
        go_wp2_with fail
        go_meet
        exact ⟨rfl, rfl⟩
  case rest =>
  obtain ⟨rfl, e⟩ := hcut
  rw [e]
  clear e a2 a3 a4 b1
  have f4 := KR.out.free 4
  have b1 := KR.out.c_oper
  obtain ⟨V4, hV4⟩ : ∃ V', V3.setCell ⟨rb, 4, none⟩ (.bool op) = V' := ⟨_, rfl⟩
  have KR4 := Lib.hid (show PtBlk 30 V4 rb p by
    rw [← hV4]
    have h := KR.out.s_oper op
    have e2 := edge_back p
    rw [HRR.out, hop] at e2
    rwa [e2] at h)
  have K4 := Lib.hid (show PtBlk 30 V4 w.heap.size p by rw [← hV4]; exact K3.out.far 4 _ hrp)
  have KQ4 := Lib.hid (show PtBlk 30 V4 qb q by rw [← hV4]; exact KQ3.out.far 4 _ hrq)
  have B4 := Lib.hid (show Below w.heap.size w V4 by rw [← hV4]; exact B3.out.setCell (p := ⟨rb, 4, none⟩) hwr _)
  have HV4 := Lib.hid hV4
  clear hV4 KR KQ3 B3
  go_upto_region 15 with (fail)
  refine wp_to (W := V4) (by exact HV4.out.symm) ?_
  have hk := tongue_keeps p
  rw [HQ.out] at hk
  have c1 := K4.out.c_role
  have c2 := K4.out.c_learn
  have c3 := K4.out.c_on
  obtain ⟨v0, v1, v2, v3, _, _, _, _⟩ := K4.out.rds.1
  have d1 := KQ4.out.c_role
  have d2 := KQ4.out.c_learn
  have d3 := KQ4.out.c_on
  obtain ⟨u0, u1, u2, u3, _, _, _, _⟩ := KQ4.out.rds.1
  rw [hk.role] at d1
  rw [hk.learn] at d2
  rw [hk.on] at d3
  rw [hk.vec] at u0 u1 u2 u3
  have hV := fun w => (run_vcEq p.vec.root p.vec.cost p.vec.bridge p.vec.port p.vec.root p.vec.cost p.vec.bridge p.vec.port w)
  clear K3 a1 f4 b1 hk hne
  go_wp2_with (first
    | (with_reducible refine wpList_pt rfl _ rfl rb rfl p KR4.out ?_)
    | (with_reducible refine wpList_pt rfl _ rfl w.heap.size rfl p K4.out ?_))
  go_ret
  exact ⟨by simp, B4.out⟩
end Go.Proofs.YtngdilmgbgdkcaaDoor
