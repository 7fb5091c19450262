/-
  Layer 11: the document's Hear: off, bad, and what isn't recorded.
-/
import Derived.Test.YtbiggckddoeghaaInDf
namespace Go.Proofs.Ytbiggckddoeghaa
set_option linter.unusedVariables false
set_option linter.unusedSimpArgs false
open Go.RowKit Vm Rm Bm Im

set_option maxRecDepth 20000 in
set_option maxHeartbeats 4000000 in
theorem rhear_off_w (p : Pt) (q : Bp) (w : World) (h : p.on = false) :
    Calls Try.prog 11 #[.agg (cellsT p), bq q] w fun e w' => e = .returned (.agg (cellsT p)) ∧ Below w.heap.size w w' := by
  obtain ⟨W, nb, HW, HN, k0, k1, k2, kB⟩ := pbz_is 34 40 34 w p q
  have K0 := Lib.hid k0
  have KQ := Lib.hid k1
  have K1 := Lib.hid k2
  have KB := Lib.hid kB
  have hsz := k2.lt
  have c_on := k0.c_on
  rw [h] at c_on
  clear k0 k1 k2 kB h
  unfold bq bv
  go_enter Try.func11, Try.ntmps11
  go_upto_region 1 with (fail)
  refine wp_to (W := W) (by exact HW.out.symm) ?_
  rw [HN.out]
  go_upto_region 2 with (fail)
  refine wp_region_list ?_
  refine wpList_load_row rfl 34 _ rfl nb rfl 34 (cellsT p) (0, 0) _ K0.out rfl rfl infoRP ?_
  refine wpList_store_row rfl 34 _ _ rfl (nb + 2) (cellsT p) rfl rfl 34 _ K1.out infoRP rfl (cellsT_one p) ?_
  have K5 := Lib.hid ((K1.out).row p)
  have K6 := Lib.hid (below_row KB.out (g := nb + 2) (by omega) (cellsT p))
  go_wp2
  exact bodyPost_ret (v := .agg (cellsT p)) (results_cell_row rfl _ _ (nb + 2) 34 (cellsT p) (0, 0) _ rfl K5.out rfl rfl infoRP) rfl ⟨rfl, HN.out ▸ K6.out⟩

set_option maxRecDepth 20000 in
set_option maxHeartbeats 4000000 in
theorem rhear_bad_w (p : Pt) (q : Bp) (w : World) (h : p.on = true) (hq : heardB q = false) :
    Calls Try.prog 11 #[.agg (cellsT p), bq q] w fun e w' => e = .returned (.agg (cellsT p)) ∧ Below w.heap.size w w' := by
  obtain ⟨W, nb, HW, HN, k0, k1, k2, kB⟩ := pbz_is 34 40 34 w p q
  have K0 := Lib.hid k0
  have KQ := Lib.hid k1
  have K1 := Lib.hid k2
  have KB := Lib.hid kB
  have hsz := k2.lt
  have c_on := k0.c_on
  rw [h] at c_on
  obtain ⟨RB, hRB⟩ : ∃ RB, rightB q = RB := ⟨_, rfl⟩
  have CR := Lib.hid (fun w' => by
    have h := rright_any q.kind q.flags q.root q.cost q.bridge q.port q.age q.max q.hello q.delay w'
    rw [show rightB ⟨q.kind, q.flags, q.root, q.cost, q.bridge, q.port, q.age, q.max, q.hello, q.delay⟩ = RB from hRB] at h
    exact h)
  obtain ⟨d0, d1, d2, d3, d4, d5, d6, d7, d8, d9⟩ := k1.rd
  unfold heardB at hq
  rw [hRB] at hq
  clear k0 k1 k2 kB h hRB
  unfold bq
  unfold bv at CR ⊢
  go_enter Try.func11, Try.ntmps11
  go_upto_region 1 with (fail)
  refine wp_to (W := W) (by exact HW.out.symm) ?_
  rw [HN.out]
  go_wp2_with fail
  (with_reducible refine (CR.out _).mono ?_)
  rintro e w1 ⟨rfl, hb1⟩
  have D1 := Lib.hid (KB.out.trans (hb1.mono (by omega)))
  have L0 := Lib.hid (K0.out.next hb1)
  have L1 := Lib.hid (K1.out.next hb1)
  have LQ := Lib.hid (KQ.out.next hb1)
  have hsz1 := hb1.size
  clear hb1 c_on d0 d1 d2 d3 d4 d5 d6 d7 d8 d9
  obtain ⟨d0, d1, d2, d3, d4, d5, d6, d7, d8, d9⟩ := LQ.out.rd
  cases RB
  · clear hq
    go_upto_region 2 with (fail)
    refine wp_region_list ?_
    refine wpList_load_row rfl 34 _ rfl nb rfl 34 (cellsT p) (0, 0) _ L0.out rfl rfl infoRP ?_
    refine wpList_store_row rfl 34 _ _ rfl (nb + 2) (cellsT p) rfl rfl 34 _ L1.out infoRP rfl (cellsT_one p) ?_
    have K5 := Lib.hid ((L1.out).row p)
    have K6 := Lib.hid (below_row D1.out (g := nb + 2) (by omega) (cellsT p))
    go_wp2
    exact bodyPost_ret (v := .agg (cellsT p)) (results_cell_row rfl _ _ (nb + 2) 34 (cellsT p) (0, 0) _ rfl K5.out rfl rfl infoRP) rfl ⟨rfl, HN.out ▸ K6.out⟩

  · have z : (q.kind == 2) = true := by
      rw [Bool.true_and] at hq
      simp only [Bool.not_eq_false', decide_eq_true_eq] at hq
      exact beq_iff_eq.2 hq
    clear hq
    go_upto_region 2 with (fail)
    refine wp_region_list ?_
    refine wpList_load_row rfl 34 _ rfl nb rfl 34 (cellsT p) (0, 0) _ L0.out rfl rfl infoRP ?_
    refine wpList_store_row rfl 34 _ _ rfl (nb + 2) (cellsT p) rfl rfl 34 _ L1.out infoRP rfl (cellsT_one p) ?_
    have K5 := Lib.hid ((L1.out).row p)
    have K6 := Lib.hid (below_row D1.out (g := nb + 2) (by omega) (cellsT p))
    go_wp2
    exact bodyPost_ret (v := .agg (cellsT p)) (results_cell_row rfl _ _ (nb + 2) 34 (cellsT p) (0, 0) _ rfl K5.out rfl rfl infoRP) rfl ⟨rfl, HN.out ▸ K6.out⟩

set_option maxRecDepth 20000 in
set_option maxHeartbeats 4000000 in
theorem rhear_yes0_w (p X : Pt) (q : Bp) (w : World) (h : p.on = true) (hq : heardB q = true) (ho : p.vec.ok) (hqo : BpOk q) (hk : Hid (heardP p q = 0)) (hX : Hid (answerP 0 (firstP p q) q = X)) (h3 : Hid (0 = 4 → q.kind = 3)) :
    Calls Try.prog 11 #[.agg (cellsT p), bq q] w fun e w' => e = .returned (.agg (cellsT X)) ∧ Below w.heap.size w w' := by
  obtain ⟨W, nb, HW, HN, k0, k1, k2, kB⟩ := pbz_is 34 40 34 w p q
  have K0 := Lib.hid k0
  have KQ := Lib.hid k1
  have K1 := Lib.hid k2
  have KB := Lib.hid kB
  have hsz := k2.lt
  have c_on := k0.c_on
  rw [h] at c_on
  obtain ⟨RB, hRB⟩ : ∃ RB, rightB q = RB := ⟨_, rfl⟩
  have CR := Lib.hid (fun w' => by
    have h := rright_any q.kind q.flags q.root q.cost q.bridge q.port q.age q.max q.hello q.delay w'
    rw [show rightB ⟨q.kind, q.flags, q.root, q.cost, q.bridge, q.port, q.age, q.max, q.hello, q.delay⟩ = RB from hRB] at h
    exact h)
  obtain ⟨d0, d1, d2, d3, d4, d5, d6, d7, d8, d9⟩ := k1.rd
  have hr : rightB q = true := by unfold heardB at hq; simp only [Bool.and_eq_true] at hq; exact hq.1
  obtain rfl : RB = true := by rw [← hRB]; exact hr
  have z2 : (q.kind == 2) = false := by
    unfold heardB at hq
    simp only [Bool.and_eq_true, Bool.not_eq_true', decide_eq_false_iff_not] at hq
    exact beq_eq_false_iff_ne.2 hq.2
  have hd := heard_hd hq
  have CH := Lib.hid (fun w' => rheard_w p q 0 w' hk hq ho hqo)
  obtain ⟨H, hH⟩ : ∃ H, (if q.hello / 256 < 1 then 1 else q.hello / 256) = H := ⟨_, rfl⟩
  have CT := Lib.hid (fun w' => rtimes_w q.kind q.flags q.root q.cost q.bridge q.port q.age q.max q.hello q.delay H w' hd.age hd.max hd.hello hd.delay (Lib.hid hH))
  obtain ⟨rp, hrp⟩ : ∃ b, (q.kind == 3) = b := ⟨_, rfl⟩
  have HRP := Lib.hid hrp
  have HH := Lib.hid hH
  have HD := Lib.hid hd
  unfold bq bv at CH
  unfold bv at CT
  unfold tv at CT
  clear k0 k1 k2 kB h hRB hr hq hd ho hqo hrp hH hk
  unfold bq
  unfold bv at CR ⊢
  go_enter Try.func11, Try.ntmps11
  go_upto_region 1 with (fail)
  refine wp_to (W := W) (by exact HW.out.symm) ?_
  rw [HN.out]
  go_wp2_with fail
  (with_reducible refine (CR.out _).mono ?_)
  rintro e w1 ⟨rfl, hb1⟩
  have D1 := Lib.hid (KB.out.trans (hb1.mono (by omega)))
  have L0 := Lib.hid (K0.out.next hb1)
  have L1 := Lib.hid (K1.out.next hb1)
  have LQ := Lib.hid (KQ.out.next hb1)
  have hsz1 := hb1.size
  clear hb1 c_on d0 d1 d2 d3 d4 d5 d6 d7 d8 d9
  obtain ⟨d0, d1, d2, d3, d4, d5, d6, d7, d8, d9⟩ := LQ.out.rd
  go_upto_region 3 with (fail)
  refine wp_region_list ?_
  refine wpList_load_row rfl 34 _ rfl nb rfl 34 (cellsT p) (0, 0) _ L0.out rfl rfl infoRP ?_
  go_wp2_with fail
  (with_reducible refine (CH.out _).mono ?_)
  rintro e w2 ⟨rfl, hb2⟩
  have D2 := Lib.hid (D1.out.trans (hb2.mono (by omega)))
  have M0 := Lib.hid (L0.out.next hb2)
  have M1 := Lib.hid (L1.out.next hb2)
  have MQ := Lib.hid (LQ.out.next hb2)
  have hsz2 := hb2.size
  clear hb2 d0 d1 d2 d3 d4 d5 d6 d7 d8 d9 L0 L1 LQ D1 K0 K1 KQ KB CR CH
  obtain ⟨d0, d1, d2, d3, d4, d5, d6, d7, d8, d9⟩ := MQ.out.rd
  have f := M0.out.free
  have g1 := M0.out.c_heardRstp
  have g2 := M0.out.c_heardStp
  have g3 := M0.out.c_oper
  have G0 : HS0 w nb q p w2 := ⟨M0.out, MQ.out, M1.out, D2.out⟩
  clear M0 MQ M1 D2
  go_upto_if 28 with (fail)
  simp only [HRP.out]
  go_cut [] (fun wx => HS0 w nb q { p with heardRstp := p.heardRstp || rp } wx)
  case first =>
    cases rp
    · go_wp2_with fail
      go_meet
      exact G0.as (by simp)
    · go_wp2_with fail
      go_meet
      exact (G0.set _ _ fun h => h.s_heardRstp _).as (by simp)
  case rest =>
    have G1 := Lib.hid hcut
    clear hcut G0 f g1 g2 g3 d0 d1 d2 d3 d4 d5 d6 d7 d8 d9
    have f := G1.out.pt.free
    have g2 := G1.out.pt.c_heardStp
    go_upto_if 31 with (fail)
    go_cut [] (fun wx => HS0 w nb q { p with heardRstp := p.heardRstp || rp, heardStp := p.heardStp || !rp } wx)
    case first =>
      cases rp
      · go_wp2_with fail
        go_meet
        exact (G1.out.set _ _ fun h => h.s_heardStp _).as (by simp)
      · go_wp2_with fail
        go_meet
        exact G1.out.as (by simp)
    case rest =>
      have G2 := Lib.hid hcut
      clear hcut G1 f g2
      have f := G2.out.pt.free
      have g3 := G2.out.pt.c_oper
      go_upto_region 10 with (fail)
      have G3 := Lib.hid (G2.out.set 4 (.bool false) fun h => h.s_oper false)
      clear G2 f g3
      obtain ⟨d0, d1, d2, d3, d4, d5, d6, d7, d8, d9⟩ := G3.out.bp.rd
      go_wp2_with fail
      (with_reducible refine (CT.out _).mono ?_)
      rintro e w3 ⟨rfl, hb3⟩
      have G4 := Lib.hid (G3.out.next hb3)
      clear hb3 d0 d1 d2 d3 d4 d5 d6 d7 d8 d9 CT G3
      have HF := Lib.hid (show ({ p with heardRstp := p.heardRstp || rp, heardStp := p.heardStp || !rp, oper := false } : Pt) = firstP p q by rw [← HRP.out]; unfold firstP; rw [show (q.kind == 3) = decide (q.kind = 3) from rfl])
      obtain ⟨tb, htb⟩ : ∃ n, w3.heap.size = n := ⟨_, rfl⟩
      obtain ⟨F, hF⟩ : ∃ F, firstP p q = F := ⟨_, rfl⟩
      rw [hF] at hX
      have g4 := G4.out.as (HF.out.trans hF)
      have t4 := tbk_new 32 w3 (q.age / 256) (q.max / 256) H (q.delay / 256)
      rw [htb] at t4
      have b4 := below_box w3 (.cells #[.int .i64 (q.age / 256), .int .i64 (q.max / 256), .int .i64 H, .int .i64 (q.delay / 256)] 32)
      have G5 := Lib.hid (show HSt w nb tb q ⟨q.age / 256, q.max / 256, H, q.delay / 256⟩ F _ from ⟨(g4.next b4).pt, (g4.next b4).bp, (g4.next b4).rs, t4, (g4.next b4).lo, by have := g4.rs.lt; omega⟩)
      have HTB := Lib.hid htb
      clear G4 hF HF g4 t4 b4
      have eX : F = X := (Eq.trans hX.out.symm (by
        rfl)).symm
      subst eX
      have f := G5.out.pt.free
      obtain ⟨d0, d1, d2, d3, d4, d5, d6, d7, d8, d9⟩ := G5.out.bp.rd
      obtain ⟨m0, m1, m2, m3⟩ := G5.out.tm.cells
      go_upto_region 42 with (fail)
      refine wp_region_list ?_
      refine wpList_load_row rfl 34 _ rfl nb rfl 34 (cellsT F) (0, 0) _ G5.out.pt rfl rfl infoRP ?_
      refine wpList_store_row rfl 34 _ _ rfl (nb + 2) (cellsT F) rfl rfl 34 _ G5.out.rs infoRP rfl (cellsT_one F) ?_
      have K5 := Lib.hid ((G5.out.rs).row F)
      have K6 := Lib.hid (below_row G5.out.lo (g := nb + 2) (by omega) (cellsT F))
      go_wp2
      exact bodyPost_ret (v := .agg (cellsT F)) (results_cell_row rfl _ _ (nb + 2) 34 (cellsT F) (0, 0) _ rfl K5.out rfl rfl infoRP) rfl ⟨rfl, HN.out ▸ K6.out⟩

set_option maxRecDepth 20000 in
set_option maxHeartbeats 4000000 in
theorem rhear_yes3_w (p X : Pt) (q : Bp) (w : World) (h : p.on = true) (hq : heardB q = true) (ho : p.vec.ok) (hqo : BpOk q) (hk : Hid (heardP p q = 3)) (hX : Hid (answerP 3 (firstP p q) q = X)) (h3 : Hid (3 = 4 → q.kind = 3)) :
    Calls Try.prog 11 #[.agg (cellsT p), bq q] w fun e w' => e = .returned (.agg (cellsT X)) ∧ Below w.heap.size w w' := by
  obtain ⟨W, nb, HW, HN, k0, k1, k2, kB⟩ := pbz_is 34 40 34 w p q
  have K0 := Lib.hid k0
  have KQ := Lib.hid k1
  have K1 := Lib.hid k2
  have KB := Lib.hid kB
  have hsz := k2.lt
  have c_on := k0.c_on
  rw [h] at c_on
  obtain ⟨RB, hRB⟩ : ∃ RB, rightB q = RB := ⟨_, rfl⟩
  have CR := Lib.hid (fun w' => by
    have h := rright_any q.kind q.flags q.root q.cost q.bridge q.port q.age q.max q.hello q.delay w'
    rw [show rightB ⟨q.kind, q.flags, q.root, q.cost, q.bridge, q.port, q.age, q.max, q.hello, q.delay⟩ = RB from hRB] at h
    exact h)
  obtain ⟨d0, d1, d2, d3, d4, d5, d6, d7, d8, d9⟩ := k1.rd
  have hr : rightB q = true := by unfold heardB at hq; simp only [Bool.and_eq_true] at hq; exact hq.1
  obtain rfl : RB = true := by rw [← hRB]; exact hr
  have z2 : (q.kind == 2) = false := by
    unfold heardB at hq
    simp only [Bool.and_eq_true, Bool.not_eq_true', decide_eq_false_iff_not] at hq
    exact beq_eq_false_iff_ne.2 hq.2
  have hd := heard_hd hq
  have CH := Lib.hid (fun w' => rheard_w p q 3 w' hk hq ho hqo)
  obtain ⟨H, hH⟩ : ∃ H, (if q.hello / 256 < 1 then 1 else q.hello / 256) = H := ⟨_, rfl⟩
  have CT := Lib.hid (fun w' => rtimes_w q.kind q.flags q.root q.cost q.bridge q.port q.age q.max q.hello q.delay H w' hd.age hd.max hd.hello hd.delay (Lib.hid hH))
  obtain ⟨rp, hrp⟩ : ∃ b, (q.kind == 3) = b := ⟨_, rfl⟩
  have HRP := Lib.hid hrp
  have HH := Lib.hid hH
  have HD := Lib.hid hd
  unfold bq bv at CH
  unfold bv at CT
  unfold tv at CT
  clear k0 k1 k2 kB h hRB hr hq hd ho hqo hrp hH hk
  unfold bq
  unfold bv at CR ⊢
  go_enter Try.func11, Try.ntmps11
  go_upto_region 1 with (fail)
  refine wp_to (W := W) (by exact HW.out.symm) ?_
  rw [HN.out]
  go_wp2_with fail
  (with_reducible refine (CR.out _).mono ?_)
  rintro e w1 ⟨rfl, hb1⟩
  have D1 := Lib.hid (KB.out.trans (hb1.mono (by omega)))
  have L0 := Lib.hid (K0.out.next hb1)
  have L1 := Lib.hid (K1.out.next hb1)
  have LQ := Lib.hid (KQ.out.next hb1)
  have hsz1 := hb1.size
  clear hb1 c_on d0 d1 d2 d3 d4 d5 d6 d7 d8 d9
  obtain ⟨d0, d1, d2, d3, d4, d5, d6, d7, d8, d9⟩ := LQ.out.rd
  go_upto_region 3 with (fail)
  refine wp_region_list ?_
  refine wpList_load_row rfl 34 _ rfl nb rfl 34 (cellsT p) (0, 0) _ L0.out rfl rfl infoRP ?_
  go_wp2_with fail
  (with_reducible refine (CH.out _).mono ?_)
  rintro e w2 ⟨rfl, hb2⟩
  have D2 := Lib.hid (D1.out.trans (hb2.mono (by omega)))
  have M0 := Lib.hid (L0.out.next hb2)
  have M1 := Lib.hid (L1.out.next hb2)
  have MQ := Lib.hid (LQ.out.next hb2)
  have hsz2 := hb2.size
  clear hb2 d0 d1 d2 d3 d4 d5 d6 d7 d8 d9 L0 L1 LQ D1 K0 K1 KQ KB CR CH
  obtain ⟨d0, d1, d2, d3, d4, d5, d6, d7, d8, d9⟩ := MQ.out.rd
  have f := M0.out.free
  have g1 := M0.out.c_heardRstp
  have g2 := M0.out.c_heardStp
  have g3 := M0.out.c_oper
  have G0 : HS0 w nb q p w2 := ⟨M0.out, MQ.out, M1.out, D2.out⟩
  clear M0 MQ M1 D2
  go_upto_if 28 with (fail)
  simp only [HRP.out]
  go_cut [] (fun wx => HS0 w nb q { p with heardRstp := p.heardRstp || rp } wx)
  case first =>
    cases rp
    · go_wp2_with fail
      go_meet
      exact G0.as (by simp)
    · go_wp2_with fail
      go_meet
      exact (G0.set _ _ fun h => h.s_heardRstp _).as (by simp)
  case rest =>
    have G1 := Lib.hid hcut
    clear hcut G0 f g1 g2 g3 d0 d1 d2 d3 d4 d5 d6 d7 d8 d9
    have f := G1.out.pt.free
    have g2 := G1.out.pt.c_heardStp
    go_upto_if 31 with (fail)
    go_cut [] (fun wx => HS0 w nb q { p with heardRstp := p.heardRstp || rp, heardStp := p.heardStp || !rp } wx)
    case first =>
      cases rp
      · go_wp2_with fail
        go_meet
        exact (G1.out.set _ _ fun h => h.s_heardStp _).as (by simp)
      · go_wp2_with fail
        go_meet
        exact G1.out.as (by simp)
    case rest =>
      have G2 := Lib.hid hcut
      clear hcut G1 f g2
      have f := G2.out.pt.free
      have g3 := G2.out.pt.c_oper
      go_upto_region 10 with (fail)
      have G3 := Lib.hid (G2.out.set 4 (.bool false) fun h => h.s_oper false)
      clear G2 f g3
      obtain ⟨d0, d1, d2, d3, d4, d5, d6, d7, d8, d9⟩ := G3.out.bp.rd
      go_wp2_with fail
      (with_reducible refine (CT.out _).mono ?_)
      rintro e w3 ⟨rfl, hb3⟩
      have G4 := Lib.hid (G3.out.next hb3)
      clear hb3 d0 d1 d2 d3 d4 d5 d6 d7 d8 d9 CT G3
      have HF := Lib.hid (show ({ p with heardRstp := p.heardRstp || rp, heardStp := p.heardStp || !rp, oper := false } : Pt) = firstP p q by rw [← HRP.out]; unfold firstP; rw [show (q.kind == 3) = decide (q.kind = 3) from rfl])
      obtain ⟨tb, htb⟩ : ∃ n, w3.heap.size = n := ⟨_, rfl⟩
      obtain ⟨F, hF⟩ : ∃ F, firstP p q = F := ⟨_, rfl⟩
      rw [hF] at hX
      have g4 := G4.out.as (HF.out.trans hF)
      have t4 := tbk_new 32 w3 (q.age / 256) (q.max / 256) H (q.delay / 256)
      rw [htb] at t4
      have b4 := below_box w3 (.cells #[.int .i64 (q.age / 256), .int .i64 (q.max / 256), .int .i64 H, .int .i64 (q.delay / 256)] 32)
      have G5 := Lib.hid (show HSt w nb tb q ⟨q.age / 256, q.max / 256, H, q.delay / 256⟩ F _ from ⟨(g4.next b4).pt, (g4.next b4).bp, (g4.next b4).rs, t4, (g4.next b4).lo, by have := g4.rs.lt; omega⟩)
      have HTB := Lib.hid htb
      clear G4 hF HF g4 t4 b4
      obtain ⟨b4, hb⟩ : ∃ b, bitB q.flags 4 = b := ⟨_, rfl⟩
      have HB4 := Lib.hid hb
      have CB4 := Lib.hid (fun w' => bit_w q.flags 4 4 b4 w' rfl (by omega) HD.out.flags.1 (Lib.hid hb))
      clear hb
      obtain ⟨V4, hB⟩ : ∃ B, (rp && b4) = B := ⟨_, rfl⟩
      have HV4 := Lib.hid hB
      clear hB
      have f := G5.out.pt.free
      obtain ⟨d0, d1, d2, d3, d4, d5, d6, d7, d8, d9⟩ := G5.out.bp.rd
      obtain ⟨m0, m1, m2, m3⟩ := G5.out.tm.cells
      go_upto_region 33 with (fail)
      try simp only [HTB.out]
      go_cut [102] (fun u wx => u = .bool V4 ∧ HSt w nb tb q ⟨q.age / 256, q.max / 256, H, q.delay / 256⟩ F wx)
      case first =>
        cases rp
        · go_wp2_with fail
          go_meet
          exact ⟨by rw [← HV4.out] <;> simp, G5.out⟩
        · go_wp2_with fail
          (with_reducible refine (CB4.out _).mono ?_)
          rintro e wq ⟨rfl, rfl⟩
          go_wp2_with fail
          go_meet
          exact ⟨by rw [← HV4.out] <;> simp, G5.out⟩
      case rest =>
        obtain ⟨rfl, hc⟩ := hcut
        have G6 := Lib.hid hc
        clear hc
        clear f  d0 d1 d2 d3 d4 d5 d6 d7 d8 d9 m0 m1 m2 m3
        obtain ⟨S7, hS⟩ : ∃ S, ({ F with disputed := F.disputed || V4, agreed := F.agreed && !V4 } : Pt) = S := ⟨_, rfl⟩
        have HS7 := Lib.hid hS
        clear hS
        have f := G6.out.pt.free
        have g0 := G6.out.pt.c_disputed
        have g1 := G6.out.pt.c_agreed
        obtain ⟨d0, d1, d2, d3, d4, d5, d6, d7, d8, d9⟩ := G6.out.bp.rd
        obtain ⟨m0, m1, m2, m3⟩ := G6.out.tm.cells
        go_upto_if 102 with (fail)
        go_cut [] (fun wx => HSt w nb tb q ⟨q.age / 256, q.max / 256, H, q.delay / 256⟩ S7 wx)
        case first =>
          cases V4
          · go_wp2_with fail
            go_meet
            exact G6.out.as (by rw [← HS7.out] <;> simp)
          · go_wp2_with fail
            go_meet
            exact ((G6.out.set 38 (.bool true) fun h => h.s_disputed true).set 32 (.bool false) fun h => h.s_agreed false).as (by rw [← HS7.out] <;> simp)
        case rest =>
          have G7 := Lib.hid hcut
          clear hcut
          clear f g0 g1 d0 d1 d2 d3 d4 d5 d6 d7 d8 d9 m0 m1 m2 m3
          have eX : S7 = X := (Eq.trans hX.out.symm (by
            rw [← HS7.out]
            show inferiorP F q = _
            unfold inferiorP
            rw [HB4.out, ← HV4.out]
            cases rp
            · rw [if_neg (fun h => (beq_eq_false_iff_ne.1 HRP.out) h.1)]; simp
            · cases b4
              · rw [if_neg (fun h => by cases h.2)]; simp
              · rw [if_pos ⟨beq_iff_eq.1 HRP.out, rfl⟩]; simp)).symm
          subst eX
          have f := G7.out.pt.free
          obtain ⟨d0, d1, d2, d3, d4, d5, d6, d7, d8, d9⟩ := G7.out.bp.rd
          obtain ⟨m0, m1, m2, m3⟩ := G7.out.tm.cells
          go_upto_region 42 with (fail)
          refine wp_region_list ?_
          refine wpList_load_row rfl 34 _ rfl nb rfl 34 (cellsT S7) (0, 0) _ G7.out.pt rfl rfl infoRP ?_
          refine wpList_store_row rfl 34 _ _ rfl (nb + 2) (cellsT S7) rfl rfl 34 _ G7.out.rs infoRP rfl (cellsT_one S7) ?_
          have K5 := Lib.hid ((G7.out.rs).row S7)
          have K6 := Lib.hid (below_row G7.out.lo (g := nb + 2) (by omega) (cellsT S7))
          go_wp2
          exact bodyPost_ret (v := .agg (cellsT S7)) (results_cell_row rfl _ _ (nb + 2) 34 (cellsT S7) (0, 0) _ rfl K5.out rfl rfl infoRP) rfl ⟨rfl, HN.out ▸ K6.out⟩

set_option maxRecDepth 20000 in
set_option maxHeartbeats 4000000 in
theorem rhear_yes4_w (p X : Pt) (q : Bp) (w : World) (h : p.on = true) (hq : heardB q = true) (ho : p.vec.ok) (hqo : BpOk q) (hk : Hid (heardP p q = 4)) (hX : Hid (answerP 4 (firstP p q) q = X)) (h3 : Hid (4 = 4 → q.kind = 3)) :
    Calls Try.prog 11 #[.agg (cellsT p), bq q] w fun e w' => e = .returned (.agg (cellsT X)) ∧ Below w.heap.size w w' := by
  obtain ⟨W, nb, HW, HN, k0, k1, k2, kB⟩ := pbz_is 34 40 34 w p q
  have K0 := Lib.hid k0
  have KQ := Lib.hid k1
  have K1 := Lib.hid k2
  have KB := Lib.hid kB
  have hsz := k2.lt
  have c_on := k0.c_on
  rw [h] at c_on
  obtain ⟨RB, hRB⟩ : ∃ RB, rightB q = RB := ⟨_, rfl⟩
  have CR := Lib.hid (fun w' => by
    have h := rright_any q.kind q.flags q.root q.cost q.bridge q.port q.age q.max q.hello q.delay w'
    rw [show rightB ⟨q.kind, q.flags, q.root, q.cost, q.bridge, q.port, q.age, q.max, q.hello, q.delay⟩ = RB from hRB] at h
    exact h)
  obtain ⟨d0, d1, d2, d3, d4, d5, d6, d7, d8, d9⟩ := k1.rd
  have hr : rightB q = true := by unfold heardB at hq; simp only [Bool.and_eq_true] at hq; exact hq.1
  obtain rfl : RB = true := by rw [← hRB]; exact hr
  have z2 : (q.kind == 2) = false := by
    unfold heardB at hq
    simp only [Bool.and_eq_true, Bool.not_eq_true', decide_eq_false_iff_not] at hq
    exact beq_eq_false_iff_ne.2 hq.2
  have hd := heard_hd hq
  have CH := Lib.hid (fun w' => rheard_w p q 4 w' hk hq ho hqo)
  obtain ⟨H, hH⟩ : ∃ H, (if q.hello / 256 < 1 then 1 else q.hello / 256) = H := ⟨_, rfl⟩
  have CT := Lib.hid (fun w' => rtimes_w q.kind q.flags q.root q.cost q.bridge q.port q.age q.max q.hello q.delay H w' hd.age hd.max hd.hello hd.delay (Lib.hid hH))
  obtain ⟨rp, hrp⟩ : ∃ b, (q.kind == 3) = b := ⟨_, rfl⟩
  have HRP := Lib.hid hrp
  have HH := Lib.hid hH
  have HD := Lib.hid hd
  unfold bq bv at CH
  unfold bv at CT
  unfold tv at CT
  clear k0 k1 k2 kB h hRB hr hq hd ho hqo hrp hH hk
  unfold bq
  unfold bv at CR ⊢
  go_enter Try.func11, Try.ntmps11
  go_upto_region 1 with (fail)
  refine wp_to (W := W) (by exact HW.out.symm) ?_
  rw [HN.out]
  go_wp2_with fail
  (with_reducible refine (CR.out _).mono ?_)
  rintro e w1 ⟨rfl, hb1⟩
  have D1 := Lib.hid (KB.out.trans (hb1.mono (by omega)))
  have L0 := Lib.hid (K0.out.next hb1)
  have L1 := Lib.hid (K1.out.next hb1)
  have LQ := Lib.hid (KQ.out.next hb1)
  have hsz1 := hb1.size
  clear hb1 c_on d0 d1 d2 d3 d4 d5 d6 d7 d8 d9
  obtain ⟨d0, d1, d2, d3, d4, d5, d6, d7, d8, d9⟩ := LQ.out.rd
  go_upto_region 3 with (fail)
  refine wp_region_list ?_
  refine wpList_load_row rfl 34 _ rfl nb rfl 34 (cellsT p) (0, 0) _ L0.out rfl rfl infoRP ?_
  go_wp2_with fail
  (with_reducible refine (CH.out _).mono ?_)
  rintro e w2 ⟨rfl, hb2⟩
  have D2 := Lib.hid (D1.out.trans (hb2.mono (by omega)))
  have M0 := Lib.hid (L0.out.next hb2)
  have M1 := Lib.hid (L1.out.next hb2)
  have MQ := Lib.hid (LQ.out.next hb2)
  have hsz2 := hb2.size
  clear hb2 d0 d1 d2 d3 d4 d5 d6 d7 d8 d9 L0 L1 LQ D1 K0 K1 KQ KB CR CH
  obtain ⟨d0, d1, d2, d3, d4, d5, d6, d7, d8, d9⟩ := MQ.out.rd
  have f := M0.out.free
  have g1 := M0.out.c_heardRstp
  have g2 := M0.out.c_heardStp
  have g3 := M0.out.c_oper
  have G0 : HS0 w nb q p w2 := ⟨M0.out, MQ.out, M1.out, D2.out⟩
  clear M0 MQ M1 D2
  go_upto_if 28 with (fail)
  simp only [HRP.out]
  go_cut [] (fun wx => HS0 w nb q { p with heardRstp := p.heardRstp || rp } wx)
  case first =>
    cases rp
    · go_wp2_with fail
      go_meet
      exact G0.as (by simp)
    · go_wp2_with fail
      go_meet
      exact (G0.set _ _ fun h => h.s_heardRstp _).as (by simp)
  case rest =>
    have G1 := Lib.hid hcut
    clear hcut G0 f g1 g2 g3 d0 d1 d2 d3 d4 d5 d6 d7 d8 d9
    have f := G1.out.pt.free
    have g2 := G1.out.pt.c_heardStp
    go_upto_if 31 with (fail)
    go_cut [] (fun wx => HS0 w nb q { p with heardRstp := p.heardRstp || rp, heardStp := p.heardStp || !rp } wx)
    case first =>
      cases rp
      · go_wp2_with fail
        go_meet
        exact (G1.out.set _ _ fun h => h.s_heardStp _).as (by simp)
      · go_wp2_with fail
        go_meet
        exact G1.out.as (by simp)
    case rest =>
      have G2 := Lib.hid hcut
      clear hcut G1 f g2
      have f := G2.out.pt.free
      have g3 := G2.out.pt.c_oper
      go_upto_region 10 with (fail)
      have G3 := Lib.hid (G2.out.set 4 (.bool false) fun h => h.s_oper false)
      clear G2 f g3
      obtain ⟨d0, d1, d2, d3, d4, d5, d6, d7, d8, d9⟩ := G3.out.bp.rd
      go_wp2_with fail
      (with_reducible refine (CT.out _).mono ?_)
      rintro e w3 ⟨rfl, hb3⟩
      have G4 := Lib.hid (G3.out.next hb3)
      clear hb3 d0 d1 d2 d3 d4 d5 d6 d7 d8 d9 CT G3
      have HF := Lib.hid (show ({ p with heardRstp := p.heardRstp || rp, heardStp := p.heardStp || !rp, oper := false } : Pt) = firstP p q by rw [← HRP.out]; unfold firstP; rw [show (q.kind == 3) = decide (q.kind = 3) from rfl])
      obtain ⟨tb, htb⟩ : ∃ n, w3.heap.size = n := ⟨_, rfl⟩
      obtain ⟨F, hF⟩ : ∃ F, firstP p q = F := ⟨_, rfl⟩
      rw [hF] at hX
      have g4 := G4.out.as (HF.out.trans hF)
      have t4 := tbk_new 32 w3 (q.age / 256) (q.max / 256) H (q.delay / 256)
      rw [htb] at t4
      have b4 := below_box w3 (.cells #[.int .i64 (q.age / 256), .int .i64 (q.max / 256), .int .i64 H, .int .i64 (q.delay / 256)] 32)
      have G5 := Lib.hid (show HSt w nb tb q ⟨q.age / 256, q.max / 256, H, q.delay / 256⟩ F _ from ⟨(g4.next b4).pt, (g4.next b4).bp, (g4.next b4).rs, t4, (g4.next b4).lo, by have := g4.rs.lt; omega⟩)
      have HTB := Lib.hid htb
      clear G4 hF HF g4 t4 b4
      obtain ⟨b6, hb⟩ : ∃ b, bitB q.flags 6 = b := ⟨_, rfl⟩
      have HB6 := Lib.hid hb
      have CB6 := Lib.hid (fun w' => bit_w q.flags 6 6 b6 w' rfl (by omega) HD.out.flags.1 (Lib.hid hb))
      clear hb
      obtain ⟨b0, hb⟩ : ∃ b, bitB q.flags 0 = b := ⟨_, rfl⟩
      have HB0 := Lib.hid hb
      have CB0 := Lib.hid (fun w' => bit_w q.flags 0 0 b0 w' rfl (by omega) HD.out.flags.1 (Lib.hid hb))
      clear hb
      obtain rfl : rp = true := by rw [← HRP.out]; exact beq_iff_eq.2 (h3.out (by trivial))
      obtain ⟨sr, hsr⟩ : ∃ b, F.sendRstp = b := ⟨_, rfl⟩
      have HSR := Lib.hid hsr
      clear hsr
      obtain ⟨V6, hB⟩ : ∃ B, (sr && b6) = B := ⟨_, rfl⟩
      have HV6 := Lib.hid hB
      clear hB
      have f := G5.out.pt.free
      have g0 := G5.out.pt.c_sendRstp
      obtain ⟨d0, d1, d2, d3, d4, d5, d6, d7, d8, d9⟩ := G5.out.bp.rd
      obtain ⟨m0, m1, m2, m3⟩ := G5.out.tm.cells
      rw [HSR.out] at g0
      go_upto_region 37 with (fail)
      try simp only [HTB.out]
      go_cut [116] (fun u wx => u = .bool V6 ∧ HSt w nb tb q ⟨q.age / 256, q.max / 256, H, q.delay / 256⟩ F wx)
      case first =>
        cases sr
        · go_wp2_with fail
          go_meet
          exact ⟨by rw [← HV6.out] <;> simp, G5.out⟩
        · go_wp2_with fail
          (with_reducible refine (CB6.out _).mono ?_)
          rintro e wq ⟨rfl, rfl⟩
          go_wp2_with fail
          go_meet
          exact ⟨by rw [← HV6.out] <;> simp, G5.out⟩
      case rest =>
        obtain ⟨rfl, hc⟩ := hcut
        have G6 := Lib.hid hc
        clear hc
        clear f g0 d0 d1 d2 d3 d4 d5 d6 d7 d8 d9 m0 m1 m2 m3
        obtain ⟨S7, hS⟩ : ∃ S, ({ F with agreed := F.agreed || V6, proposing := F.proposing && !V6 } : Pt) = S := ⟨_, rfl⟩
        have HS7 := Lib.hid hS
        clear hS
        have f := G6.out.pt.free
        have g0 := G6.out.pt.c_agreed
        have g1 := G6.out.pt.c_proposing
        obtain ⟨d0, d1, d2, d3, d4, d5, d6, d7, d8, d9⟩ := G6.out.bp.rd
        obtain ⟨m0, m1, m2, m3⟩ := G6.out.tm.cells
        go_upto_if 116 with (fail)
        go_cut [] (fun wx => HSt w nb tb q ⟨q.age / 256, q.max / 256, H, q.delay / 256⟩ S7 wx)
        case first =>
          cases V6
          · go_wp2_with fail
            go_meet
            exact G6.out.as (by rw [← HS7.out] <;> simp)
          · go_wp2_with fail
            go_meet
            exact ((G6.out.set 32 (.bool true) fun h => h.s_agreed true).set 34 (.bool false) fun h => h.s_proposing false).as (by rw [← HS7.out] <;> simp)
        case rest =>
          have G7 := Lib.hid hcut
          clear hcut
          clear f g0 g1 d0 d1 d2 d3 d4 d5 d6 d7 d8 d9 m0 m1 m2 m3
          obtain ⟨V0, hB⟩ : ∃ B, (b0) = B := ⟨_, rfl⟩
          have HV0 := Lib.hid hB
          clear hB
          have f := G7.out.pt.free
          obtain ⟨d0, d1, d2, d3, d4, d5, d6, d7, d8, d9⟩ := G7.out.bp.rd
          obtain ⟨m0, m1, m2, m3⟩ := G7.out.tm.cells
          go_upto_region 40 with (fail)
          try simp only [HTB.out]
          go_cut [121] (fun u wx => u = .bool V0 ∧ HSt w nb tb q ⟨q.age / 256, q.max / 256, H, q.delay / 256⟩ S7 wx)
          case first =>
            go_wp2_with fail
            (with_reducible refine (CB0.out _).mono ?_)
            rintro e wq ⟨rfl, rfl⟩
            go_wp2_with fail
            go_meet
            exact ⟨by rw [← HV0.out] <;> simp, G7.out⟩
          case rest =>
            obtain ⟨rfl, hc⟩ := hcut
            have G8 := Lib.hid hc
            clear hc
            clear f  d0 d1 d2 d3 d4 d5 d6 d7 d8 d9 m0 m1 m2 m3
            obtain ⟨S9, hS⟩ : ∃ S, ({ S7 with heardTc := S7.heardTc || V0 } : Pt) = S := ⟨_, rfl⟩
            have HS9 := Lib.hid hS
            clear hS
            have f := G8.out.pt.free
            have g0 := G8.out.pt.c_heardTc
            obtain ⟨d0, d1, d2, d3, d4, d5, d6, d7, d8, d9⟩ := G8.out.bp.rd
            obtain ⟨m0, m1, m2, m3⟩ := G8.out.tm.cells
            go_upto_if 121 with (fail)
            go_cut [] (fun wx => HSt w nb tb q ⟨q.age / 256, q.max / 256, H, q.delay / 256⟩ S9 wx)
            case first =>
              cases V0
              · go_wp2_with fail
                go_meet
                exact G8.out.as (by rw [← HS9.out] <;> simp)
              · go_wp2_with fail
                go_meet
                exact (G8.out.set 40 (.bool true) fun h => h.s_heardTc true).as (by rw [← HS9.out] <;> simp)
            case rest =>
              have G9 := Lib.hid hcut
              clear hcut
              clear f g0 d0 d1 d2 d3 d4 d5 d6 d7 d8 d9 m0 m1 m2 m3
              have eX : S9 = X := (Eq.trans hX.out.symm (by
                rw [← HS9.out, ← HS7.out]
                show otherP F q = _
                unfold otherP
                rw [HB6.out, HB0.out, ← HV0.out, ← HV6.out, show decide (q.kind = 3) = true from HRP.out, HSR.out, Bool.true_and])).symm
              subst eX
              have f := G9.out.pt.free
              obtain ⟨d0, d1, d2, d3, d4, d5, d6, d7, d8, d9⟩ := G9.out.bp.rd
              obtain ⟨m0, m1, m2, m3⟩ := G9.out.tm.cells
              go_upto_region 42 with (fail)
              refine wp_region_list ?_
              refine wpList_load_row rfl 34 _ rfl nb rfl 34 (cellsT S9) (0, 0) _ G9.out.pt rfl rfl infoRP ?_
              refine wpList_store_row rfl 34 _ _ rfl (nb + 2) (cellsT S9) rfl rfl 34 _ G9.out.rs infoRP rfl (cellsT_one S9) ?_
              have K5 := Lib.hid ((G9.out.rs).row S9)
              have K6 := Lib.hid (below_row G9.out.lo (g := nb + 2) (by omega) (cellsT S9))
              go_wp2
              exact bodyPost_ret (v := .agg (cellsT S9)) (results_cell_row rfl _ _ (nb + 2) 34 (cellsT S9) (0, 0) _ rfl K5.out rfl rfl infoRP) rfl ⟨rfl, HN.out ▸ K6.out⟩
end Go.Proofs.Ytbiggckddoeghaa
