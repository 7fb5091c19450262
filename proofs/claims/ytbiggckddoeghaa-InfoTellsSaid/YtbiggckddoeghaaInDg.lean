/-
  Layer 11: the document's Hear, what is heard again.
-/
import Derived.Test.YtbiggckddoeghaaInDf
namespace Go.Proofs.Ytbiggckddoeghaa
set_option linter.unusedVariables false
set_option linter.unusedSimpArgs false
open Go.RowKit Vm Rm Bm Im

set_option maxRecDepth 20000 in
set_option maxHeartbeats 4000000 in
theorem rhear_yes2_w (p X : Pt) (q : Bp) (w : World) (h : p.on = true) (hq : heardB q = true) (ho : p.vec.ok) (hqo : BpOk q) (hk : Hid (heardP p q = 2)) (hX : Hid (answerP 2 (firstP p q) q = X)) (h3 : Hid (2 = 4 → q.kind = 3)) :
    Calls Try.prog 11 #[.agg (cellsT p), bq q] w fun e w' => e = .returned (.agg (cellsT X)) ∧ Below w.heap.size w w' := by
  obtain ⟨W, nb, HW, HN, k0, k1, k2, kB⟩ := pbz_is 34 40 34 w p q
  have K0 := Lib.hid k0
  have KQ := Lib.hid k1
  have K1 := Lib.hid k2
  have KB := Lib.hid kB
  have hsz := k2.lt
  have c_on := k0.c_on
  rw [h] at c_on
  obtain ⟨RB, hRB⟩ : ∃ RB, rightB q = RB := ⟨_, rfl⟩
  have CR := Lib.hid (fun w' => by
    have h := rright_any q.kind q.flags q.root q.cost q.bridge q.port q.age q.max q.hello q.delay w'
    rw [show rightB ⟨q.kind, q.flags, q.root, q.cost, q.bridge, q.port, q.age, q.max, q.hello, q.delay⟩ = RB from hRB] at h
    exact h)
  obtain ⟨d0, d1, d2, d3, d4, d5, d6, d7, d8, d9⟩ := k1.rd
  have hr : rightB q = true := by unfold heardB at hq; simp only [Bool.and_eq_true] at hq; exact hq.1
  obtain rfl : RB = true := by rw [← hRB]; exact hr
  have z2 : (q.kind == 2) = false := by
    unfold heardB at hq
    simp only [Bool.and_eq_true, Bool.not_eq_true', decide_eq_false_iff_not] at hq
    exact beq_eq_false_iff_ne.2 hq.2
  have hd := heard_hd hq
  have CH := Lib.hid (fun w' => rheard_w p q 2 w' hk hq ho hqo)
  obtain ⟨H, hH⟩ : ∃ H, (if q.hello / 256 < 1 then 1 else q.hello / 256) = H := ⟨_, rfl⟩
  have CT := Lib.hid (fun w' => rtimes_w q.kind q.flags q.root q.cost q.bridge q.port q.age q.max q.hello q.delay H w' hd.age hd.max hd.hello hd.delay (Lib.hid hH))
  obtain ⟨rp, hrp⟩ : ∃ b, (q.kind == 3) = b := ⟨_, rfl⟩
  have HRP := Lib.hid hrp
  have HH := Lib.hid hH
  have HD := Lib.hid hd
  unfold bq bv at CH
  unfold bv at CT
  unfold tv at CT
  clear k0 k1 k2 kB h hRB hr hq hd ho hqo hrp hH hk
  unfold bq
  unfold bv at CR ⊢
  go_enter Try.func11, Try.ntmps11
  go_upto_region 1 with (fail)
  refine wp_to (W := W) (by exact HW.out.symm) ?_
  rw [HN.out]
  go_wp2_with fail
  (with_reducible refine (CR.out _).mono ?_)
  rintro e w1 ⟨rfl, hb1⟩
  have D1 := Lib.hid (KB.out.trans (hb1.mono (by omega)))
  have L0 := Lib.hid (K0.out.next hb1)
  have L1 := Lib.hid (K1.out.next hb1)
  have LQ := Lib.hid (KQ.out.next hb1)
  have hsz1 := hb1.size
  clear hb1 c_on d0 d1 d2 d3 d4 d5 d6 d7 d8 d9
  obtain ⟨d0, d1, d2, d3, d4, d5, d6, d7, d8, d9⟩ := LQ.out.rd
  go_upto_region 3 with (fail)
  refine wp_region_list ?_
  refine wpList_load_row rfl 34 _ rfl nb rfl 34 (cellsT p) (0, 0) _ L0.out rfl rfl infoRP ?_
  go_wp2_with fail
  (with_reducible refine (CH.out _).mono ?_)
  rintro e w2 ⟨rfl, hb2⟩
  have D2 := Lib.hid (D1.out.trans (hb2.mono (by omega)))
  have M0 := Lib.hid (L0.out.next hb2)
  have M1 := Lib.hid (L1.out.next hb2)
  have MQ := Lib.hid (LQ.out.next hb2)
  have hsz2 := hb2.size
  clear hb2 d0 d1 d2 d3 d4 d5 d6 d7 d8 d9 L0 L1 LQ D1 K0 K1 KQ KB CR CH
  obtain ⟨d0, d1, d2, d3, d4, d5, d6, d7, d8, d9⟩ := MQ.out.rd
  have f := M0.out.free
  have g1 := M0.out.c_heardRstp
  have g2 := M0.out.c_heardStp
  have g3 := M0.out.c_oper
  have G0 : HS0 w nb q p w2 := ⟨M0.out, MQ.out, M1.out, D2.out⟩
  clear M0 MQ M1 D2
  go_upto_if 28 with (fail)
  simp only [HRP.out]
  go_cut [] (fun wx => HS0 w nb q { p with heardRstp := p.heardRstp || rp } wx)
  case first =>
    cases rp
    · go_wp2_with fail
      go_meet
      exact G0.as (by simp)
    · go_wp2_with fail
      go_meet
      exact (G0.set _ _ fun h => h.s_heardRstp _).as (by simp)
  case rest =>
    have G1 := Lib.hid hcut
    clear hcut G0 f g1 g2 g3 d0 d1 d2 d3 d4 d5 d6 d7 d8 d9
    have f := G1.out.pt.free
    have g2 := G1.out.pt.c_heardStp
    go_upto_if 31 with (fail)
    go_cut [] (fun wx => HS0 w nb q { p with heardRstp := p.heardRstp || rp, heardStp := p.heardStp || !rp } wx)
    case first =>
      cases rp
      · go_wp2_with fail
        go_meet
        exact (G1.out.set _ _ fun h => h.s_heardStp _).as (by simp)
      · go_wp2_with fail
        go_meet
        exact G1.out.as (by simp)
    case rest =>
      have G2 := Lib.hid hcut
      clear hcut G1 f g2
      have f := G2.out.pt.free
      have g3 := G2.out.pt.c_oper
      go_upto_region 10 with (fail)
      have G3 := Lib.hid (G2.out.set 4 (.bool false) fun h => h.s_oper false)
      clear G2 f g3
      obtain ⟨d0, d1, d2, d3, d4, d5, d6, d7, d8, d9⟩ := G3.out.bp.rd
      go_wp2_with fail
      (with_reducible refine (CT.out _).mono ?_)
      rintro e w3 ⟨rfl, hb3⟩
      have G4 := Lib.hid (G3.out.next hb3)
      clear hb3 d0 d1 d2 d3 d4 d5 d6 d7 d8 d9 CT G3
      have HF := Lib.hid (show ({ p with heardRstp := p.heardRstp || rp, heardStp := p.heardStp || !rp, oper := false } : Pt) = firstP p q by rw [← HRP.out]; unfold firstP; rw [show (q.kind == 3) = decide (q.kind = 3) from rfl])
      obtain ⟨tb, htb⟩ : ∃ n, w3.heap.size = n := ⟨_, rfl⟩
      obtain ⟨F, hF⟩ : ∃ F, firstP p q = F := ⟨_, rfl⟩
      rw [hF] at hX
      have g4 := G4.out.as (HF.out.trans hF)
      have t4 := tbk_new 32 w3 (q.age / 256) (q.max / 256) H (q.delay / 256)
      rw [htb] at t4
      have b4 := below_box w3 (.cells #[.int .i64 (q.age / 256), .int .i64 (q.max / 256), .int .i64 H, .int .i64 (q.delay / 256)] 32)
      have G5 := Lib.hid (show HSt w nb tb q ⟨q.age / 256, q.max / 256, H, q.delay / 256⟩ F _ from ⟨(g4.next b4).pt, (g4.next b4).bp, (g4.next b4).rs, t4, (g4.next b4).lo, by have := g4.rs.lt; omega⟩)
      have HTB := Lib.hid htb
      clear G4 hF HF g4 t4 b4
      obtain ⟨b1, hb⟩ : ∃ b, bitB q.flags 1 = b := ⟨_, rfl⟩
      have HB1 := Lib.hid hb
      have CB1 := Lib.hid (fun w' => bit_w q.flags 1 1 b1 w' rfl (by omega) HD.out.flags.1 (Lib.hid hb))
      clear hb
      obtain ⟨b0, hb⟩ : ∃ b, bitB q.flags 0 = b := ⟨_, rfl⟩
      have HB0 := Lib.hid hb
      have CB0 := Lib.hid (fun w' => bit_w q.flags 0 0 b0 w' rfl (by omega) HD.out.flags.1 (Lib.hid hb))
      clear hb
      obtain ⟨b7, hb⟩ : ∃ b, bitB q.flags 7 = b := ⟨_, rfl⟩
      have HB7 := Lib.hid hb
      have CB7 := Lib.hid (fun w' => bit_w q.flags 7 7 b7 w' rfl (by omega) HD.out.flags.1 (Lib.hid hb))
      clear hb
      have hA0 : 0 ≤ q.age / 256 := by have := HD.out.age; omega
      have hA1 : q.age / 256 ≤ 255 := by have := HD.out.age; omega
      have hH0 : 1 ≤ H := by rw [← HH.out]; split <;> omega
      have hH1 : H ≤ 255 := by have := HD.out.hello; rw [← HH.out]; split <;> omega
      have NUM := Lib.hid (And.intro (And.intro hA0 hA1) (And.intro hH0 hH1))
      clear hA0 hA1 hH0 hH1
      obtain ⟨V1, hB⟩ : ∃ B, (rp && b1) = B := ⟨_, rfl⟩
      have HV1 := Lib.hid hB
      clear hB
      have f := G5.out.pt.free
      obtain ⟨d0, d1, d2, d3, d4, d5, d6, d7, d8, d9⟩ := G5.out.bp.rd
      obtain ⟨m0, m1, m2, m3⟩ := G5.out.tm.cells
      go_upto_region 15 with (fail)
      try simp only [HTB.out]
      go_cut [51] (fun u wx => u = .bool V1 ∧ HSt w nb tb q ⟨q.age / 256, q.max / 256, H, q.delay / 256⟩ F wx)
      case first =>
        cases rp
        · go_wp2_with fail
          go_meet
          exact ⟨by rw [← HV1.out] <;> simp, G5.out⟩
        · go_wp2_with fail
          (with_reducible refine (CB1.out _).mono ?_)
          rintro e wq ⟨rfl, rfl⟩
          go_wp2_with fail
          go_meet
          exact ⟨by rw [← HV1.out] <;> simp, G5.out⟩
      case rest =>
        obtain ⟨rfl, hc⟩ := hcut
        have G6 := Lib.hid hc
        clear hc
        clear f  d0 d1 d2 d3 d4 d5 d6 d7 d8 d9 m0 m1 m2 m3
        obtain ⟨S7, hS⟩ : ∃ S, ({ F with proposed := F.proposed || V1 } : Pt) = S := ⟨_, rfl⟩
        have HS7 := Lib.hid hS
        clear hS
        have f := G6.out.pt.free
        have g0 := G6.out.pt.c_proposed
        obtain ⟨d0, d1, d2, d3, d4, d5, d6, d7, d8, d9⟩ := G6.out.bp.rd
        obtain ⟨m0, m1, m2, m3⟩ := G6.out.tm.cells
        go_upto_if 51 with (fail)
        go_cut [] (fun wx => HSt w nb tb q ⟨q.age / 256, q.max / 256, H, q.delay / 256⟩ S7 wx)
        case first =>
          cases V1
          · go_wp2_with fail
            go_meet
            exact G6.out.as (by rw [← HS7.out] <;> simp)
          · go_wp2_with fail
            go_meet
            exact (G6.out.set 33 (.bool true) fun h => h.s_proposed true).as (by rw [← HS7.out] <;> simp)
        case rest =>
          have G7 := Lib.hid hcut
          clear hcut
          clear f g0 d0 d1 d2 d3 d4 d5 d6 d7 d8 d9 m0 m1 m2 m3
          obtain ⟨V0, hB⟩ : ∃ B, (b0) = B := ⟨_, rfl⟩
          have HV0 := Lib.hid hB
          clear hB
          have f := G7.out.pt.free
          obtain ⟨d0, d1, d2, d3, d4, d5, d6, d7, d8, d9⟩ := G7.out.bp.rd
          obtain ⟨m0, m1, m2, m3⟩ := G7.out.tm.cells
          go_upto_region 17 with (fail)
          try simp only [HTB.out]
          go_cut [55] (fun u wx => u = .bool V0 ∧ HSt w nb tb q ⟨q.age / 256, q.max / 256, H, q.delay / 256⟩ S7 wx)
          case first =>
            go_wp2_with fail
            (with_reducible refine (CB0.out _).mono ?_)
            rintro e wq ⟨rfl, rfl⟩
            go_wp2_with fail
            go_meet
            exact ⟨by rw [← HV0.out] <;> simp, G7.out⟩
          case rest =>
            obtain ⟨rfl, hc⟩ := hcut
            have G8 := Lib.hid hc
            clear hc
            clear f  d0 d1 d2 d3 d4 d5 d6 d7 d8 d9 m0 m1 m2 m3
            obtain ⟨S9, hS⟩ : ∃ S, ({ S7 with heardTc := S7.heardTc || V0 } : Pt) = S := ⟨_, rfl⟩
            have HS9 := Lib.hid hS
            clear hS
            have f := G8.out.pt.free
            have g0 := G8.out.pt.c_heardTc
            obtain ⟨d0, d1, d2, d3, d4, d5, d6, d7, d8, d9⟩ := G8.out.bp.rd
            obtain ⟨m0, m1, m2, m3⟩ := G8.out.tm.cells
            go_upto_if 55 with (fail)
            go_cut [] (fun wx => HSt w nb tb q ⟨q.age / 256, q.max / 256, H, q.delay / 256⟩ S9 wx)
            case first =>
              cases V0
              · go_wp2_with fail
                go_meet
                exact G8.out.as (by rw [← HS9.out] <;> simp)
              · go_wp2_with fail
                go_meet
                exact (G8.out.set 40 (.bool true) fun h => h.s_heardTc true).as (by rw [← HS9.out] <;> simp)
            case rest =>
              have G9 := Lib.hid hcut
              clear hcut
              clear f g0 d0 d1 d2 d3 d4 d5 d6 d7 d8 d9 m0 m1 m2 m3
              obtain ⟨V7, hB⟩ : ∃ B, (!rp && b7) = B := ⟨_, rfl⟩
              have HV7 := Lib.hid hB
              clear hB
              have f := G9.out.pt.free
              obtain ⟨d0, d1, d2, d3, d4, d5, d6, d7, d8, d9⟩ := G9.out.bp.rd
              obtain ⟨m0, m1, m2, m3⟩ := G9.out.tm.cells
              go_upto_region 19 with (fail)
              try simp only [HTB.out]
              go_cut [63] (fun u wx => u = .bool V7 ∧ HSt w nb tb q ⟨q.age / 256, q.max / 256, H, q.delay / 256⟩ S9 wx)
              case first =>
                cases rp
                · go_wp2_with fail
                  (with_reducible refine (CB7.out _).mono ?_)
                  rintro e wq ⟨rfl, rfl⟩
                  go_wp2_with fail
                  go_meet
                  exact ⟨by rw [← HV7.out] <;> simp, G9.out⟩
                · go_wp2_with fail
                  go_meet
                  exact ⟨by rw [← HV7.out] <;> simp, G9.out⟩
              case rest =>
                obtain ⟨rfl, hc⟩ := hcut
                have G10 := Lib.hid hc
                clear hc
                clear f  d0 d1 d2 d3 d4 d5 d6 d7 d8 d9 m0 m1 m2 m3
                obtain ⟨S11, hS⟩ : ∃ S, ({ S9 with heardAck := S9.heardAck || V7 } : Pt) = S := ⟨_, rfl⟩
                have HS11 := Lib.hid hS
                clear hS
                have f := G10.out.pt.free
                have g0 := G10.out.pt.c_heardAck
                obtain ⟨d0, d1, d2, d3, d4, d5, d6, d7, d8, d9⟩ := G10.out.bp.rd
                obtain ⟨m0, m1, m2, m3⟩ := G10.out.tm.cells
                go_upto_if 63 with (fail)
                go_cut [] (fun wx => HSt w nb tb q ⟨q.age / 256, q.max / 256, H, q.delay / 256⟩ S11 wx)
                case first =>
                  cases V7
                  · go_wp2_with fail
                    go_meet
                    exact G10.out.as (by rw [← HS11.out] <;> simp)
                  · go_wp2_with fail
                    go_meet
                    exact (G10.out.set 42 (.bool true) fun h => h.s_heardAck true).as (by rw [← HS11.out] <;> simp)
                case rest =>
                  have G11 := Lib.hid hcut
                  clear hcut
                  clear f g0 d0 d1 d2 d3 d4 d5 d6 d7 d8 d9 m0 m1 m2 m3
                  obtain ⟨AG, hAG⟩ : ∃ b, decide (q.age / 256 + 1 > q.max / 256) = b := ⟨_, rfl⟩
                  have HAG := Lib.hid hAG
                  clear hAG
                  obtain ⟨S12, hS⟩ : ∃ S, ({ S11 with info := if AG then 0 else 3 * H } : Pt) = S := ⟨_, rfl⟩
                  have HS12 := Lib.hid hS
                  clear hS
                  have f := G11.out.pt.free
                  have g0 := G11.out.pt.c_info
                  obtain ⟨d0, d1, d2, d3, d4, d5, d6, d7, d8, d9⟩ := G11.out.bp.rd
                  obtain ⟨m0, m1, m2, m3⟩ := G11.out.tm.cells
                  obtain ⟨⟨n0, n1⟩, ⟨n2, n3⟩⟩ := NUM.out
                  have hne1 : ¬ tb = nb := by have := G11.out.tb2; omega
                  have hne2 : ¬ nb = tb := by have := G11.out.tb2; omega
                  go_upto_if 74 with (fail)
                  go_cut [] (fun wx => HSt w nb tb q ⟨q.age / 256, q.max / 256, H, q.delay / 256⟩ S12 wx)
                  case first =>
                    cases AG
                    · have hag : ¬ q.age / 256 + 1 > q.max / 256 := of_decide_eq_false HAG.out
                      have hag2 : ¬ q.max / 256 < q.age / 256 + 1 := hag
                      go_wp2_with fail
                      go_meet
                      exact (G11.out.set 56 (.int .i64 (3 * H)) fun h => h.s_info (3 * H)).as (by rw [← HS12.out] <;> simp)
                    · have hag : q.age / 256 + 1 > q.max / 256 := of_decide_eq_true HAG.out
                      have hag2 : q.max / 256 < q.age / 256 + 1 := hag
                      go_wp2_with fail
                      go_meet
                      exact ((G11.out.set 56 (.int .i64 (3 * H)) fun h => h.s_info (3 * H)).set 56 (.int .i64 0) fun h => h.s_info 0).as (by rw [← HS12.out] <;> simp)
                  case rest =>
                    have G12 := Lib.hid hcut
                    clear hcut
                    clear f g0 d0 d1 d2 d3 d4 d5 d6 d7 d8 d9 m0 m1 m2 m3
                    clear n0 n1 n2 n3 hne1 hne2
                    have eX : S12 = X := (Eq.trans hX.out.symm (by
                      rw [← HS12.out, ← HS11.out, ← HS9.out, ← HS7.out]
                      show recordP F q = _
                      unfold recordP
                      simp only [HB1.out, HB0.out, HB7.out, timesOf, HH.out]
                      rw [show decide (q.kind = 3) = rp from HRP.out, ← HV1.out, ← HV0.out, ← HV7.out]
                      congr 1
                      cases AG
                      · rw [if_neg (of_decide_eq_false HAG.out)]; simp
                      · rw [if_pos (of_decide_eq_true HAG.out)]; simp)).symm
                    subst eX
                    have f := G12.out.pt.free
                    obtain ⟨d0, d1, d2, d3, d4, d5, d6, d7, d8, d9⟩ := G12.out.bp.rd
                    obtain ⟨m0, m1, m2, m3⟩ := G12.out.tm.cells
                    go_upto_region 42 with (fail)
                    refine wp_region_list ?_
                    refine wpList_load_row rfl 34 _ rfl nb rfl 34 (cellsT S12) (0, 0) _ G12.out.pt rfl rfl infoRP ?_
                    refine wpList_store_row rfl 34 _ _ rfl (nb + 2) (cellsT S12) rfl rfl 34 _ G12.out.rs infoRP rfl (cellsT_one S12) ?_
                    have K5 := Lib.hid ((G12.out.rs).row S12)
                    have K6 := Lib.hid (below_row G12.out.lo (g := nb + 2) (by omega) (cellsT S12))
                    go_wp2
                    exact bodyPost_ret (v := .agg (cellsT S12)) (results_cell_row rfl _ _ (nb + 2) 34 (cellsT S12) (0, 0) _ rfl K5.out rfl rfl infoRP) rfl ⟨rfl, HN.out ▸ K6.out⟩
end Go.Proofs.Ytbiggckddoeghaa
