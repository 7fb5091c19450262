/-
  The library's sort at uint64: partitionOrdered (printed by gen_so.py).
-/
import Derived.Test.YtldobcfejldbiaaGreatDoorMau
import Derived.Deep.DeepCutAuto
namespace Go.Proofs.YtldobcfejldbiaaGreatDoor
set_option linter.unusedVariables false
set_option linter.unusedSimpArgs false
open Go.RowKit Go.Sort Sm

set_option maxRecDepth 40000 in
set_option maxHeartbeats 8000000 in
theorem partition_w (g cap n a b p : Nat) (d : Array Int) (w : World) (h : SH w g d) (hn : d.size = n) (hn1 : n ≤ 1000) (hap : a ≤ p) (hpb : p < b) (hb : b ≤ n) :
    Calls Tryz.prog 184 #[.slice (some ⟨g, 0, none⟩) n cap, .int .i64 ((a : Nat) : Int), .int .i64 ((b : Nat) : Int), .int .i64 ((p : Nat) : Int)] w fun e w' =>
      ∃ (m : Nat) (ap : Bool) (d4 : Array Int), e = .returned (.tuple #[.int .i64 ((m : Nat) : Int), .bool ap]) ∧ partition ltInt d a b p = (m, ap, d4) ∧ SH w' g d4 ∧ Kq g w w' := by
  have H := Lib.hid h
  have K := Lib.hid (Kq.refl g w)
  clear h
  go_enter Tryz.func184, Tryz.ntmps184
  go_upto_region 1 with (fail)
  go_cut [19] (fun _ wx => SH wx g (swp d a p) ∧ Kq g w wx)
  case first =>
    obtain ⟨G, hG⟩ : ∃ G : Nat → Int, ∀ t, G t = d[t]! := ⟨fun t => d[t]!, fun _ => rfl⟩
    have hsw := H.out.swp (i := a) (j := p) (by omega) (by omega)
    rw [← hG, ← hG] at hsw
    have HW := Lib.hid hsw
    have b_u : (a : Int) < n := by omega
    have d_u : (0 : Int) ≤ (a : Int) := by omega
    have c_u := H.out.cell (i := a) (by omega)
    have f_u := H.out.free (i := a) (by omega)
    rw [← hG] at c_u
    have b_v : (p : Int) < n := by omega
    have d_v : (0 : Int) ≤ (p : Int) := by omega
    have c_v := H.out.cell (i := p) (by omega)
    have f_v := H.out.free (i := p) (by omega)
    rw [← hG] at c_v
    clear hsw hG
    by_cases huv : a = p
    · go_region
      all_goals go_wp2_with fail
      all_goals go_meet
      all_goals exact ⟨by first | exact HW.out | (rw [huv] at HW ⊢; exact HW.out) | (rw [← huv] at HW ⊢; exact HW.out), kq_swp K.out _ _ _ _ _⟩
    · go_region
      all_goals go_wp2_with fail
      all_goals go_meet
      all_goals exact ⟨HW.out, kq_swp K.out _ _ _ _ _⟩
  case rest =>
    obtain ⟨hsa, hka⟩ := hcut
    have HSa := Lib.hid hsa
    have HKa := Lib.hid hka
    have hza : (swp d a p).size = n := (swp_len _ _ _).trans hn
    clear hsa hka
    have hpart : partition ltInt d a b p = (if scanUp (fun y => ltInt y (swp d a p)[a]!) (swp d a p) (b - 1) (a + 1) > scanDown (fun y => !ltInt y (swp d a p)[a]!) (swp d a p) (scanUp (fun y => ltInt y (swp d a p)[a]!) (swp d a p) (b - 1) (a + 1)) (b - 1) then (scanDown (fun y => !ltInt y (swp d a p)[a]!) (swp d a p) (scanUp (fun y => ltInt y (swp d a p)[a]!) (swp d a p) (b - 1) (a + 1)) (b - 1), true, swp (swp d a p) (scanDown (fun y => !ltInt y (swp d a p)[a]!) (swp d a p) (scanUp (fun y => ltInt y (swp d a p)[a]!) (swp d a p) (b - 1) (a + 1)) (b - 1)) a) else ((partLoop ltInt a (scanUp (fun y => ltInt y (swp d a p)[a]!) (swp d a p) (b - 1) (a + 1) + 1) (scanDown (fun y => !ltInt y (swp d a p)[a]!) (swp d a p) (scanUp (fun y => ltInt y (swp d a p)[a]!) (swp d a p) (b - 1) (a + 1)) (b - 1) - 1) (swp (swp d a p) (scanUp (fun y => ltInt y (swp d a p)[a]!) (swp d a p) (b - 1) (a + 1)) (scanDown (fun y => !ltInt y (swp d a p)[a]!) (swp d a p) (scanUp (fun y => ltInt y (swp d a p)[a]!) (swp d a p) (b - 1) (a + 1)) (b - 1)))).1, false, swp (partLoop ltInt a (scanUp (fun y => ltInt y (swp d a p)[a]!) (swp d a p) (b - 1) (a + 1) + 1) (scanDown (fun y => !ltInt y (swp d a p)[a]!) (swp d a p) (scanUp (fun y => ltInt y (swp d a p)[a]!) (swp d a p) (b - 1) (a + 1)) (b - 1) - 1) (swp (swp d a p) (scanUp (fun y => ltInt y (swp d a p)[a]!) (swp d a p) (b - 1) (a + 1)) (scanDown (fun y => !ltInt y (swp d a p)[a]!) (swp d a p) (scanUp (fun y => ltInt y (swp d a p)[a]!) (swp d a p) (b - 1) (a + 1)) (b - 1)))).2 (partLoop ltInt a (scanUp (fun y => ltInt y (swp d a p)[a]!) (swp d a p) (b - 1) (a + 1) + 1) (scanDown (fun y => !ltInt y (swp d a p)[a]!) (swp d a p) (scanUp (fun y => ltInt y (swp d a p)[a]!) (swp d a p) (b - 1) (a + 1)) (b - 1) - 1) (swp (swp d a p) (scanUp (fun y => ltInt y (swp d a p)[a]!) (swp d a p) (b - 1) (a + 1)) (scanDown (fun y => !ltInt y (swp d a p)[a]!) (swp d a p) (scanUp (fun y => ltInt y (swp d a p)[a]!) (swp d a p) (b - 1) (a + 1)) (b - 1)))).1 a)) := by unfold partition; rfl
    obtain ⟨e1, he1⟩ : ∃ e1, swp d a p = e1 := ⟨_, rfl⟩
    rw [he1] at hpart HSa hza
    obtain ⟨I0, hI0⟩ : ∃ I0, scanUp (fun y => ltInt y e1[a]!) e1 (b - 1) (a + 1) = I0 := ⟨_, rfl⟩
    rw [hI0] at hpart
    obtain ⟨J0, hJ0⟩ : ∃ J0, scanDown (fun y => !ltInt y e1[a]!) e1 I0 (b - 1) = J0 := ⟨_, rfl⟩
    rw [hJ0] at hpart
    have HP := Lib.hid hpart
    have HI := Lib.hid hI0
    have HJ := Lib.hid hJ0
    clear hpart hI0 hJ0 he1
    obtain ⟨c, hc⟩ : ∃ c : Nat, b - 1 = c := ⟨_, rfl⟩
    rw [hc] at HI HJ
    have hc1 : b ≤ c + 1 := by omega
    have hc2 : c + 1 ≤ b := by omega
    clear hc
    have hcI : ((b : Int) - 1) = (c : Int) := by omega
    go_wp2_with fail
    go_loopw [10] (fun vx wr => ∃ x1 : Nat, vx = .int .i64 ((x1 : Nat) : Int) ∧ a < x1 ∧ x1 ≤ b ∧ scanUp (fun y => ltInt y e1[a]!) e1 c x1 = I0 ∧ SH wr g e1 ∧ Kq g w wr) (fun vx _ => b + 1 - (intOf vx).toNat)
    case atStart => exact ⟨a + 1, by go_num, by omega, by omega, HI.out, HSa.out, HKa.out⟩
    case round =>
      obtain ⟨x1, rfl, hl1, hu1, he1, hs1, hk1⟩ := hrel
      have HX1 := Lib.hid he1
      have HS1 := Lib.hid hs1
      have HK1 := Lib.hid hk1
      clear he1 hs1 hk1
      go_upto_region 3 with (fail)
      go_cut [43] (fun v wx => ∃ B : Bool, v = .bool B ∧ (B = true → x1 ≤ c ∧ ltInt e1[x1]! e1[a]! = true) ∧ (B = false → ¬ x1 ≤ c ∨ ltInt e1[x1]! e1[a]! = false) ∧ SH wx g e1 ∧ Kq g w wx)
      case first =>
        obtain ⟨G, hG⟩ : ∃ G : Nat → Int, ∀ t, G t = e1[t]! := ⟨fun t => e1[t]!, fun _ => rfl⟩
        have HG := Lib.hid hG
        by_cases hi : x1 ≤ c
        · have hii : (x1 : Int) ≤ (c : Int) := by omega
          have b1 : (x1 : Int) < n := by omega
          have b2 : (a : Int) < n := by omega
          have b3 : (0 : Int) ≤ (x1 : Int) := by omega
          have b4 : (0 : Int) ≤ (a : Int) := by omega
          have c1 : wr.cell? ⟨g, x1, none⟩ = some (.int .u64 (G x1)) := by rw [hG]; exact HS1.out.cell (by omega)
          have c2 : wr.cell? ⟨g, a, none⟩ = some (.int .u64 (G a)) := by rw [hG]; exact HS1.out.cell (by omega)
          clear hG
          go_big_quiet (first | (go_at_call 182; refine Calls.quiet_of_same (less_u64 _ _ _)))
          go_wp2_with fail
          go_meet
          exact ⟨_, rfl, fun h => ⟨hi, by rw [← HG.out, ← HG.out]; exact h⟩, fun h => .inr (by rw [← HG.out, ← HG.out]; exact h), HS1.out, HK1.out.drewN _⟩
        · have cb : decide ((x1 : Int) ≤ (c : Int)) = false := decide_eq_false (by omega)
          clear hG
          go_big_quiet (fail)
          go_wp2_with fail
          go_meet
          exact ⟨false, rfl, fun h => (by cases h), fun _ => .inl hi, HS1.out, HK1.out.drewN _⟩
      case rest =>
        obtain ⟨B, rfl, hBt, hBf, hs2, hk2⟩ := hcut
        have HT1 := Lib.hid hs2
        have HL1 := Lib.hid hk2
        clear hs2 hk2
        cases B with
        | true =>
          obtain ⟨h1, h2⟩ := hBt rfl
          clear hBt hBf
          go_wp2_with fail
          exact ⟨⟨x1 + 1, by go_num, by omega, by omega, by rw [← HX1.out]; exact (up_in h1 h2).symm, HT1.out, HL1.out⟩, by simp [intOf]; omega⟩
        | false =>
          have hx1 := Lib.hid (show x1 = I0 from by rw [← HX1.out]; exact (up_end (hBf rfl)).symm)
          have hstop1 := hBf rfl
          clear hBt hBf HX1
          go_wp2_with fail
          go_loopw [11] (fun vx wr => ∃ x2 : Nat, vx = .int .i64 ((x2 : Nat) : Int) ∧ a ≤ x2 ∧ x2 < b ∧ scanDown (fun y => !ltInt y e1[a]!) e1 x1 x2 = J0 ∧ SH wr g e1 ∧ Kq g w wr) (fun vx _ => (intOf vx).toNat)
          case atStart => exact ⟨c, rfl, by omega, by omega, by rw [hx1.out]; exact HJ.out, HT1.out, HL1.out⟩
          case round =>
            obtain ⟨x2, rfl, hl2, hu2, he2, hs2, hk2⟩ := hrel
            have HX2 := Lib.hid he2
            have HS2 := Lib.hid hs2
            have HK2 := Lib.hid hk2
            clear he2 hs2 hk2
            go_upto_region 5 with (fail)
            go_cut [60] (fun v wx => ∃ B : Bool, v = .bool B ∧ (B = true → x1 ≤ x2 ∧ ltInt e1[x2]! e1[a]! = false) ∧ (B = false → ¬ x1 ≤ x2 ∨ ltInt e1[x2]! e1[a]! = true) ∧ SH wx g e1 ∧ Kq g w wx)
            case first =>
              obtain ⟨G, hG⟩ : ∃ G : Nat → Int, ∀ t, G t = e1[t]! := ⟨fun t => e1[t]!, fun _ => rfl⟩
              have HG := Lib.hid hG
              by_cases hi : x1 ≤ x2
              · have hii : (x1 : Int) ≤ (x2 : Int) := by omega
                have b1 : (x2 : Int) < n := by omega
                have b2 : (a : Int) < n := by omega
                have b3 : (0 : Int) ≤ (x2 : Int) := by omega
                have b4 : (0 : Int) ≤ (a : Int) := by omega
                have c1 : wr.cell? ⟨g, x2, none⟩ = some (.int .u64 (G x2)) := by rw [hG]; exact HS2.out.cell (by omega)
                have c2 : wr.cell? ⟨g, a, none⟩ = some (.int .u64 (G a)) := by rw [hG]; exact HS2.out.cell (by omega)
                clear hG
                go_big_quiet (first | (go_at_call 182; refine Calls.quiet_of_same (less_u64 _ _ _)))
                go_wp2_with fail
                go_meet
                exact ⟨_, rfl, fun h => ⟨hi, by rw [← HG.out, ← HG.out]; simpa using h⟩, fun h => .inr (by rw [← HG.out, ← HG.out]; simpa using h), HS2.out, HK2.out.drewN _⟩
              · have cb : decide ((x1 : Int) ≤ (x2 : Int)) = false := decide_eq_false (by omega)
                clear hG
                go_big_quiet (fail)
                go_wp2_with fail
                go_meet
                exact ⟨false, rfl, fun h => (by cases h), fun _ => .inl hi, HS2.out, HK2.out.drewN _⟩
            case rest =>
              obtain ⟨B, rfl, hBt, hBf, hs2, hk2⟩ := hcut
              have HT2 := Lib.hid hs2
              have HL2 := Lib.hid hk2
              clear hs2 hk2
              cases B with
              | true =>
                obtain ⟨h1, h2⟩ := hBt rfl
                clear hBt hBf
                go_wp2_with fail
                exact ⟨⟨x2 - 1, by congr 1; omega, by omega, by omega, by rw [← HX2.out]; exact (down_in (by omega) h1 (by rw [h2]; rfl)).symm, HT2.out, HL2.out⟩, by simp [intOf]; omega⟩
              | false =>
                have hx2 := Lib.hid (show x2 = J0 from by rw [← HX2.out]; exact (down_end ((hBf rfl).imp id (fun h => by rw [h]; rfl))).symm)
                have hstop2 := hBf rfl
                clear hBt hBf HX2
                by_cases hgt : x2 < x1
                · have hgi : (x2 : Int) < (x1 : Int) := by omega
                  go_upto_region 8 with (fail)
                  go_cut [73] (fun _ wx => SH wx g (swp e1 x2 a) ∧ Kq g w wx)
                  case first =>
                    obtain ⟨G, hG⟩ : ∃ G : Nat → Int, ∀ t, G t = e1[t]! := ⟨fun t => e1[t]!, fun _ => rfl⟩
                    have hsw := HT2.out.swp (i := x2) (j := a) (by omega) (by omega)
                    rw [← hG, ← hG] at hsw
                    have HW := Lib.hid hsw
                    have b_u : (x2 : Int) < n := by omega
                    have d_u : (0 : Int) ≤ (x2 : Int) := by omega
                    have c_u := HT2.out.cell (i := x2) (by omega)
                    have f_u := HT2.out.free (i := x2) (by omega)
                    rw [← hG] at c_u
                    have b_v : (a : Int) < n := by omega
                    have d_v : (0 : Int) ≤ (a : Int) := by omega
                    have c_v := HT2.out.cell (i := a) (by omega)
                    have f_v := HT2.out.free (i := a) (by omega)
                    rw [← hG] at c_v
                    clear hsw hG
                    by_cases huv : x2 = a
                    · go_region
                      all_goals go_wp2_with fail
                      all_goals go_meet
                      all_goals exact ⟨by first | exact HW.out | (rw [huv] at HW ⊢; exact HW.out) | (rw [← huv] at HW ⊢; exact HW.out), kq_swp HL2.out _ _ _ _ _⟩
                    · go_region
                      all_goals go_wp2_with fail
                      all_goals go_meet
                      all_goals exact ⟨HW.out, kq_swp HL2.out _ _ _ _ _⟩
                  case rest =>
                    obtain ⟨hsa, hka⟩ := hcut
                    have HSb := Lib.hid hsa
                    have HKb := Lib.hid hka
                    have hzb : (swp e1 x2 a).size = n := (swp_len _ _ _).trans hza
                    clear hsa hka
                    go_wp2_with fail
                    go_ret2
                    refine ⟨x2, true, _, rfl, ?_, HSb.out, HKb.out⟩
                    rw [HP.out, if_pos (by rw [← hx1.out, ← hx2.out]; exact hgt), hx2.out]
                · have hgi : ¬ (x2 : Int) < (x1 : Int) := by omega
                  have hap1 : ¬ x1 = x2 := fun e => by rcases hstop1 with h | h; omega; rcases hstop2 with h' | h'; omega; rw [e, h'] at h; cases h
                  go_upto_region 10 with (fail)
                  go_cut [88] (fun _ wx => SH wx g (swp e1 x1 x2) ∧ Kq g w wx)
                  case first =>
                    obtain ⟨G, hG⟩ : ∃ G : Nat → Int, ∀ t, G t = e1[t]! := ⟨fun t => e1[t]!, fun _ => rfl⟩
                    have hsw := HT2.out.swp (i := x1) (j := x2) (by omega) (by omega)
                    rw [← hG, ← hG] at hsw
                    have HW := Lib.hid hsw
                    have b_u : (x1 : Int) < n := by omega
                    have d_u : (0 : Int) ≤ (x1 : Int) := by omega
                    have c_u := HT2.out.cell (i := x1) (by omega)
                    have f_u := HT2.out.free (i := x1) (by omega)
                    rw [← hG] at c_u
                    have b_v : (x2 : Int) < n := by omega
                    have d_v : (0 : Int) ≤ (x2 : Int) := by omega
                    have c_v := HT2.out.cell (i := x2) (by omega)
                    have f_v := HT2.out.free (i := x2) (by omega)
                    rw [← hG] at c_v
                    clear hsw hG
                    have hne := hap1
                    go_region
                    all_goals go_wp2_with fail
                    all_goals go_meet
                    all_goals exact ⟨HW.out, kq_swp HL2.out _ _ _ _ _⟩
                  case rest =>
                    obtain ⟨hsa, hka⟩ := hcut
                    have HSc := Lib.hid hsa
                    have HKc := Lib.hid hka
                    have hzc : (swp e1 x1 x2).size = n := (swp_len _ _ _).trans hza
                    clear hsa hka
                    obtain ⟨R0, hR0⟩ : ∃ R0, partLoop ltInt a (x1 + 1) (x2 - 1) (swp e1 x1 x2) = R0 := ⟨_, rfl⟩
                    have HR := Lib.hid hR0
                    have HPP := Lib.hid (show partition ltInt d a b p = (R0.1, false, swp R0.2 R0.1 a) from by rw [HP.out, if_neg (by rw [← hx1.out, ← hx2.out]; exact hgt), ← hx1.out, ← hx2.out, hR0])
                    have hlow : a < x1 := hl1
                    clear hR0
                    go_wp2_with fail
                    go_loopw [10, 11] (fun vi vj wr => ∃ (i j : Nat) (e : Array Int), vi = .int .i64 ((i : Nat) : Int) ∧ vj = .int .i64 ((j : Nat) : Int) ∧ a < i ∧ i ≤ b ∧ a ≤ j ∧ j < b ∧ e.size = n ∧ partLoop ltInt a i j e = R0 ∧ SH wr g e ∧ Kq g w wr) (fun vi _ _ => b + 1 - (intOf vi).toNat)
                    case atStart => exact ⟨x1 + 1, x2 - 1, _, by go_num, by congr 1; omega, by omega, by omega, by omega, by omega, hzc, HR.out, HSc.out, HKc.out⟩
                    case round =>
                      obtain ⟨i, j, e, rfl, rfl, hi1, hi2, hj1, hj2, hes, hR, hs, hk⟩ := hrel
                      have HRR := Lib.hid ((partLoop_eq ltInt a i j e).symm.trans hR)
                      have HSe := Lib.hid hs
                      have HKe := Lib.hid hk
                      clear hs hk hR
                      obtain ⟨I2, hI2⟩ : ∃ I2, scanUp (fun y => ltInt y e[a]!) e j i = I2 := ⟨_, rfl⟩
                      obtain ⟨J2, hJ2⟩ : ∃ J2, scanDown (fun y => !ltInt y e[a]!) e I2 j = J2 := ⟨_, rfl⟩
                      rw [hI2, hJ2] at HRR
                      have HI2 := Lib.hid hI2
                      have HJ2 := Lib.hid hJ2
                      clear hI2 hJ2
                      go_wp2_with fail
                      go_loopw [10] (fun vx wr => ∃ x3 : Nat, vx = .int .i64 ((x3 : Nat) : Int) ∧ a < x3 ∧ x3 ≤ b ∧ scanUp (fun y => ltInt y e[a]!) e j x3 = I2 ∧ SH wr g e ∧ Kq g w wr) (fun vx _ => b + 1 - (intOf vx).toNat)
                      case atStart => exact ⟨i, rfl, by omega, by omega, HI2.out, HSe.out, HKe.out⟩
                      case round =>
                        obtain ⟨x3, rfl, hl3, hu3, he3, hs3, hk3⟩ := hrel
                        have HX3 := Lib.hid he3
                        have HS3 := Lib.hid hs3
                        have HK3 := Lib.hid hk3
                        clear he3 hs3 hk3
                        go_upto_region 13 with (fail)
                        go_cut [112] (fun v wx => ∃ B : Bool, v = .bool B ∧ (B = true → x3 ≤ j ∧ ltInt e[x3]! e[a]! = true) ∧ (B = false → ¬ x3 ≤ j ∨ ltInt e[x3]! e[a]! = false) ∧ SH wx g e ∧ Kq g w wx)
                        case first =>
                          obtain ⟨G, hG⟩ : ∃ G : Nat → Int, ∀ t, G t = e[t]! := ⟨fun t => e[t]!, fun _ => rfl⟩
                          have HG := Lib.hid hG
                          by_cases hi : x3 ≤ j
                          · have hii : (x3 : Int) ≤ (j : Int) := by omega
                            have b1 : (x3 : Int) < n := by omega
                            have b2 : (a : Int) < n := by omega
                            have b3 : (0 : Int) ≤ (x3 : Int) := by omega
                            have b4 : (0 : Int) ≤ (a : Int) := by omega
                            have c1 : wr.cell? ⟨g, x3, none⟩ = some (.int .u64 (G x3)) := by rw [hG]; exact HS3.out.cell (by omega)
                            have c2 : wr.cell? ⟨g, a, none⟩ = some (.int .u64 (G a)) := by rw [hG]; exact HS3.out.cell (by omega)
                            clear hG
                            go_big_quiet (first | (go_at_call 182; refine Calls.quiet_of_same (less_u64 _ _ _)))
                            go_wp2_with fail
                            go_meet
                            exact ⟨_, rfl, fun h => ⟨hi, by rw [← HG.out, ← HG.out]; exact h⟩, fun h => .inr (by rw [← HG.out, ← HG.out]; exact h), HS3.out, HK3.out.drewN _⟩
                          · have cb : decide ((x3 : Int) ≤ (j : Int)) = false := decide_eq_false (by omega)
                            clear hG
                            go_big_quiet (fail)
                            go_wp2_with fail
                            go_meet
                            exact ⟨false, rfl, fun h => (by cases h), fun _ => .inl hi, HS3.out, HK3.out.drewN _⟩
                        case rest =>
                          obtain ⟨B, rfl, hBt, hBf, hs2, hk2⟩ := hcut
                          have HT3 := Lib.hid hs2
                          have HL3 := Lib.hid hk2
                          clear hs2 hk2
                          cases B with
                          | true =>
                            obtain ⟨h1, h2⟩ := hBt rfl
                            clear hBt hBf
                            go_wp2_with fail
                            exact ⟨⟨x3 + 1, by go_num, by omega, by omega, by rw [← HX3.out]; exact (up_in h1 h2).symm, HT3.out, HL3.out⟩, by simp [intOf]; omega⟩
                          | false =>
                            have hx3 := Lib.hid (show x3 = I2 from by rw [← HX3.out]; exact (up_end (hBf rfl)).symm)
                            have hstop3 := hBf rfl
                            clear hBt hBf HX3
                            go_wp2_with fail
                            go_loopw [11] (fun vx wr => ∃ x4 : Nat, vx = .int .i64 ((x4 : Nat) : Int) ∧ a ≤ x4 ∧ x4 < b ∧ scanDown (fun y => !ltInt y e[a]!) e x3 x4 = J2 ∧ SH wr g e ∧ Kq g w wr) (fun vx _ => (intOf vx).toNat)
                            case atStart => exact ⟨j, rfl, by omega, by omega, by rw [hx3.out]; exact HJ2.out, HT3.out, HL3.out⟩
                            case round =>
                              obtain ⟨x4, rfl, hl4, hu4, he4, hs4, hk4⟩ := hrel
                              have HX4 := Lib.hid he4
                              have HS4 := Lib.hid hs4
                              have HK4 := Lib.hid hk4
                              clear he4 hs4 hk4
                              go_upto_region 15 with (fail)
                              go_cut [129] (fun v wx => ∃ B : Bool, v = .bool B ∧ (B = true → x3 ≤ x4 ∧ ltInt e[x4]! e[a]! = false) ∧ (B = false → ¬ x3 ≤ x4 ∨ ltInt e[x4]! e[a]! = true) ∧ SH wx g e ∧ Kq g w wx)
                              case first =>
                                obtain ⟨G, hG⟩ : ∃ G : Nat → Int, ∀ t, G t = e[t]! := ⟨fun t => e[t]!, fun _ => rfl⟩
                                have HG := Lib.hid hG
                                by_cases hi : x3 ≤ x4
                                · have hii : (x3 : Int) ≤ (x4 : Int) := by omega
                                  have b1 : (x4 : Int) < n := by omega
                                  have b2 : (a : Int) < n := by omega
                                  have b3 : (0 : Int) ≤ (x4 : Int) := by omega
                                  have b4 : (0 : Int) ≤ (a : Int) := by omega
                                  have c1 : wr.cell? ⟨g, x4, none⟩ = some (.int .u64 (G x4)) := by rw [hG]; exact HS4.out.cell (by omega)
                                  have c2 : wr.cell? ⟨g, a, none⟩ = some (.int .u64 (G a)) := by rw [hG]; exact HS4.out.cell (by omega)
                                  clear hG
                                  go_big_quiet (first | (go_at_call 182; refine Calls.quiet_of_same (less_u64 _ _ _)))
                                  go_wp2_with fail
                                  go_meet
                                  exact ⟨_, rfl, fun h => ⟨hi, by rw [← HG.out, ← HG.out]; simpa using h⟩, fun h => .inr (by rw [← HG.out, ← HG.out]; simpa using h), HS4.out, HK4.out.drewN _⟩
                                · have cb : decide ((x3 : Int) ≤ (x4 : Int)) = false := decide_eq_false (by omega)
                                  clear hG
                                  go_big_quiet (fail)
                                  go_wp2_with fail
                                  go_meet
                                  exact ⟨false, rfl, fun h => (by cases h), fun _ => .inl hi, HS4.out, HK4.out.drewN _⟩
                              case rest =>
                                obtain ⟨B, rfl, hBt, hBf, hs2, hk2⟩ := hcut
                                have HT4 := Lib.hid hs2
                                have HL4 := Lib.hid hk2
                                clear hs2 hk2
                                cases B with
                                | true =>
                                  obtain ⟨h1, h2⟩ := hBt rfl
                                  clear hBt hBf
                                  go_wp2_with fail
                                  exact ⟨⟨x4 - 1, by congr 1; omega, by omega, by omega, by rw [← HX4.out]; exact (down_in (by omega) h1 (by rw [h2]; rfl)).symm, HT4.out, HL4.out⟩, by simp [intOf]; omega⟩
                                | false =>
                                  have hx4 := Lib.hid (show x4 = J2 from by rw [← HX4.out]; exact (down_end ((hBf rfl).imp id (fun h => by rw [h]; rfl))).symm)
                                  have hstop4 := hBf rfl
                                  clear hBt hBf HX4
                                  have h4j : x4 ≤ j := by rw [hx4.out, ← HJ2.out]; exact scanDown_le _ _ _ _
                                  have h3i : i ≤ x3 := by rw [hx3.out, ← HI2.out]; exact scanUp_ge _ _ _ _
                                  by_cases hgt2 : x4 < x3
                                  · have hgi2 : (x4 : Int) < (x3 : Int) := by omega
                                    have hRe : R0 = (x4, e) := by rw [← HRR.out, if_pos (by rw [← hx3.out, ← hx4.out]; exact hgt2), ← hx4.out]
                                    go_upto_region 21 with (fail)
                                    go_cut [160] (fun _ wx => SH wx g (swp e x4 a) ∧ Kq g w wx)
                                    case first =>
                                      obtain ⟨G, hG⟩ : ∃ G : Nat → Int, ∀ t, G t = e[t]! := ⟨fun t => e[t]!, fun _ => rfl⟩
                                      have hsw := HT4.out.swp (i := x4) (j := a) (by omega) (by omega)
                                      rw [← hG, ← hG] at hsw
                                      have HW := Lib.hid hsw
                                      have b_u : (x4 : Int) < n := by omega
                                      have d_u : (0 : Int) ≤ (x4 : Int) := by omega
                                      have c_u := HT4.out.cell (i := x4) (by omega)
                                      have f_u := HT4.out.free (i := x4) (by omega)
                                      rw [← hG] at c_u
                                      have b_v : (a : Int) < n := by omega
                                      have d_v : (0 : Int) ≤ (a : Int) := by omega
                                      have c_v := HT4.out.cell (i := a) (by omega)
                                      have f_v := HT4.out.free (i := a) (by omega)
                                      rw [← hG] at c_v
                                      clear hsw hG
                                      by_cases huv : x4 = a
                                      · go_region
                                        all_goals go_wp2_with fail
                                        all_goals go_meet
                                        all_goals exact ⟨by first | exact HW.out | (rw [huv] at HW ⊢; exact HW.out) | (rw [← huv] at HW ⊢; exact HW.out), kq_swp HL4.out _ _ _ _ _⟩
                                      · go_region
                                        all_goals go_wp2_with fail
                                        all_goals go_meet
                                        all_goals exact ⟨HW.out, kq_swp HL4.out _ _ _ _ _⟩
                                    case rest =>
                                      obtain ⟨hsa, hka⟩ := hcut
                                      have HSf := Lib.hid hsa
                                      have HKf := Lib.hid hka
                                      have hzf : (swp e x4 a).size = n := (swp_len _ _ _).trans hes
                                      clear hsa hka
                                      go_wp2_with fail
                                      go_ret2
                                      exact ⟨x4, false, _, rfl, by rw [HPP.out, hRe], HSf.out, HKf.out⟩
                                  · have hgi2 : ¬ (x4 : Int) < (x3 : Int) := by omega
                                    have hap2 : ¬ x3 = x4 := fun e => by rcases hstop3 with h | h; omega; rcases hstop4 with h' | h'; omega; rw [e, h'] at h; cases h
                                    go_upto_region 18 with (fail)
                                    go_cut [142] (fun _ wx => SH wx g (swp e x3 x4) ∧ Kq g w wx)
                                    case first =>
                                      obtain ⟨G, hG⟩ : ∃ G : Nat → Int, ∀ t, G t = e[t]! := ⟨fun t => e[t]!, fun _ => rfl⟩
                                      have hsw := HT4.out.swp (i := x3) (j := x4) (by omega) (by omega)
                                      rw [← hG, ← hG] at hsw
                                      have HW := Lib.hid hsw
                                      have b_u : (x3 : Int) < n := by omega
                                      have d_u : (0 : Int) ≤ (x3 : Int) := by omega
                                      have c_u := HT4.out.cell (i := x3) (by omega)
                                      have f_u := HT4.out.free (i := x3) (by omega)
                                      rw [← hG] at c_u
                                      have b_v : (x4 : Int) < n := by omega
                                      have d_v : (0 : Int) ≤ (x4 : Int) := by omega
                                      have c_v := HT4.out.cell (i := x4) (by omega)
                                      have f_v := HT4.out.free (i := x4) (by omega)
                                      rw [← hG] at c_v
                                      clear hsw hG
                                      have hne := hap2
                                      go_region
                                      all_goals go_wp2_with fail
                                      all_goals go_meet
                                      all_goals exact ⟨HW.out, kq_swp HL4.out _ _ _ _ _⟩
                                    case rest =>
                                      obtain ⟨hsa, hka⟩ := hcut
                                      have HSh := Lib.hid hsa
                                      have HKh := Lib.hid hka
                                      have hzh : (swp e x3 x4).size = n := (swp_len _ _ _).trans hes
                                      clear hsa hka
                                      go_wp2_with fail
                                      exact ⟨⟨x3 + 1, x4 - 1, _, by go_num, by congr 1; omega, by omega, by omega, by omega, by omega, hzh, by rw [← HRR.out, if_neg (by rw [← hx3.out, ← hx4.out]; exact hgt2), ← hx3.out, ← hx4.out], HSh.out, HKh.out⟩, by simp [intOf]; omega⟩
end Go.Proofs.YtldobcfejldbiaaGreatDoor
