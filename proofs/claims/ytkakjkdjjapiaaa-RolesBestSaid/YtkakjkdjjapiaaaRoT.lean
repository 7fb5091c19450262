/-
  The walk of RolesTells.
-/
import Derived.Test.YtkakjkdjjapiaaaRoW
import Derived.Test.YtkakjkdjjapiaaaRoJ
namespace Go.Proofs.Ytkakjkdjjapiaaa
set_option linter.unusedVariables false
set_option linter.unusedSimpArgs false
open Go.RowKit Vm Rm

theorem run_neSelf (r c b p : Int) (w : World) : Sem.run Try.prog (binOp .neq 28 (vv r c b p) (vv r c b p)) w = .ok (.bool false) w := by
  unfold vv
  go_simp
theorem right8_any (a : Option Addr) (n cap : Nat) (l : List Inf) (R : Bool) (w : World) (h : IRow w a l) (hn : l.length = n) (hl : n ≤ 1000) (hR : Hid (rightR l = R)) :
    Calls Try.prog 10 #[.slice a n cap] w fun e w' => e = .returned (.bool R) ∧ Below w.heap.size w w' := by
  subst hn
  exact right8_w a cap l R w h hl hR
theorem right_any (a : Option Addr) (n cap : Nat) (l : List Inf) (R : Bool) (w : World) (h : IRow w a l) (hn : l.length = n) (hl : n ≤ 1000) (hcap : n ≤ cap) (hR : Hid (rightR l = R)) :
    Calls Try.prog 9 #[.slice a n cap] w fun e w' => e = .returned (.bool R) ∧ Below w.heap.size w w' := by
  subst hn
  exact right_w a cap l R w h hl hcap hR
/-- The cells that the law's round reads. -/
abbrev TCells (w : World) (rb vb g o rg ro og oo k n rcap ocap : Nat) (ρ vr vc br xi : Int) : Prop :=
  w.cell? ⟨rb, 5, none⟩ = some (.slice (some ⟨rg, ro, none⟩) n rcap) ∧ w.cell? ⟨rb, 6, none⟩ = some (.slice (some ⟨og, oo, none⟩) n ocap) ∧ w.cell? ⟨rg, ro + k, none⟩ = some (.int .i64 ρ) ∧
  w.cell? ⟨og, oo + k * 4, none⟩ = some (.int .u64 vr) ∧ w.cell? ⟨og, oo + k * 4 + 1, none⟩ = some (.int .u64 vc) ∧ w.cell? ⟨og, oo + k * 4 + 2, none⟩ = some (.int .u64 br) ∧ w.cell? ⟨og, oo + k * 4 + 3, none⟩ = some (.int .u64 xi) ∧
  w.cell? ⟨vb, 0, none⟩ = some (.int .u64 vr) ∧ w.cell? ⟨vb, 1, none⟩ = some (.int .u64 vc) ∧ w.cell? ⟨g, o + k * 7, none⟩ = some (.int .u64 xi)

set_option maxRecDepth 20000 in
set_option maxHeartbeats 1000000 in
theorem tells_any (br : Int) (a : Option Addr) (cap : Nat) (l : List Inf) (w : World) (hbr : u64B br) (hcap : l.length ≤ cap) (h : IRow w a l) :
    Calls Try.prog 3 #[.int .u64 br, .slice a l.length cap] w fun e w' => e = .returned (.bool true) ∧ Below w.heap.size w w' := by
  obtain ⟨n, hn⟩ : ∃ n, l.length = n := ⟨_, rfl⟩
  have HA := Lib.hid h
  have HN := Lib.hid hn
  have HBR := Lib.hid hbr
  by_cases h40 : 40 < n
  · rw [hn]
    clear h hn hbr hcap
    go_enter Try.func3, Try.ntmps3
    go_wp2_with (go_at_call 6; refine (awake_any _).mono ?_; rintro e w1 ⟨rfl, hb1⟩)
    go_ret
    exact ⟨rfl, hb1⟩
  obtain ⟨R, hR⟩ : ∃ R, rightR l = R := ⟨_, rfl⟩
  have HRR := Lib.hid hR
  cases R with
  | false =>
    have CS := Lib.hid (fun w' (hb : Below w.heap.size w w') => select_bad br a cap l w' (h.next hb) (by omega) hcap HRR)
    rw [hn] at CS hcap ⊢
    clear h hn hbr hR
    go_enter Try.func3, Try.ntmps3
    go_wp2_with (go_at_call 6; refine (awake_any _).mono ?_; rintro e w1 ⟨rfl, hb1⟩)
    have hpw := of_w a n cap l w1 (HA.out.next hb1) HN.out (by omega)
    refine hpw.mono ?_
    clear hpw
    rintro e w2 ⟨a', cap', rfl, hr2, hb2⟩
    have B2 := bw_trans hb1 hb2
    have HR2 := Lib.hid hr2
    clear hb1 hb2 hr2
    go_wp2_with fail
    refine (CS.out _ B2).mono ?_
    clear CS
    rintro e w3 ⟨rfl, hb3⟩
    have B3 := bw_alloc (bw_trans B2 hb3) (.cells #[.int .u64 0, .int .u64 0, .int .u64 0, .int .u64 0, .int .i64 0, .slice none 0 0, .slice none 0 0] 32)
    have HR3 := Lib.hid ((HR2.out.next hb3).next (below_box _ (.cells #[.int .u64 0, .int .u64 0, .int .u64 0, .int .u64 0, .int .i64 0, .slice none 0 0, .slice none 0 0] 32)))
    have RB := rblk_new w3 0 0 0 0 0 (.slice none 0 0) (.slice none 0 0)
    clear hb3 B2
    go_wp2_with fail
    obtain ⟨W, hW⟩ : ∃ W, W = w3.alloc (.cells #[.int .u64 0, .int .u64 0, .int .u64 0, .int .u64 0, .int .i64 0, .slice none 0 0, .slice none 0 0] 32) := ⟨_, rfl⟩
    rw [← hW] at B3 HR3 RB ⊢
    clear hW
    have hpw := right_any a n cap l false W (HA.out.next B3) HN.out (by omega) hcap HRR
    refine hpw.mono ?_
    clear hpw
    rintro e w4 ⟨rfl, hb4⟩
    replace HR3 := Lib.hid (HR3.out.next hb4)
    replace B3 := bw_trans B3 hb4
    replace RB := RB.next hb4
    clear hb4
    go_wp2_with fail
    have hpw := right8_any a' n cap' l false w4 HR3.out HN.out (by omega) HRR
    refine hpw.mono ?_
    clear hpw
    rintro e w5 ⟨rfl, hb5⟩
    replace HR3 := Lib.hid (HR3.out.next hb5)
    replace B3 := bw_trans B3 hb5
    replace RB := RB.next hb5
    clear hb5
    go_wp2_with fail
    have hpw := right8_any a' n cap' l false w5 HR3.out HN.out (by omega) HRR
    refine hpw.mono ?_
    clear hpw
    rintro e w6 ⟨rfl, hb6⟩
    replace B3 := bw_trans B3 hb6
    replace RB := RB.next hb6
    clear hb6
    obtain ⟨k0, k1, k2, k3, k4, k5, k6⟩ := RB.cells
    go_wp2
    go_ret
    exact ⟨rfl, B3⟩
  | true =>
    obtain ⟨⟨vr, vc, vb, vp⟩, hv⟩ : ∃ v, rootV br l = v := ⟨_, rfl⟩
    obtain ⟨P, hP⟩ : ∃ P, portI (rootP br l) = P := ⟨_, rfl⟩
    have HV := Lib.hid hv
    have HP := Lib.hid hP
    have CS := Lib.hid (fun w' (hb : Below w.heap.size w w') => select_ok br a cap l vr vc vb vp P w' hbr (h.next hb) hcap HRR HV HP)
    rw [hn] at CS hcap ⊢
    clear h hn hbr hR hv hP
    go_enter Try.func3, Try.ntmps3
    go_wp2_with (go_at_call 6; refine (awake_any _).mono ?_; rintro e w1 ⟨rfl, hb1⟩)
    have hpw := of_w a n cap l w1 (HA.out.next hb1) HN.out (by omega)
    refine hpw.mono ?_
    clear hpw
    rintro e w2 ⟨a', cap', rfl, hr2, hb2⟩
    have B2 := bw_trans hb1 hb2
    have HR2 := Lib.hid hr2
    clear hb1 hb2 hr2
    go_wp2_with fail
    refine (CS.out _ B2).mono ?_
    clear CS
    rintro e w3 ⟨ra, oa, rcap, ocap, rfl, hnr, hvr, hb3⟩
    have bA := below_box w3 (.cells #[.int .u64 vr, .int .u64 vc, .int .u64 vb, .int .u64 vp, .int .i64 P, .slice ra n rcap, .slice oa n ocap] 32)
    have B3 := bw_trans (bw_trans B2 hb3) bA
    have HR3 := Lib.hid ((HR2.out.next hb3).next bA)
    have HNR := Lib.hid (hnr.next bA)
    have HVR := Lib.hid (hvr.next bA)
    have RB := rblk_new w3 vr vc vb vp P (.slice ra n rcap) (.slice oa n ocap)
    obtain ⟨rb, hrb⟩ : ∃ rb, rb = w3.heap.size := ⟨_, rfl⟩
    clear hb3 B2 hnr hvr bA
    go_wp2_with fail
    obtain ⟨W, hW⟩ : ∃ W, W = w3.alloc (.cells #[.int .u64 vr, .int .u64 vc, .int .u64 vb, .int .u64 vp, .int .i64 P, .slice ra n rcap, .slice oa n ocap] 32) := ⟨_, rfl⟩
    rw [← hW] at B3 HR3 HNR HVR RB ⊢
    rw [← hrb] at RB ⊢
    clear hW hrb
    have hpw := right_any a n cap l true W (HA.out.next B3) HN.out (by omega) hcap HRR
    refine hpw.mono ?_
    clear hpw
    rintro e w4 ⟨rfl, hb4⟩
    go_wp2_with fail
    have hpw := right8_any a' n cap' l true w4 (HR3.out.next hb4) HN.out (by omega) HRR
    refine hpw.mono ?_
    clear hpw
    rintro e w5 ⟨rfl, hb5⟩
    have b5 := bw_trans hb4 hb5
    clear hb4 hb5
    go_wp2_with fail
    have hpw := right8_any a' n cap' l true w5 (HR3.out.next b5) HN.out (by omega) HRR
    refine hpw.mono ?_
    clear hpw
    rintro e w6 ⟨rfl, hb6⟩
    have b6 := bw_trans b5 hb6
    clear b5 hb6
    go_wp2_with fail
    have hpw := root8_w br a' n cap' l vr vc vb vp P w6 HBR.out (HR3.out.next b6) HN.out (by omega) HV HP
    refine hpw.mono ?_
    clear hpw
    rintro e w7 ⟨rfl, hb7⟩
    have b7 := bw_trans b6 hb7
    have b8 := bw_alloc b7 (.cells #[.int .u64 vr, .int .u64 vc, .int .u64 vb, .int .u64 vp] 28)
    have VB := blk_new 28 w7 vr vc vb vp
    obtain ⟨xb, hxb⟩ : ∃ xb, xb = w7.heap.size := ⟨_, rfl⟩
    replace B3 := bw_trans B3 b8
    replace HR3 := Lib.hid (HR3.out.next b8)
    replace HNR := Lib.hid (HNR.out.next b8)
    replace HVR := Lib.hid (HVR.out.next b8)
    replace RB := RB.next b8
    clear b6 b7 hb7 b8
    go_upto_region 12 with (fail)
    obtain ⟨Y, hY⟩ : ∃ Y, Y = w7.alloc (.cells #[.int .u64 vr, .int .u64 vc, .int .u64 vb, .int .u64 vp] 28) := ⟨_, rfl⟩
    rw [← hY] at B3 HR3 HNR HVR RB VB ⊢
    rw [← hxb] at VB ⊢
    clear hY hxb
    have HRB := Lib.hid RB
    have HVB := Lib.hid VB
    have HB3 := Lib.hid B3
    obtain ⟨k0, k1, k2, k3, k4, k5, k6⟩ := RB.cells
    obtain ⟨m0, m1, m2, m3⟩ := VB.cells
    have lr := RB.lt
    have lv := VB.lt
    clear RB VB B3
    have hq := run_neSelf vr vc vb vp
    go_wp2_with fail
    clear k0 k1 k2 k3 k4 k5 k6 m0 m1 m2 m3 lr lv hq
    go_loopw [10] (fun v wr => ∃ k : Nat, k ≤ n ∧ v = .int .i64 (k : Nat) ∧ Below Y.heap.size Y wr) (fun v _ => n - (intOf v).toNat)
    case atStart => exact ⟨0, Nat.zero_le _, rfl, Below.refl _ _⟩
    case round =>
      obtain ⟨k, hk, rfl, hG⟩ := hrel
      by_cases hkl : k < n
      · obtain ⟨⟨xi, xc, xs, ⟨r, q, b, p⟩⟩, hx⟩ := at_some (l := l) (k := k) (by rw [HN.out]; exact hkl)
        obtain ⟨ρ, hρ⟩ : ∃ ρ, roleAt br l k ⟨xi, xc, xs, ⟨r, q, b, p⟩⟩ = ρ := ⟨_, rfl⟩
        have hInf := right_each HRR.out (List.mem_of_getElem? hx)
        have CT := Lib.hid (fun w' (hb : Below Y.heap.size Y w') => role8_w br a' n cap' k l _ ρ w' HBR.out (HR3.out.next hb) HN.out (by omega) hx hInf (Lib.hid hρ))
        obtain ⟨rg, ro, rfl, lg, c0⟩ := (HNR.out.next hG).at_ k ρ (by rw [rolesN_at hx n (by rw [HN.out]; exact Nat.le_refl _) hkl, hρ])
        obtain ⟨og, oo, rfl, lo, d0, d1, d2, d3⟩ := (HVR.out.next hG).at_ k _ (offers_at hx)
        obtain ⟨g, o, rfl, lx, x7⟩ := ((HA.out.next HB3.out).next hG).at_ k _ hx
        have x0 := x7.1
        clear x7
        unfold offerR at d0 d1 d2 d3
        rw [HV.out] at d0 d1 d2 d3
        simp only at d0 d1 d2 d3 x0
        have hki : (k : Int) < n := by omega
        have k5 := (HRB.out.next hG).cells.2.2.2.2.2.1
        have k6 := (HRB.out.next hG).cells.2.2.2.2.2.2
        have m0 := (HVB.out.next hG).cells.1
        have m1 := (HVB.out.next hG).cells.2.1
        have lr := (HRB.out.next hG).lt
        have lv := (HVB.out.next hG).lt
        have hq := run_neSelf vr vc br xi
        have S0 : TCells wr rb xb g o rg ro og oo k n rcap ocap ρ vr vc br xi := ⟨k5, k6, c0, d0, d1, d2, d3, m0, m1, x0⟩
        have KT := Lib.hid (fun (w' : World) (hb : Below wr.heap.size wr w') => show TCells w' rb xb g o rg ro og oo k n rcap ocap ρ vr vc br xi from
          ⟨(hb.cell (p := ⟨rb, 5, none⟩) lr).trans k5, (hb.cell (p := ⟨rb, 6, none⟩) lr).trans k6, (hb.cell (p := ⟨rg, ro + k, none⟩) lg).trans c0, (hb.cell (p := ⟨og, oo + k * 4, none⟩) lo).trans d0, (hb.cell (p := ⟨og, oo + k * 4 + 1, none⟩) lo).trans d1, (hb.cell (p := ⟨og, oo + k * 4 + 2, none⟩) lo).trans d2, (hb.cell (p := ⟨og, oo + k * 4 + 3, none⟩) lo).trans d3, (hb.cell (p := ⟨xb, 0, none⟩) lv).trans m0, (hb.cell (p := ⟨xb, 1, none⟩) lv).trans m1, (hb.cell (p := ⟨g, o + k * 7, none⟩) lx).trans x0⟩)
        clear k5 k6 c0 d0 d1 d2 d3 m0 m1 x0 hx hρ hInf
        have CT2 := Lib.hid (CT.out wr.drew hG.drew)
        clear CT
        go_upto_region 17 with (fail)
        obtain ⟨s0, s1, s2, s3, s4, s5, s6, s7, s8, s9⟩ := id S0
        go_region_held3 (fun w' => TCells w' rb xb g o rg ro og oo k n rcap ocap ρ vr vc br xi) (first | exact S0 | exact T0) (first | (go_at_call 12; (with_reducible refine CT2.out.mono ?_); rintro e y0 ⟨rfl, hb0⟩; have b0 := ((Below.refl wr.heap.size wr).drew).trans hb0; have T0 := KT.out y0 b0))
        all_goals go_wp2_with fail
        all_goals exact ⟨⟨k + 1, by omega, by go_num, hG.trans (b0.mono hG.size)⟩, by simp [intOf]; omega⟩
      · obtain rfl : k = n := by omega
        go_wp2
        go_ret
        exact ⟨rfl, bw_trans HB3.out hG⟩
end Go.Proofs.Ytkakjkdjjapiaaa
