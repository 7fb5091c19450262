/-
  The walk of RolesBest.
-/
import Derived.Test.YtkakjkdjjapiaaaRoT
namespace Go.Proofs.Ytkakjkdjjapiaaa
set_option linter.unusedVariables false
set_option linter.unusedSimpArgs false
open Go.RowKit Vm Rm

/-- The cells that the law's round reads. -/
abbrev BCells (w : World) (rb pb rg ro og oo k n rcap ocap : Nat) (ρ vr vc vb vp P br xi xc xs r q b p : Int) : Prop :=
  (w.cell? ⟨rb, 0, none⟩ = some (.int .u64 vr) ∧ w.cell? ⟨rb, 1, none⟩ = some (.int .u64 vc) ∧ w.cell? ⟨rb, 2, none⟩ = some (.int .u64 vb) ∧ w.cell? ⟨rb, 3, none⟩ = some (.int .u64 vp) ∧ w.cell? ⟨rb, 4, none⟩ = some (.int .i64 P) ∧ w.cell? ⟨rb, 5, none⟩ = some (.slice (some ⟨rg, ro, none⟩) n rcap) ∧ w.cell? ⟨rb, 6, none⟩ = some (.slice (some ⟨og, oo, none⟩) n ocap)) ∧
  (w.cell? ⟨pb, 0, none⟩ = some (.int .u64 xi) ∧ w.cell? ⟨pb, 1, none⟩ = some (.int .u64 xc) ∧ w.cell? ⟨pb, 2, none⟩ = some (.int .i64 xs) ∧ w.cell? ⟨pb, 3, none⟩ = some (.int .u64 r) ∧ w.cell? ⟨pb, 4, none⟩ = some (.int .u64 q) ∧ w.cell? ⟨pb, 5, none⟩ = some (.int .u64 b) ∧ w.cell? ⟨pb, 6, none⟩ = some (.int .u64 p)) ∧
  (w.cell? ⟨rg, ro + k, none⟩ = some (.int .i64 ρ) ∧ w.cell? ⟨og, oo + k * 4, none⟩ = some (.int .u64 vr) ∧ w.cell? ⟨og, oo + k * 4 + 1, none⟩ = some (.int .u64 vc) ∧ w.cell? ⟨og, oo + k * 4 + 2, none⟩ = some (.int .u64 br) ∧ w.cell? ⟨og, oo + k * 4 + 3, none⟩ = some (.int .u64 xi))
/-- The cells of the result's block. -/
abbrev RCells (w : World) (rb : Nat) (vr vc vb vp P : Int) (rs os : Value) : Prop :=
  w.cell? ⟨rb, 0, none⟩ = some (.int .u64 vr) ∧ w.cell? ⟨rb, 1, none⟩ = some (.int .u64 vc) ∧ w.cell? ⟨rb, 2, none⟩ = some (.int .u64 vb) ∧ w.cell? ⟨rb, 3, none⟩ = some (.int .u64 vp) ∧ w.cell? ⟨rb, 4, none⟩ = some (.int .i64 P) ∧ w.cell? ⟨rb, 5, none⟩ = some rs ∧ w.cell? ⟨rb, 6, none⟩ = some os

theorem roots_le (o : Option Nat) (k : Nat) : rootsN o k ≤ 1 := by
  cases o with
  | none => exact Nat.zero_le _
  | some i => show (if i < k then 1 else 0) ≤ 1; split <;> omega

set_option maxRecDepth 20000 in
set_option maxHeartbeats 2000000 in
theorem best_any (br : Int) (a : Option Addr) (cap : Nat) (l : List Inf) (w : World) (hbr : u64B br) (hcap : l.length ≤ cap) (h : IRow w a l) :
    Calls Try.prog 4 #[.int .u64 br, .slice a l.length cap] w fun e w' => e = .returned (.bool true) ∧ Below w.heap.size w w' := by
  obtain ⟨n, hn⟩ : ∃ n, l.length = n := ⟨_, rfl⟩
  have HA := Lib.hid h
  have HN := Lib.hid hn
  have HBR := Lib.hid hbr
  by_cases h40 : 40 < n
  · rw [hn]
    clear h hn hbr hcap
    go_enter Try.func4, Try.ntmps4
    go_wp2_with (go_at_call 6; refine (awake_any _).mono ?_; rintro e w1 ⟨rfl, hb1⟩)
    go_ret
    exact ⟨rfl, hb1⟩
  obtain ⟨R, hR⟩ : ∃ R, rightR l = R := ⟨_, rfl⟩
  have HRR := Lib.hid hR
  cases R with
  | false =>
    have CR := Lib.hid (fun w' (hb : Below w.heap.size w w') => right_any a n cap l false w' (h.next hb) hn (by omega) (by omega) HRR)
    rw [hn]
    clear h hn hbr hR hcap
    go_enter Try.func4, Try.ntmps4
    go_wp2_with (go_at_call 6; refine (awake_any _).mono ?_; rintro e w1 ⟨rfl, hb1⟩)
    refine (CR.out _ hb1).mono ?_
    rintro e w2 ⟨rfl, hb2⟩
    go_wp2
    go_ret
    exact ⟨rfl, bw_trans hb1 hb2⟩
  | true =>
    obtain ⟨⟨vr, vc, vb, vp⟩, hv⟩ : ∃ v, rootV br l = v := ⟨_, rfl⟩
    obtain ⟨P, hP⟩ : ∃ P, portI (rootP br l) = P := ⟨_, rfl⟩
    have HV := Lib.hid hv
    have HP := Lib.hid hP
    have CR := Lib.hid (fun w' (hb : Below w.heap.size w w') => right_any a n cap l true w' (h.next hb) hn (by omega) (by omega) HRR)
    have CS := Lib.hid (fun w' (hb : Below w.heap.size w w') => select_ok br a cap l vr vc vb vp P w' hbr (h.next hb) hcap HRR HV HP)
    have hroot := root_is br l
    rw [hv] at hroot
    obtain ⟨X, hX⟩ : ∃ X, cmpR (mineR br) ⟨vr, vc, vb, vp⟩ = X := ⟨_, rfl⟩
    have hX0 : decide (X < 0) = false := decide_eq_false (by have := hroot.own; have := cmp_neg (mineR br) ⟨vr, vc, vb, vp⟩; omega)
    obtain ⟨E, hE⟩ : ∃ E, decide ((⟨vr, vc, vb, vp⟩ : Vc) = ⟨br, 0, br, 0⟩) = E := ⟨_, rfl⟩
    have hPE : decide (P < 0) = E := by
      rw [← hE, ← hP]
      refine decide_eq_decide.2 (portI_neg.trans (rootP_none.trans ?_))
      rw [hv]
      exact Iff.rfl
    have HROOT := Lib.hid hroot
    have CX := Lib.hid (fun w' => compare_w br 0 br 0 vr vc vb vp X w' (Lib.hid hX))
    have hq := run_vcEq vr vc vb vp br 0 br 0
    rw [hE] at hq
    rw [hn] at CS hcap ⊢
    clear h hn hbr hR hv hP hroot hX hE
    go_enter Try.func4, Try.ntmps4
    go_wp2_with (go_at_call 6; refine (awake_any _).mono ?_; rintro e w1 ⟨rfl, hb1⟩)
    refine (CR.out _ hb1).mono ?_
    rintro e w2 ⟨rfl, hb2⟩
    have B2 := bw_trans hb1 hb2
    clear hb1 hb2 CR
    go_wp2_with fail
    refine (CS.out _ B2).mono ?_
    clear CS
    rintro e w3 ⟨ra, oa, rcap, ocap, rfl, hnr, hvr, hb3⟩
    have bA := below_box w3 (.cells #[.int .u64 vr, .int .u64 vc, .int .u64 vb, .int .u64 vp, .int .i64 P, .slice ra n rcap, .slice oa n ocap] 32)
    have B3 := bw_trans (bw_trans B2 hb3) bA
    have HNR := Lib.hid (hnr.next bA)
    have HVR := Lib.hid (hvr.next bA)
    have RB := rblk_new w3 vr vc vb vp P (.slice ra n rcap) (.slice oa n ocap)
    obtain ⟨rb, hrb⟩ : ∃ rb, rb = w3.heap.size := ⟨_, rfl⟩
    clear hb3 B2 hnr hvr bA
    go_upto_region 6 with (fail)
    obtain ⟨W, hW⟩ : ∃ W, W = w3.alloc (.cells #[.int .u64 vr, .int .u64 vc, .int .u64 vb, .int .u64 vp, .int .i64 P, .slice ra n rcap, .slice oa n ocap] 32) := ⟨_, rfl⟩
    rw [← hW] at B3 HNR HVR RB ⊢
    rw [← hrb] at RB ⊢
    clear hW hrb
    have HRB := Lib.hid RB
    have HB3 := Lib.hid B3
    have lr := RB.lt
    have S0 : RCells W rb vr vc vb vp P (.slice ra n rcap) (.slice oa n ocap) := RB.cells
    obtain ⟨s0, s1, s2, s3, s4, s5, s6⟩ := id S0
    have KR := Lib.hid (fun (w' : World) (hb : Below W.heap.size W w') => show RCells w' rb vr vc vb vp P (.slice ra n rcap) (.slice oa n ocap) from (HRB.out.next hb).cells)
    have M0 := Lib.hid (mine_w br W.drew)
    clear RB B3
    go_region_held3 (fun w' => RCells w' rb vr vc vb vp P (.slice ra n rcap) (.slice oa n ocap)) (first | exact S0 | exact T0 | exact T1 | exact T2) (first
      | (go_at_call 14; (with_reducible refine M0.out.mono ?_); rintro e y0 ⟨rfl, hb0⟩; have b0 := ((Below.refl W.heap.size W).drew).trans hb0; have T0 := KR.out y0 b0)
      | (go_at_call 13; (with_reducible refine (CX.out y0).mono ?_); rintro e y1 ⟨rfl, hb1⟩; have b1 := bw_trans b0 hb1; have T1 := KR.out y1 b1)
      | (go_at_call 14; (with_reducible refine (mine_w br y1).mono ?_); rintro e y2 ⟨rfl, hb2⟩; have b2 := bw_trans b1 hb2; have T2 := KR.out y2 b2))
    have HNR2 := Lib.hid (HNR.out.next b2)
    have HVR2 := Lib.hid (HVR.out.next b2)
    have HRB2 := Lib.hid (HRB.out.next b2)
    have HB4 := Lib.hid (bw_trans HB3.out b2)
    clear b0 b1 b2 hb0 hb1 hb2 T0 T1 T2 S0 s0 s1 s2 s3 s4 s5 s6 KR M0 CX hq hX0 lr HNR HVR HRB HB3
    go_wp2_with fail
    go_loopw [7, 8] (fun o v wr => ∃ k : Nat, k ≤ n ∧ v = .int .i64 (k : Nat) ∧ o = .int .i64 (rootsN (rootP br l) k : Nat) ∧ Below y2.heap.size y2 wr) (fun _ v _ => n - (intOf v).toNat)
    case atStart => exact ⟨0, Nat.zero_le _, rfl, by rw [roots_zero]; rfl, Below.refl _ _⟩
    case round =>
      obtain ⟨k, hk, rfl, rfl, hG⟩ := hrel
      by_cases hkl : k < n
      · obtain ⟨⟨xi, xc, xs, ⟨r, q, b, p⟩⟩, hx⟩ := at_some (l := l) (k := k) (by rw [HN.out]; exact hkl)
        obtain ⟨ρ, hρ⟩ : ∃ ρ, roleAt br l k ⟨xi, xc, xs, ⟨r, q, b, p⟩⟩ = ρ := ⟨_, rfl⟩
        have hInf := right_each HRR.out (List.mem_of_getElem? hx)
        have ok := HA.out.rng _ (List.mem_of_getElem? hx)
        have hrn := roots_next (rootP br l) k
        obtain ⟨rg, ro, rfl, lg, c0⟩ := (HNR2.out.next hG).at_ k ρ (by rw [rolesN_at hx n (by rw [HN.out]; exact Nat.le_refl _) hkl, hρ])
        obtain ⟨og, oo, rfl, lo, d0, d1, d2, d3⟩ := (HVR2.out.next hG).at_ k _ (offers_at hx)
        obtain ⟨g, o, rfl, lx, x0, x1, x2, x3, x4, x5, x6⟩ := ((HA.out.next HB4.out).next hG).at_ k _ hx
        unfold offerR at d0 d1 d2 d3
        rw [HV.out] at d0 d1 d2 d3
        simp only at d0 d1 d2 d3 x0 x1 x2 x3 x4 x5 x6
        have hki : (k : Int) < n := by omega
        obtain ⟨O, hO⟩ : ∃ O, ownB ⟨r, q, b, p⟩ br = O := ⟨_, rfl⟩
        have hO1 : (b % 281474976710656 == br % 281474976710656) = O := hO
        have hO3 : (b.tmod 281474976710656 == br.tmod 281474976710656) = O := by
          rw [Int.tmod_eq_emod_of_nonneg ok.vec.b.1, Int.tmod_eq_emod_of_nonneg HBR.out.1]
          exact hO1
        clear hO1
        have hRI := role_is br ⟨vr, vc, vb, vp⟩ (decide (rootP br l = some k)) ⟨xi, xc, xs, ⟨r, q, b, p⟩⟩ (inf_source hInf).1 (inf_source hInf).2
        have hρ' : roleR br ⟨vr, vc, vb, vp⟩ (decide (rootP br l = some k)) ⟨xi, xc, xs, ⟨r, q, b, p⟩⟩ = ρ := by rw [← hρ, roleAt, HV.out]
        rw [hρ'] at hRI
        obtain ⟨M, hM⟩ : ∃ M, rootsN (rootP br l) k = M := ⟨_, rfl⟩
        have hM1 : M ≤ 1 := by rw [← hM]; exact roots_le _ _
        rw [hM] at hrn ⊢
        have HOK := Lib.hid ok
        clear hρ hρ' hM ok
        go_upto_region 13 with (fail)
        obtain ⟨pb, hpb⟩ : ∃ pb, pb = wr.heap.size := ⟨_, rfl⟩
        obtain ⟨W2, hW2⟩ : ∃ W2, W2 = wr.alloc (.cells #[.int .u64 xi, .int .u64 xc, .int .i64 xs, .int .u64 r, .int .u64 q, .int .u64 b, .int .u64 p] 42) := ⟨_, rfl⟩
        have hK : IBlk 42 W2 pb xi xc xs r q b p := by rw [hW2, hpb]; exact iblk_new _ wr xi xc xs r q b p
        have bW : Below wr.heap.size wr W2 := by rw [hW2]; exact below_box _ _
        have bW2 := bw_trans hG bW
        have HK := Lib.hid hK
        have HR4 := Lib.hid (HRB2.out.next bW2)
        have HL := Lib.hid (And.intro lg (And.intro lo (And.intro c0 (And.intro d0 (And.intro d1 (And.intro d2 d3))))))
        have KT := Lib.hid (fun (w' : World) (hb : Below W2.heap.size W2 w') => show BCells w' rb pb rg ro og oo k n rcap ocap ρ vr vc vb vp P br xi xc xs r q b p from by
          have b' := bw_trans bW hb
          obtain ⟨lg, lo, c0, d0, d1, d2, d3⟩ := HL.out
          exact ⟨(HR4.out.next hb).cells, (HK.out.next hb).cells, (b'.cell (p := ⟨rg, ro + k, none⟩) lg).trans c0, (b'.cell (p := ⟨og, oo + k * 4, none⟩) lo).trans d0, (b'.cell (p := ⟨og, oo + k * 4 + 1, none⟩) lo).trans d1, (b'.cell (p := ⟨og, oo + k * 4 + 2, none⟩) lo).trans d2, (b'.cell (p := ⟨og, oo + k * 4 + 3, none⟩) lo).trans d3⟩)
        have HGW := Lib.hid bW2
        rw [← hW2, ← hpb]
        clear hW2 hpb hK bW bW2 x0 x1 x2 x3 x4 x5 x6 lx c0 d0 d1 d2 d3 lg lo hG
        have S0 := KT.out W2 (Below.refl _ _)
        obtain ⟨⟨s0, s1, s2, s3, s4, s5, s6⟩, ⟨t0, t1, t2, t3, t4, t5, t6⟩, u0, e0, e1, e2, e3⟩ := id S0
        clear HNR2 HVR2 HRB2 HL HR4 HK
        have HX := Lib.hid hx
        have HIN := Lib.hid hInf
        clear hx hInf
        cases hRI with
        | off h0 =>
          have hnp : ¬ rootP br l = some k := fun e => by have h3 := (rootP_way e HX.out).1; simp only at h0 h3; omega
          have HRN := Lib.hid (hrn.trans (by rw [if_neg hnp, Nat.add_zero]))
          simp only at h0
          subst h0
          clear hnp hrn
          go_wp2_with fail
          go_quiet (fail)
          obtain ⟨Z, hZ⟩ : ∃ Z, Z = W2.drewN nq := ⟨_, rfl⟩
          have bZ : Below W2.heap.size W2 Z := by rw [hZ]; exact below_drewN (Below.refl _ _) _
          rw [← hZ]
          clear hZ S0 s0 s1 s2 s3 s4 s5 s6 t0 t1 t2 t3 t4 t5 t6 u0 e0 e1 e2 e3
          have SZ := KT.out Z bZ
          obtain ⟨⟨s0, s1, s2, s3, s4, s5, s6⟩, ⟨t0, t1, t2, t3, t4, t5, t6⟩, u0, e0, e1, e2, e3⟩ := id SZ
          go_wp2_with fail
          exact ⟨⟨k + 1, by omega, by go_num, by rw [HRN.out], bw_trans HGW.out (bZ)⟩, by simp [intOf]; omega⟩
        | mid h0 h3 =>
          have hnp : ¬ rootP br l = some k := fun e => by have h3' := (rootP_way e HX.out).1; simp only at h3 h3'; omega
          have HRN := Lib.hid (hrn.trans (by rw [if_neg hnp, Nat.add_zero]))
          simp only at h0 h3
          have z0 : (xs == 0) = false := beq_eq_false_iff_ne.2 h0
          have z3 : (xs == 3) = false := beq_eq_false_iff_ne.2 (by omega)
          clear hnp hrn h0 h3
          go_wp2_with fail
          go_quiet (fail)
          obtain ⟨Z, hZ⟩ : ∃ Z, Z = W2.drewN nq := ⟨_, rfl⟩
          have bZ : Below W2.heap.size W2 Z := by rw [hZ]; exact below_drewN (Below.refl _ _) _
          rw [← hZ]
          clear hZ S0 s0 s1 s2 s3 s4 s5 s6 t0 t1 t2 t3 t4 t5 t6 u0 e0 e1 e2 e3
          have SZ := KT.out Z bZ
          obtain ⟨⟨s0, s1, s2, s3, s4, s5, s6⟩, ⟨t0, t1, t2, t3, t4, t5, t6⟩, u0, e0, e1, e2, e3⟩ := id SZ
          go_wp2_with fail
          go_quiet (fail)
          go_wp2_with fail
          exact ⟨⟨k + 1, by omega, by go_num, by rw [HRN.out], bw_trans HGW.out (below_drewN bZ _)⟩, by simp [intOf]; omega⟩
        | root h3 hp =>
          have hpk : rootP br l = some k := of_decide_eq_true hp
          have HRN := Lib.hid (hrn.trans (by rw [if_pos hpk]))
          have hrw := rootP_way hpk HX.out
          have hPk : P = (k : Int) := by rw [← HP.out, hpk]; rfl
          have hOf : O = false := by rw [← hO]; exact hrw.2.1
          simp only at h3
          subst h3
          subst hOf
          subst hPk
          have HRW := Lib.hid hrw
          clear hrn hp hrw hpk
          obtain ⟨C, hC⟩ : ∃ C, (raiseR ⟨r, q, b, p⟩ xc).cost = C := ⟨_, rfl⟩
          have hwy : wayR br ⟨xi, xc, 3, ⟨r, q, b, p⟩⟩ = some ⟨r, C, b, p⟩ := (way_of rfl hO).trans (by rw [← hC]; rfl)
          obtain ⟨X4, hX4⟩ : ∃ X4, cmpR ⟨r, C, b, p⟩ ⟨vr, vc, vb, vp⟩ = X4 := ⟨_, rfl⟩
          have hX5 : decide (X4 < 0) = false := decide_eq_false (by
            have h1 := HROOT.out.way _ (List.mem_of_getElem? HX.out) _ hwy
            have h2 := cmp_neg (⟨r, C, b, p⟩ : Vc) ⟨vr, vc, vb, vp⟩
            omega)
          have CR := Lib.hid (fun w' => raise_w r q b p xc C w' (Lib.hid hC) HOK.out.vec.c HOK.out.cost)
          have CX := Lib.hid (fun w' => compare_w r C b p vr vc vb vp X4 w' (Lib.hid hX4))
          have HWY := Lib.hid hwy
          have HC := Lib.hid hC
          clear hC hwy hX4
          go_upto_region 14 with (fail)
          go_region_held3 (fun w' => BCells w' rb pb rg ro og oo k n rcap ocap 1 vr vc vb vp (k : Int) br xi xc 3 r q b p) (first | exact S0 | exact T3 | exact T4) (first
            | (go_at_call 15; (with_reducible refine (CR.out W2.drew).mono ?_); rintro e y3 ⟨rfl, hb3⟩; have b3 := ((Below.refl W2.heap.size W2).drew).trans hb3; have T3 := KT.out y3 b3)
            | (go_at_call 13; (with_reducible refine (CX.out y3).mono ?_); rintro e Z ⟨rfl, hb4⟩; have bZ := bw_trans b3 hb4; have T4 := KT.out Z bZ))
          clear S0 s0 s1 s2 s3 s4 s5 s6 t0 t1 t2 t3 t4 t5 t6 u0 e0 e1 e2 e3 T3 T4 b3 hb3 hb4 CX hX5
          have hVe : (⟨vr, vc, vb, vp⟩ : Vc) = ⟨r, C, b, p⟩ := by
            rw [← HV.out, ← HRW.out.2.2, ← HC.out]; rfl
          simp only [Vc.mk.injEq] at hVe
          obtain ⟨rfl, rfl, rfl, rfl⟩ := hVe
          have hq := run_neSelf vr vc vb vp
          have SZ := KT.out Z bZ
          obtain ⟨⟨s0, s1, s2, s3, s4, s5, s6⟩, ⟨t0, t1, t2, t3, t4, t5, t6⟩, u0, e0, e1, e2, e3⟩ := id SZ
          go_upto_region 23 with (fail)
          go_region_held3 (fun w' => BCells w' rb pb rg ro og oo k n rcap ocap 1 vr vc vb vp (k : Int) br xi xc 3 vr q vb vp) (first | exact SZ | exact T5) (first
            | (go_at_call 15; (with_reducible refine (CR.out Z.drew).mono ?_); rintro e y5 ⟨rfl, hb5⟩; have b5 := bw_trans bZ (((Below.refl Z.heap.size Z).drew).trans hb5); have T5 := KT.out y5 b5))
          go_wp2_with fail
          exact ⟨⟨k + 1, by omega, by go_num, by rw [HRN.out]; try go_num, bw_trans HGW.out (b5)⟩, by simp [intOf]; omega⟩
        | desig h3 hp hc =>
          cases O with
          | true =>
            have hnp : ¬ rootP br l = some k := fun e => by rw [decide_eq_true e] at hp; cases hp
            have HRN := Lib.hid (hrn.trans (by rw [if_neg hnp, Nat.add_zero]))
            simp only at h3
            subst h3
            obtain ⟨Y1, hY1⟩ : ∃ Y1, cmpR ⟨vr, vc, br, xi⟩ ⟨r, q, b, p⟩ = Y1 := ⟨_, rfl⟩
            have hY2 : decide (0 ≤ Y1) = false := decide_eq_false (by have hc' : cmpR ⟨vr, vc, br, xi⟩ ⟨r, q, b, p⟩ < 0 := hc; omega)
            have CY := Lib.hid (fun w' => compare_w vr vc br xi r q b p Y1 w' (Lib.hid hY1))
            clear hnp hrn hp hc hY1
            go_wp2_with fail
            go_quiet (fail)
            obtain ⟨Z, hZ⟩ : ∃ Z, Z = W2.drewN nq := ⟨_, rfl⟩
            have bZ : Below W2.heap.size W2 Z := by rw [hZ]; exact below_drewN (Below.refl _ _) _
            rw [← hZ]
            clear hZ S0 s0 s1 s2 s3 s4 s5 s6 t0 t1 t2 t3 t4 t5 t6 u0 e0 e1 e2 e3
            have SZ := KT.out Z bZ
            obtain ⟨⟨s0, s1, s2, s3, s4, s5, s6⟩, ⟨t0, t1, t2, t3, t4, t5, t6⟩, u0, e0, e1, e2, e3⟩ := id SZ
            go_upto_region 26 with (fail)
            go_region_held3 (fun w' => BCells w' rb pb rg ro og oo k n rcap ocap 2 vr vc vb vp P br xi xc 3 r q b p) (first | exact SZ | exact T5) (first
              | (go_at_call 13; (with_reducible refine (CY.out Z.drew).mono ?_); rintro e y5 ⟨rfl, hb5⟩; have b5 := bw_trans bZ (((Below.refl Z.heap.size Z).drew).trans hb5); have T5 := KT.out y5 b5))
            go_wp2_with fail
            exact ⟨⟨k + 1, by omega, by go_num, by rw [HRN.out], bw_trans HGW.out (b5)⟩, by simp [intOf]; omega⟩
          | false =>
            have hnp : ¬ rootP br l = some k := fun e => by rw [decide_eq_true e] at hp; cases hp
            have HRN := Lib.hid (hrn.trans (by rw [if_neg hnp, Nat.add_zero]))
            simp only at h3
            subst h3
            obtain ⟨Y1, hY1⟩ : ∃ Y1, cmpR ⟨vr, vc, br, xi⟩ ⟨r, q, b, p⟩ = Y1 := ⟨_, rfl⟩
            have hY2 : decide (0 ≤ Y1) = false := decide_eq_false (by have hc' : cmpR ⟨vr, vc, br, xi⟩ ⟨r, q, b, p⟩ < 0 := hc; omega)
            have CY := Lib.hid (fun w' => compare_w vr vc br xi r q b p Y1 w' (Lib.hid hY1))
            clear hnp hrn hp hc hY1
            obtain ⟨C, hC⟩ : ∃ C, (raiseR ⟨r, q, b, p⟩ xc).cost = C := ⟨_, rfl⟩
            have hwy : wayR br ⟨xi, xc, 3, ⟨r, q, b, p⟩⟩ = some ⟨r, C, b, p⟩ := (way_of rfl hO).trans (by rw [← hC]; rfl)
            obtain ⟨X4, hX4⟩ : ∃ X4, cmpR ⟨r, C, b, p⟩ ⟨vr, vc, vb, vp⟩ = X4 := ⟨_, rfl⟩
            have hX5 : decide (X4 < 0) = false := decide_eq_false (by
              have h1 := HROOT.out.way _ (List.mem_of_getElem? HX.out) _ hwy
              have h2 := cmp_neg (⟨r, C, b, p⟩ : Vc) ⟨vr, vc, vb, vp⟩
              omega)
            have CR := Lib.hid (fun w' => raise_w r q b p xc C w' (Lib.hid hC) HOK.out.vec.c HOK.out.cost)
            have CX := Lib.hid (fun w' => compare_w r C b p vr vc vb vp X4 w' (Lib.hid hX4))
            have HWY := Lib.hid hwy
            have HC := Lib.hid hC
            clear hC hwy hX4
            go_upto_region 14 with (fail)
            go_region_held3 (fun w' => BCells w' rb pb rg ro og oo k n rcap ocap 2 vr vc vb vp P br xi xc 3 r q b p) (first | exact S0 | exact T3 | exact T4) (first
              | (go_at_call 15; (with_reducible refine (CR.out W2.drew).mono ?_); rintro e y3 ⟨rfl, hb3⟩; have b3 := ((Below.refl W2.heap.size W2).drew).trans hb3; have T3 := KT.out y3 b3)
              | (go_at_call 13; (with_reducible refine (CX.out y3).mono ?_); rintro e Z ⟨rfl, hb4⟩; have bZ := bw_trans b3 hb4; have T4 := KT.out Z bZ))
            clear S0 s0 s1 s2 s3 s4 s5 s6 t0 t1 t2 t3 t4 t5 t6 u0 e0 e1 e2 e3 T3 T4 b3 hb3 hb4 CX hX5
            have SZ := KT.out Z bZ
            obtain ⟨⟨s0, s1, s2, s3, s4, s5, s6⟩, ⟨t0, t1, t2, t3, t4, t5, t6⟩, u0, e0, e1, e2, e3⟩ := id SZ
            go_upto_region 26 with (fail)
            go_region_held3 (fun w' => BCells w' rb pb rg ro og oo k n rcap ocap 2 vr vc vb vp P br xi xc 3 r q b p) (first | exact SZ | exact T5) (first
              | (go_at_call 13; (with_reducible refine (CY.out Z.drew).mono ?_); rintro e y5 ⟨rfl, hb5⟩; have b5 := bw_trans bZ (((Below.refl Z.heap.size Z).drew).trans hb5); have T5 := KT.out y5 b5))
            go_wp2_with fail
            exact ⟨⟨k + 1, by omega, by go_num, by rw [HRN.out], bw_trans HGW.out (b5)⟩, by simp [intOf]; omega⟩
        | backup h3 hp hc ho =>
          have hOt : O = true := by rw [← hO]; exact ho
          subst hOt
          have hnp : ¬ rootP br l = some k := fun e => by rw [decide_eq_true e] at hp; cases hp
          have HRN := Lib.hid (hrn.trans (by rw [if_neg hnp, Nat.add_zero]))
          simp only at h3
          subst h3
          obtain ⟨Y1, hY1⟩ : ∃ Y1, cmpR ⟨r, q, b, p⟩ ⟨vr, vc, br, xi⟩ = Y1 := ⟨_, rfl⟩
          have hY2 : decide (0 < Y1) = false := decide_eq_false (by have hc' : ¬ cmpR ⟨vr, vc, br, xi⟩ ⟨r, q, b, p⟩ < 0 := hc; have := cmp_neg (⟨vr, vc, br, xi⟩ : Vc) ⟨r, q, b, p⟩; omega)
          have CY := Lib.hid (fun w' => compare_w r q b p vr vc br xi Y1 w' (Lib.hid hY1))
          clear hnp hrn hp hc hY1
          go_wp2_with fail
          go_quiet (fail)
          obtain ⟨Z, hZ⟩ : ∃ Z, Z = W2.drewN nq := ⟨_, rfl⟩
          have bZ : Below W2.heap.size W2 Z := by rw [hZ]; exact below_drewN (Below.refl _ _) _
          rw [← hZ]
          clear hZ S0 s0 s1 s2 s3 s4 s5 s6 t0 t1 t2 t3 t4 t5 t6 u0 e0 e1 e2 e3
          have SZ := KT.out Z bZ
          obtain ⟨⟨s0, s1, s2, s3, s4, s5, s6⟩, ⟨t0, t1, t2, t3, t4, t5, t6⟩, u0, e0, e1, e2, e3⟩ := id SZ
          go_upto_region 30 with (fail)
          go_region_held3 (fun w' => BCells w' rb pb rg ro og oo k n rcap ocap 4 vr vc vb vp P br xi xc 3 r q b p) (first | exact SZ | exact T5) (first
            | (go_at_call 13; (with_reducible refine (CY.out Z.drew).mono ?_); rintro e y5 ⟨rfl, hb5⟩; have b5 := bw_trans bZ (((Below.refl Z.heap.size Z).drew).trans hb5); have T5 := KT.out y5 b5))
          go_wp2_with fail
          exact ⟨⟨k + 1, by omega, by go_num, by rw [HRN.out], bw_trans HGW.out (b5)⟩, by simp [intOf]; omega⟩
        | alt h3 hp hc ho =>
          have hOf : O = false := by rw [← hO]; exact ho
          subst hOf
          have hnp : ¬ rootP br l = some k := fun e => by rw [decide_eq_true e] at hp; cases hp
          have HRN := Lib.hid (hrn.trans (by rw [if_neg hnp, Nat.add_zero]))
          simp only at h3
          subst h3
          obtain ⟨Y1, hY1⟩ : ∃ Y1, cmpR ⟨r, q, b, p⟩ ⟨vr, vc, br, xi⟩ = Y1 := ⟨_, rfl⟩
          have hY2 : decide (0 < Y1) = false := decide_eq_false (by have hc' : ¬ cmpR ⟨vr, vc, br, xi⟩ ⟨r, q, b, p⟩ < 0 := hc; have := cmp_neg (⟨vr, vc, br, xi⟩ : Vc) ⟨r, q, b, p⟩; omega)
          have CY := Lib.hid (fun w' => compare_w r q b p vr vc br xi Y1 w' (Lib.hid hY1))
          clear hnp hrn hp hc hY1
          obtain ⟨C, hC⟩ : ∃ C, (raiseR ⟨r, q, b, p⟩ xc).cost = C := ⟨_, rfl⟩
          have hwy : wayR br ⟨xi, xc, 3, ⟨r, q, b, p⟩⟩ = some ⟨r, C, b, p⟩ := (way_of rfl hO).trans (by rw [← hC]; rfl)
          obtain ⟨X4, hX4⟩ : ∃ X4, cmpR ⟨r, C, b, p⟩ ⟨vr, vc, vb, vp⟩ = X4 := ⟨_, rfl⟩
          have hX5 : decide (X4 < 0) = false := decide_eq_false (by
            have h1 := HROOT.out.way _ (List.mem_of_getElem? HX.out) _ hwy
            have h2 := cmp_neg (⟨r, C, b, p⟩ : Vc) ⟨vr, vc, vb, vp⟩
            omega)
          have CR := Lib.hid (fun w' => raise_w r q b p xc C w' (Lib.hid hC) HOK.out.vec.c HOK.out.cost)
          have CX := Lib.hid (fun w' => compare_w r C b p vr vc vb vp X4 w' (Lib.hid hX4))
          have HWY := Lib.hid hwy
          have HC := Lib.hid hC
          clear hC hwy hX4
          go_upto_region 14 with (fail)
          go_region_held3 (fun w' => BCells w' rb pb rg ro og oo k n rcap ocap 3 vr vc vb vp P br xi xc 3 r q b p) (first | exact S0 | exact T3 | exact T4) (first
            | (go_at_call 15; (with_reducible refine (CR.out W2.drew).mono ?_); rintro e y3 ⟨rfl, hb3⟩; have b3 := ((Below.refl W2.heap.size W2).drew).trans hb3; have T3 := KT.out y3 b3)
            | (go_at_call 13; (with_reducible refine (CX.out y3).mono ?_); rintro e Z ⟨rfl, hb4⟩; have bZ := bw_trans b3 hb4; have T4 := KT.out Z bZ))
          clear S0 s0 s1 s2 s3 s4 s5 s6 t0 t1 t2 t3 t4 t5 t6 u0 e0 e1 e2 e3 T3 T4 b3 hb3 hb4 CX hX5
          have SZ := KT.out Z bZ
          obtain ⟨⟨s0, s1, s2, s3, s4, s5, s6⟩, ⟨t0, t1, t2, t3, t4, t5, t6⟩, u0, e0, e1, e2, e3⟩ := id SZ
          go_upto_region 30 with (fail)
          go_region_held3 (fun w' => BCells w' rb pb rg ro og oo k n rcap ocap 3 vr vc vb vp P br xi xc 3 r q b p) (first | exact SZ | exact T5) (first
            | (go_at_call 13; (with_reducible refine (CY.out Z.drew).mono ?_); rintro e y5 ⟨rfl, hb5⟩; have b5 := bw_trans bZ (((Below.refl Z.heap.size Z).drew).trans hb5); have T5 := KT.out y5 b5))
          go_wp2_with fail
          exact ⟨⟨k + 1, by omega, by go_num, by rw [HRN.out], bw_trans HGW.out (b5)⟩, by simp [intOf]; omega⟩
      · obtain rfl : k = n := by omega
        have HRT := roots_all (br := br) (l := l)
        rw [HN.out, HP.out] at HRT
        obtain ⟨M, hM⟩ : ∃ M, rootsN (rootP br l) k = M := ⟨_, rfl⟩
        rw [hM] at HRT ⊢
        obtain ⟨hM1, hM2⟩ := HRT
        obtain ⟨D, hD⟩ : ∃ D, decide (0 ≤ P) = D := ⟨_, rfl⟩
        have hM3 : ((M : Int) == 1) = D := by
          rw [← hD]
          show decide ((M : Int) = 1) = decide (0 ≤ P)
          refine decide_eq_decide.2 (Iff.trans ?_ hM2)
          omega
        have hM4 : (M : Int) ≤ 1 := by omega
        have k4 := (HRB2.out.next hG).cells.2.2.2.2.1
        clear hM2 hM
        go_wp2
        go_ret
        exact ⟨rfl, bw_trans HB4.out hG⟩
end Go.Proofs.Ytkakjkdjjapiaaa
