/-
  Layer 11: what was heard, as the document says it.
-/
import Derived.Test.YtbiggckddoeghaaInDc
namespace Go.Proofs.Ytbiggckddoeghaa
set_option linter.unusedVariables false
set_option linter.unusedSimpArgs false
open Go.RowKit Vm Rm Bm Im

theorem run_rtmEq (a m h d a' m' h' d' : Int) (w : World) :
    Sem.run Try.prog (binOp .eql 32 (tv a m h d) (tv a' m' h' d')) w = .ok (.bool (decide ((⟨a, m, h, d⟩ : Tm) = ⟨a', m', h', d'⟩))) w := by
  unfold tv
  go_simp
  repeat' split
  all_goals simp_all
set_option maxRecDepth 100000 in
theorem BBlk.loadAt3 {w : World} {b : Nat} {q : Bp} (h : BBlk 40 w b q) : (Instr.loadAt 40 (.pointer (some ⟨b, 0, none⟩))).run Try.prog w = .ok (bq q) w := loadAt_row h rfl rfl (by kernel_rfl)

set_option maxRecDepth 20000 in
set_option maxHeartbeats 2000000 in
theorem rheard_not_w (p : Pt) (q : Bp) (R : Int) (w : World) (hR : Hid ((if ¬ roleF q.flags = 0 ∧ ¬ cmpR (vecOf q) p.vec = -1 then 4 else 0) = R)) (hk : ¬ (q.kind = 1 ∨ roleF q.flags = 3)) (hb : heardB q = true) :
    Calls Try.prog 33 #[.agg (cellsT p), bq q] w fun e w' => e = .returned (.int .i64 R) ∧ Below w.heap.size w w' := by
  obtain ⟨W, nb, HW, HN, k0, k1, kB⟩ := pb_is 34 40 w p q
  have K0 := Lib.hid k0
  have K1 := Lib.hid k1
  have KB := Lib.hid kB
  have hsz := k1.lt
  have hd := heard_hd hb
  have CR := Lib.hid (fun w' => by
    have h := rright_any q.kind q.flags q.root q.cost q.bridge q.port q.age q.max q.hello q.delay w'
    rw [show rightB ⟨q.kind, q.flags, q.root, q.cost, q.bridge, q.port, q.age, q.max, q.hello, q.delay⟩ = true from by unfold heardB at hb; simp only [Bool.and_eq_true] at hb; exact hb.1] at h
    exact h)
  have z2 : (q.kind == 2) = false := by
    unfold heardB at hb
    simp only [Bool.and_eq_true, Bool.not_eq_true', decide_eq_false_iff_not] at hb
    exact beq_eq_false_iff_ne.2 hb.2
  have f0 := hd.flags.1
  have f1 := hd.flags.2
  have w1 : IntKind.i64.wrap (q.flags / 4) = q.flags / 4 := IntWalk.i64_in _ ⟨by omega, by omega⟩
  have t1 : q.flags.tdiv 4 = q.flags / 4 := Int.tdiv_eq_ediv_of_nonneg f0
  have t2 : (q.flags / 4).tmod 4 = q.flags / 4 % 4 := Int.tmod_eq_emod_of_nonneg (by omega)
  have w2 : IntKind.i64.wrap (q.flags / 4 % 4) = q.flags / 4 % 4 := IntWalk.i64_in _ ⟨by omega, by omega⟩
  obtain ⟨C, hC⟩ : ∃ C, cmpR (vecOf q) p.vec = C := ⟨_, rfl⟩
  have CC := Lib.hid (fun w' => compare5_w q.root q.cost q.bridge q.port p.vec.root p.vec.cost p.vec.bridge p.vec.port C w' (Lib.hid hC))
  rw [hC] at hR
  unfold roleF at hk hR
  have z1 : (q.kind == 1) = false := beq_eq_false_iff_ne.2 (fun h => hk (.inl h))
  have z3 : (q.flags / 4 % 4 == 3) = false := beq_eq_false_iff_ne.2 (fun h => hk (.inr h))
  clear hk hC hd
  obtain ⟨c0, c1, c2, c3, c4, c5, c6, c7, c8, c9⟩ := k1.rd
  clear k0 k1 kB hb
  unfold bq
  unfold bv at CR ⊢
  go_enter Try.func33, Try.ntmps33
  go_upto_region 1 with (fail)
  refine wp_to (W := W) (by exact HW.out.symm) ?_
  rw [HN.out]
  go_wp2_with fail
  (with_reducible refine (CR.out _).mono ?_)
  rintro e w1 ⟨rfl, hb1⟩
  have D1 := Lib.hid (KB.out.trans (hb1.mono (by omega)))
  have L0 := Lib.hid (K0.out.next hb1)
  have L1 := Lib.hid (K1.out.next hb1)
  have hsz1 := hb1.size
  clear hb1 c0 c1 c2 c3 c4 c5 c6 c7 c8 c9
  obtain ⟨c0, c1, c2, c3, c4, c5, c6, c7, c8, c9⟩ := L1.out.rd
  obtain ⟨p6, p7, p8, p9, p10, p11, p12, p13⟩ := L0.out.rd
  by_cases hr : q.flags / 4 % 4 = 0
  · have z0 : (q.flags / 4 % 4 != 0) = false := by simp [hr]
    have e : R = 0 := by rw [← hR.out, if_neg (fun c => c.1 hr)]
    subst e
    clear hr hR
    go_wp2
    all_goals go_ret
    all_goals exact ⟨rfl, HN.out ▸ D1.out⟩
  · have z0 : (q.flags / 4 % 4 != 0) = true := bne_iff_ne.2 hr
    by_cases hc : C = -1
    · have e : R = 0 := by rw [← hR.out, if_neg (fun c => c.2 hc)]
      subst e hc
      clear hr hR
      go_wp2_with fail
      (with_reducible refine (CC.out _).mono ?_)
      rintro e w2 ⟨rfl, hb2⟩
      have D2 := Lib.hid (D1.out.trans (hb2.mono (by omega)))
      clear hb2
      go_wp2
      all_goals go_ret
      all_goals exact ⟨rfl, HN.out ▸ D2.out⟩
    · have e : R = 4 := by rw [← hR.out, if_pos ⟨hr, hc⟩]
      have zc : (C != -1) = true := bne_iff_ne.2 hc
      subst e
      clear hr hR hc
      go_wp2_with fail
      (with_reducible refine (CC.out _).mono ?_)
      rintro e w2 ⟨rfl, hb2⟩
      have D2 := Lib.hid (D1.out.trans (hb2.mono (by omega)))
      clear hb2
      go_wp2
      all_goals go_ret
      all_goals exact ⟨rfl, HN.out ▸ D2.out⟩

set_option maxRecDepth 20000 in
set_option maxHeartbeats 4000000 in
theorem rheard_des_w (p : Pt) (q : Bp) (R : Int) (w : World) (hR : Hid (desP p q = R)) (hk : q.kind = 1 ∨ roleF q.flags = 3) (hb : heardB q = true) (ho : p.vec.ok) (hq : BpOk q) :
    Calls Try.prog 33 #[.agg (cellsT p), bq q] w fun e w' => e = .returned (.int .i64 R) ∧ Below w.heap.size w w' := by
  obtain ⟨W, nb, HW, HN, k0, k1, kB⟩ := pb_is 34 40 w p q
  have K0 := Lib.hid k0
  have K1 := Lib.hid k1
  have KB := Lib.hid kB
  have hsz := k1.lt
  have hd := heard_hd hb
  have CR := Lib.hid (fun w' => by
    have h := rright_any q.kind q.flags q.root q.cost q.bridge q.port q.age q.max q.hello q.delay w'
    rw [show rightB ⟨q.kind, q.flags, q.root, q.cost, q.bridge, q.port, q.age, q.max, q.hello, q.delay⟩ = true from by unfold heardB at hb; simp only [Bool.and_eq_true] at hb; exact hb.1] at h
    exact h)
  have z2 : (q.kind == 2) = false := by
    unfold heardB at hb
    simp only [Bool.and_eq_true, Bool.not_eq_true', decide_eq_false_iff_not] at hb
    exact beq_eq_false_iff_ne.2 hb.2
  have f0 := hd.flags.1
  have f1 := hd.flags.2
  have w1 : IntKind.i64.wrap (q.flags / 4) = q.flags / 4 := IntWalk.i64_in _ ⟨by omega, by omega⟩
  have t1 : q.flags.tdiv 4 = q.flags / 4 := Int.tdiv_eq_ediv_of_nonneg f0
  have t2 : (q.flags / 4).tmod 4 = q.flags / 4 % 4 := Int.tmod_eq_emod_of_nonneg (by omega)
  have w2 : IntKind.i64.wrap (q.flags / 4 % 4) = q.flags / 4 % 4 := IntWalk.i64_in _ ⟨by omega, by omega⟩
  obtain ⟨E, hE⟩ : ∃ E, decide (vecOf q = p.vec) = E := ⟨_, rfl⟩
  obtain ⟨F, hF⟩ : ∃ F, decide (timesOf q = p.times) = F := ⟨_, rfl⟩
  obtain ⟨S, hS⟩ : ∃ S, superB (vecOf q) p.vec = S := ⟨_, rfl⟩
  obtain ⟨H, hH⟩ : ∃ H, (if q.hello / 256 < 1 then 1 else q.hello / 256) = H := ⟨_, rfl⟩
  have CT := Lib.hid (fun w' => rtimes_w q.kind q.flags q.root q.cost q.bridge q.port q.age q.max q.hello q.delay H w' hd.age hd.max hd.hello hd.delay (Lib.hid hH))
  have CS := Lib.hid (fun w' => rsuper_w q.root q.cost q.bridge q.port p.vec.root p.vec.cost p.vec.bridge p.vec.port S w' (Lib.hid hS) hq.bridge hq.port ho.b ho.p)
  have hV := run_vcEq q.root q.cost q.bridge q.port p.vec.root p.vec.cost p.vec.bridge p.vec.port
  rw [show decide ((⟨q.root, q.cost, q.bridge, q.port⟩ : Vc) = ⟨p.vec.root, p.vec.cost, p.vec.bridge, p.vec.port⟩) = E from hE] at hV
  have hT := run_rtmEq (q.age / 256) (q.max / 256) H (q.delay / 256) p.times.age p.times.max p.times.hello p.times.delay
  rw [show decide ((⟨q.age / 256, q.max / 256, H, q.delay / 256⟩ : Tm) = ⟨p.times.age, p.times.max, p.times.hello, p.times.delay⟩) = F from by rw [← hH]; exact hF] at hT
  have hRR : R = if p.source = 3 ∧ E = true ∧ F = true then 2 else if S = true then 1 else 3 := by
    rw [← hR.out, ← hE, ← hF, ← hS]; unfold desP; simp only [decide_eq_true_eq]
  unfold vv at hV CS
  unfold tv at hT CT
  unfold bv at CT
  unfold roleF at hk
  obtain ⟨D, hD⟩ : ∃ D, (q.kind == 1) = D := ⟨_, rfl⟩
  have z3 : D = false → (q.flags / 4 % 4 == 3) = true := fun h => by
    rcases hk with e | e
    · rw [e] at hD; rw [← hD] at h; cases h
    · exact beq_iff_eq.2 e
  clear hE hF hS hH hR hk hd ho hq
  obtain ⟨c0, c1, c2, c3, c4, c5, c6, c7, c8, c9⟩ := k1.rd
  clear k0 k1 kB hb
  unfold bq
  unfold bv at CR ⊢
  go_enter Try.func33, Try.ntmps33
  go_upto_region 1 with (fail)
  refine wp_to (W := W) (by exact HW.out.symm) ?_
  rw [HN.out]
  go_wp2_with fail
  (with_reducible refine (CR.out _).mono ?_)
  rintro e w1 ⟨rfl, hb1⟩
  have D1 := Lib.hid (KB.out.trans (hb1.mono (by omega)))
  have L0 := Lib.hid (K0.out.next hb1)
  have L1 := Lib.hid (K1.out.next hb1)
  have hsz1 := hb1.size
  clear hb1 c0 c1 c2 c3 c4 c5 c6 c7 c8 c9
  obtain ⟨c0, c1, c2, c3, c4, c5, c6, c7, c8, c9⟩ := L1.out.rd
  obtain ⟨p6, p7, p8, p9, p10, p11, p12, p13⟩ := L0.out.rd
  have hcond : ∀ V, BBlk 40 V (nb + 1) q → PtBlk 34 V nb p → True := fun _ _ _ => trivial
  clear hcond
  go_upto_region 4 with (fail)
  go_cut [24] (fun u wx => u = .bool true ∧ wx = w1)
  case first =>
    cases D
    · have z4 := z3 rfl
      go_wp2_with fail
      go_meet
      exact ⟨rfl, rfl⟩
    · go_wp2_with fail
      go_meet
      exact ⟨rfl, rfl⟩
  case rest =>
    obtain ⟨rfl, hwc⟩ := hcut
    rw [hwc]
    clear hwc z3 hD c0 c1 c2 c3 c4 c5 c6 c7 c8 c9 p6 p7 p8 p9 p10 p11 p12 p13
    go_upto_region 5 with (fail)
    obtain ⟨B, hB⟩ : ∃ B, (decide (p.source = 3) && (E && F)) = B := ⟨_, rfl⟩
    have HB := Lib.hid hB
    go_cut [41] (fun u wx => u = .bool B ∧ PtBlk 34 wx nb p ∧ BBlk 40 wx (nb + 1) q ∧ Below nb w wx)
    case first =>
      refine wp_region_held_drew (S := fun V => PtBlk 34 V nb p ∧ BBlk 40 V (nb + 1) q) (by kernel_rfl) (show PtBlk 34 w1.drew nb p ∧ BBlk 40 w1.drew (nb + 1) q from ⟨L0.out, L1.out⟩) (fun hHeld => ?_)
      try simp only [Act.put]
      by_cases hs : p.source = 3
      · rw [decide_eq_true hs, Bool.true_and] at hB
        cases E with
        | false =>
          rw [Bool.false_and] at hB
          subst hB
          refine wpAnyH_take (i := 0) (v := .pointer (some ⟨nb, 5, none⟩)) rfl (by kernel_rfl) (by kernel_rfl) (by kernel_rfl) (fun _ _ _ h => h) (Or.inl ⟨by rfl, fun V h => by go_simp⟩) hHeld ?_
          try simp only [Act.put, List.getElem_toArray, List.getElem_cons_succ, List.getElem_cons_zero, List.setIfInBounds_toArray, List.set_cons_zero, List.set_cons_succ]
          refine wpAnyH_take (i := 1) (v := .int .i64 3) rfl (by kernel_rfl) (by kernel_rfl) (by kernel_rfl) (fun _ _ _ h => h) (Or.inl ⟨by rfl, fun V h => by (have h1 := h.1.c_source); rw [hs] at h1; go_simp⟩) hHeld ?_
          try simp only [Act.put, List.getElem_toArray, List.getElem_cons_succ, List.getElem_cons_zero, List.setIfInBounds_toArray, List.set_cons_zero, List.set_cons_succ]
          refine wpAnyH_take (i := 2) (v := .bool true) rfl (by kernel_rfl) (by kernel_rfl) (by kernel_rfl) (fun _ _ _ h => h) (Or.inl ⟨by rfl, fun V h => by go_simp⟩) hHeld ?_
          try simp only [Act.put, List.getElem_toArray, List.getElem_cons_succ, List.getElem_cons_zero, List.setIfInBounds_toArray, List.set_cons_zero, List.set_cons_succ]
          refine wpAnyH_take (i := 3) (v := .bool true) rfl (by kernel_rfl) (by kernel_rfl) (by kernel_rfl) (fun _ _ _ h => h) (yieldsIf_move (by rfl) _ rfl _ rfl) hHeld ?_
          try simp only [Act.put, List.getElem_toArray, List.getElem_cons_succ, List.getElem_cons_zero, List.setIfInBounds_toArray, List.set_cons_zero, List.set_cons_succ]
          refine wpAnyH_take (i := 4) (v := .pointer (some ⟨nb + 1, 2, none⟩)) rfl (by kernel_rfl) (by kernel_rfl) (by kernel_rfl) (fun _ _ _ h => h) (Or.inl ⟨by rfl, fun V h => by go_simp⟩) hHeld ?_
          try simp only [Act.put, List.getElem_toArray, List.getElem_cons_succ, List.getElem_cons_zero, List.setIfInBounds_toArray, List.set_cons_zero, List.set_cons_succ]
          refine wpAnyH_take (i := 5) (v := (.agg #[.int .u64 q.root, .int .u64 q.cost, .int .u64 q.bridge, .int .u64 q.port])) rfl (by kernel_rfl) (by kernel_rfl) (by kernel_rfl) (fun _ _ _ h => h) (Or.inl ⟨by rfl, fun V h => by (obtain ⟨_, _, h2, h3, h4, h5, _⟩ := h.2.rd); go_simp⟩) hHeld ?_
          try simp only [Act.put, List.getElem_toArray, List.getElem_cons_succ, List.getElem_cons_zero, List.setIfInBounds_toArray, List.set_cons_zero, List.set_cons_succ]
          refine wpAnyH_take (i := 6) (v := .pointer (some ⟨nb, 6, none⟩)) rfl (by kernel_rfl) (by kernel_rfl) (by kernel_rfl) (fun _ _ _ h => h) (Or.inl ⟨by rfl, fun V h => by go_simp⟩) hHeld ?_
          try simp only [Act.put, List.getElem_toArray, List.getElem_cons_succ, List.getElem_cons_zero, List.setIfInBounds_toArray, List.set_cons_zero, List.set_cons_succ]
          refine wpAnyH_take (i := 7) (v := (.agg #[.int .u64 p.vec.root, .int .u64 p.vec.cost, .int .u64 p.vec.bridge, .int .u64 p.vec.port])) rfl (by kernel_rfl) (by kernel_rfl) (by kernel_rfl) (fun _ _ _ h => h) (Or.inl ⟨by rfl, fun V h => by (obtain ⟨h2, h3, h4, h5, _⟩ := h.1.rd); go_simp⟩) hHeld ?_
          try simp only [Act.put, List.getElem_toArray, List.getElem_cons_succ, List.getElem_cons_zero, List.setIfInBounds_toArray, List.set_cons_zero, List.set_cons_succ]
          refine wpAnyH_take (i := 8) (v := .bool false) rfl (by kernel_rfl) (by kernel_rfl) (by kernel_rfl) (fun _ _ _ h => h) (Or.inl ⟨by rfl, fun V h => by go_simp⟩) hHeld ?_
          try simp only [Act.put, List.getElem_toArray, List.getElem_cons_succ, List.getElem_cons_zero, List.setIfInBounds_toArray, List.set_cons_zero, List.set_cons_succ]
          refine wpAnyH_take (i := 9) (v := .bool false) rfl (by kernel_rfl) (by kernel_rfl) (by kernel_rfl) (fun _ _ _ h => h) (Or.inl ⟨by rfl, fun V h => by go_simp⟩) hHeld ?_
          try simp only [Act.put, List.getElem_toArray, List.getElem_cons_succ, List.getElem_cons_zero, List.setIfInBounds_toArray, List.set_cons_zero, List.set_cons_succ]
          refine wpAnyH_take (i := 10) (v := .bool false) rfl (by kernel_rfl) (by kernel_rfl) (by kernel_rfl) (fun _ _ _ h => h) (yieldsIf_move (by rfl) _ rfl _ rfl) hHeld ?_
          try simp only [Act.put, List.getElem_toArray, List.getElem_cons_succ, List.getElem_cons_zero, List.setIfInBounds_toArray, List.set_cons_zero, List.set_cons_succ]
          refine wpAnyH_take (i := 11) (v := undef) rfl (by kernel_rfl) (by kernel_rfl) (by kernel_rfl) (fun _ _ _ h => h) (Or.inr ⟨by rfl, rfl⟩) hHeld ?_
          try simp only [Act.put, List.getElem_toArray, List.getElem_cons_succ, List.getElem_cons_zero, List.setIfInBounds_toArray, List.set_cons_zero, List.set_cons_succ]
          refine wpAnyH_take (i := 12) (v := undef) rfl (by kernel_rfl) (by kernel_rfl) (by kernel_rfl) (fun _ _ _ h => h) (Or.inr ⟨by rfl, rfl⟩) hHeld ?_
          try simp only [Act.put, List.getElem_toArray, List.getElem_cons_succ, List.getElem_cons_zero, List.setIfInBounds_toArray, List.set_cons_zero, List.set_cons_succ]
          refine wpAnyH_take (i := 13) (v := undef) rfl (by kernel_rfl) (by kernel_rfl) (by kernel_rfl) (fun _ _ _ h => h) (Or.inr ⟨by rfl, rfl⟩) hHeld ?_
          try simp only [Act.put, List.getElem_toArray, List.getElem_cons_succ, List.getElem_cons_zero, List.setIfInBounds_toArray, List.set_cons_zero, List.set_cons_succ]
          refine wpAnyH_take (i := 14) (v := undef) rfl (by kernel_rfl) (by kernel_rfl) (by kernel_rfl) (fun _ _ _ h => h) (Or.inr ⟨by rfl, rfl⟩) hHeld ?_
          try simp only [Act.put, List.getElem_toArray, List.getElem_cons_succ, List.getElem_cons_zero, List.setIfInBounds_toArray, List.set_cons_zero, List.set_cons_succ]
          refine wpAnyH_take (i := 15) (v := undef) rfl (by kernel_rfl) (by kernel_rfl) (by kernel_rfl) (fun _ _ _ h => h) (Or.inr ⟨by rfl, rfl⟩) hHeld ?_
          try simp only [Act.put, List.getElem_toArray, List.getElem_cons_succ, List.getElem_cons_zero, List.setIfInBounds_toArray, List.set_cons_zero, List.set_cons_succ]
          refine wpAnyH_take (i := 16) (v := .bool false) rfl (by kernel_rfl) (by kernel_rfl) (by kernel_rfl) (fun _ _ _ h => h) (Or.inl ⟨by rfl, fun V h => by go_simp⟩) hHeld ?_
          try simp only [Act.put, List.getElem_toArray, List.getElem_cons_succ, List.getElem_cons_zero, List.setIfInBounds_toArray, List.set_cons_zero, List.set_cons_succ]
          refine wpAnyH_done (by kernel_rfl) ?_ _
          clear hHeld
          go_wp2_with fail
          go_meet
          exact ⟨rfl, L0.out, L1.out, D1.out.drew⟩
        | true =>
          rw [Bool.true_and] at hB
          subst hB
          refine wpAnyH_take (i := 0) (v := .pointer (some ⟨nb, 5, none⟩)) rfl (by kernel_rfl) (by kernel_rfl) (by kernel_rfl) (fun _ _ _ h => h) (Or.inl ⟨by rfl, fun V h => by go_simp⟩) hHeld ?_
          try simp only [Act.put, List.getElem_toArray, List.getElem_cons_succ, List.getElem_cons_zero, List.setIfInBounds_toArray, List.set_cons_zero, List.set_cons_succ]
          refine wpAnyH_take (i := 1) (v := .int .i64 3) rfl (by kernel_rfl) (by kernel_rfl) (by kernel_rfl) (fun _ _ _ h => h) (Or.inl ⟨by rfl, fun V h => by (have h1 := h.1.c_source); rw [hs] at h1; go_simp⟩) hHeld ?_
          try simp only [Act.put, List.getElem_toArray, List.getElem_cons_succ, List.getElem_cons_zero, List.setIfInBounds_toArray, List.set_cons_zero, List.set_cons_succ]
          refine wpAnyH_take (i := 2) (v := .bool true) rfl (by kernel_rfl) (by kernel_rfl) (by kernel_rfl) (fun _ _ _ h => h) (Or.inl ⟨by rfl, fun V h => by go_simp⟩) hHeld ?_
          try simp only [Act.put, List.getElem_toArray, List.getElem_cons_succ, List.getElem_cons_zero, List.setIfInBounds_toArray, List.set_cons_zero, List.set_cons_succ]
          refine wpAnyH_take (i := 3) (v := .bool true) rfl (by kernel_rfl) (by kernel_rfl) (by kernel_rfl) (fun _ _ _ h => h) (yieldsIf_move (by rfl) _ rfl _ rfl) hHeld ?_
          try simp only [Act.put, List.getElem_toArray, List.getElem_cons_succ, List.getElem_cons_zero, List.setIfInBounds_toArray, List.set_cons_zero, List.set_cons_succ]
          refine wpAnyH_take (i := 4) (v := .pointer (some ⟨nb + 1, 2, none⟩)) rfl (by kernel_rfl) (by kernel_rfl) (by kernel_rfl) (fun _ _ _ h => h) (Or.inl ⟨by rfl, fun V h => by go_simp⟩) hHeld ?_
          try simp only [Act.put, List.getElem_toArray, List.getElem_cons_succ, List.getElem_cons_zero, List.setIfInBounds_toArray, List.set_cons_zero, List.set_cons_succ]
          refine wpAnyH_take (i := 5) (v := (.agg #[.int .u64 q.root, .int .u64 q.cost, .int .u64 q.bridge, .int .u64 q.port])) rfl (by kernel_rfl) (by kernel_rfl) (by kernel_rfl) (fun _ _ _ h => h) (Or.inl ⟨by rfl, fun V h => by (obtain ⟨_, _, h2, h3, h4, h5, _⟩ := h.2.rd); go_simp⟩) hHeld ?_
          try simp only [Act.put, List.getElem_toArray, List.getElem_cons_succ, List.getElem_cons_zero, List.setIfInBounds_toArray, List.set_cons_zero, List.set_cons_succ]
          refine wpAnyH_take (i := 6) (v := .pointer (some ⟨nb, 6, none⟩)) rfl (by kernel_rfl) (by kernel_rfl) (by kernel_rfl) (fun _ _ _ h => h) (Or.inl ⟨by rfl, fun V h => by go_simp⟩) hHeld ?_
          try simp only [Act.put, List.getElem_toArray, List.getElem_cons_succ, List.getElem_cons_zero, List.setIfInBounds_toArray, List.set_cons_zero, List.set_cons_succ]
          refine wpAnyH_take (i := 7) (v := (.agg #[.int .u64 p.vec.root, .int .u64 p.vec.cost, .int .u64 p.vec.bridge, .int .u64 p.vec.port])) rfl (by kernel_rfl) (by kernel_rfl) (by kernel_rfl) (fun _ _ _ h => h) (Or.inl ⟨by rfl, fun V h => by (obtain ⟨h2, h3, h4, h5, _⟩ := h.1.rd); go_simp⟩) hHeld ?_
          try simp only [Act.put, List.getElem_toArray, List.getElem_cons_succ, List.getElem_cons_zero, List.setIfInBounds_toArray, List.set_cons_zero, List.set_cons_succ]
          refine wpAnyH_take (i := 8) (v := .bool true) rfl (by kernel_rfl) (by kernel_rfl) (by kernel_rfl) (fun _ _ _ h => h) (Or.inl ⟨by rfl, fun V h => by go_simp⟩) hHeld ?_
          try simp only [Act.put, List.getElem_toArray, List.getElem_cons_succ, List.getElem_cons_zero, List.setIfInBounds_toArray, List.set_cons_zero, List.set_cons_succ]
          refine wpAnyH_take (i := 9) (v := .bool true) rfl (by kernel_rfl) (by kernel_rfl) (by kernel_rfl) (fun _ _ _ h => h) (Or.inl ⟨by rfl, fun V h => by go_simp⟩) hHeld ?_
          try simp only [Act.put, List.getElem_toArray, List.getElem_cons_succ, List.getElem_cons_zero, List.setIfInBounds_toArray, List.set_cons_zero, List.set_cons_succ]
          refine wpAnyH_take (i := 10) (v := .bool true) rfl (by kernel_rfl) (by kernel_rfl) (by kernel_rfl) (fun _ _ _ h => h) (yieldsIf_move (by rfl) _ rfl _ rfl) hHeld ?_
          try simp only [Act.put, List.getElem_toArray, List.getElem_cons_succ, List.getElem_cons_zero, List.setIfInBounds_toArray, List.set_cons_zero, List.set_cons_succ]
          refine wpAnyH_take (i := 11) (v := bq q) rfl (by kernel_rfl) (by kernel_rfl) (by kernel_rfl) (fun _ _ _ h => h) (yieldsIf_run (by rfl) 40 _ rfl ⟨nb + 1, 0, none⟩ rfl _ (fun V h => h.2.loadAt3)) hHeld ?_
          try simp only [Act.put, List.getElem_toArray, List.getElem_cons_succ, List.getElem_cons_zero, List.setIfInBounds_toArray, List.set_cons_zero, List.set_cons_succ]
          refine wpAnyH_take (i := 13) (v := .pointer (some ⟨nb, 10, none⟩)) rfl (by kernel_rfl) (by kernel_rfl) (by kernel_rfl) (fun _ _ _ h => h) (Or.inl ⟨by rfl, fun V h => by go_simp⟩) hHeld ?_
          try simp only [Act.put, List.getElem_toArray, List.getElem_cons_succ, List.getElem_cons_zero, List.setIfInBounds_toArray, List.set_cons_zero, List.set_cons_succ]
          refine wpAnyH_take (i := 14) (v := (.agg #[.int .i64 p.times.age, .int .i64 p.times.max, .int .i64 p.times.hello, .int .i64 p.times.delay])) rfl (by kernel_rfl) (by kernel_rfl) (by kernel_rfl) (fun _ _ _ h => h) (Or.inl ⟨by rfl, fun V h => by (obtain ⟨_, _, _, _, h2, h3, h4, h5⟩ := h.1.rd); go_simp⟩) hHeld ?_
          try simp only [Act.put, List.getElem_toArray, List.getElem_cons_succ, List.getElem_cons_zero, List.setIfInBounds_toArray, List.set_cons_zero, List.set_cons_succ]
          unfold bq bv
          refine wpAnyH_ready (rs := [12]) (by kernel_rfl) (by simp) ?_
          refine AllReadyH.cons rfl (fun K hK => ?_) AllReadyH.nil
          go_simp
          (with_reducible refine (CT.out _).mono ?_)
          rintro e w2 ⟨rfl, hb2⟩
          have M0 := Lib.hid ((show PtBlk 34 w1.drew nb p from L0.out).next hb2)
          have M1 := Lib.hid ((show BBlk 40 w1.drew (nb + 1) q from L1.out).next hb2)
          have D2 := Lib.hid (D1.out.drew.trans (hb2.mono (show nb ≤ w1.heap.size by omega)))
          clear hHeld hb2
          go_simp
          refine hK.out _ _ ⟨M0.out, M1.out⟩ (fun hHeld => ?_)
          clear hK
          try simp only [Act.put, List.getElem_toArray, List.getElem_cons_succ, List.getElem_cons_zero, List.setIfInBounds_toArray, List.set_cons_zero, List.set_cons_succ]
          refine wpAnyH_take (i := 15) (v := .bool F) rfl (by kernel_rfl) (by kernel_rfl) (by kernel_rfl) (fun _ _ _ h => h) (Or.inl ⟨by rfl, fun V h => by go_simp⟩) hHeld ?_
          try simp only [Act.put, List.getElem_toArray, List.getElem_cons_succ, List.getElem_cons_zero, List.setIfInBounds_toArray, List.set_cons_zero, List.set_cons_succ]
          refine wpAnyH_take (i := 16) (v := .bool F) rfl (by kernel_rfl) (by kernel_rfl) (by kernel_rfl) (fun _ _ _ h => h) (Or.inl ⟨by rfl, fun V h => by go_simp⟩) hHeld ?_
          try simp only [Act.put, List.getElem_toArray, List.getElem_cons_succ, List.getElem_cons_zero, List.setIfInBounds_toArray, List.set_cons_zero, List.set_cons_succ]
          refine wpAnyH_done (by kernel_rfl) ?_ _
          clear hHeld
          go_wp2_with fail
          go_meet
          exact ⟨rfl, M0.out, M1.out, D2.out⟩
      · rw [decide_eq_false hs, Bool.false_and] at hB
        subst hB
        have zs : (p.source == 3) = false := beq_eq_false_iff_ne.2 hs
        refine wpAnyH_take (i := 0) (v := .pointer (some ⟨nb, 5, none⟩)) rfl (by kernel_rfl) (by kernel_rfl) (by kernel_rfl) (fun _ _ _ h => h) (Or.inl ⟨by rfl, fun V h => by go_simp⟩) hHeld ?_
        try simp only [Act.put, List.getElem_toArray, List.getElem_cons_succ, List.getElem_cons_zero, List.setIfInBounds_toArray, List.set_cons_zero, List.set_cons_succ]
        refine wpAnyH_take (i := 1) (v := .int .i64 p.source) rfl (by kernel_rfl) (by kernel_rfl) (by kernel_rfl) (fun _ _ _ h => h) (Or.inl ⟨by rfl, fun V h => by (have h1 := h.1.c_source); go_simp⟩) hHeld ?_
        try simp only [Act.put, List.getElem_toArray, List.getElem_cons_succ, List.getElem_cons_zero, List.setIfInBounds_toArray, List.set_cons_zero, List.set_cons_succ]
        refine wpAnyH_take (i := 2) (v := .bool false) rfl (by kernel_rfl) (by kernel_rfl) (by kernel_rfl) (fun _ _ _ h => h) (Or.inl ⟨by rfl, fun V h => by go_simp⟩) hHeld ?_
        try simp only [Act.put, List.getElem_toArray, List.getElem_cons_succ, List.getElem_cons_zero, List.setIfInBounds_toArray, List.set_cons_zero, List.set_cons_succ]
        refine wpAnyH_take (i := 3) (v := .bool false) rfl (by kernel_rfl) (by kernel_rfl) (by kernel_rfl) (fun _ _ _ h => h) (yieldsIf_move (by rfl) _ rfl _ rfl) hHeld ?_
        try simp only [Act.put, List.getElem_toArray, List.getElem_cons_succ, List.getElem_cons_zero, List.setIfInBounds_toArray, List.set_cons_zero, List.set_cons_succ]
        refine wpAnyH_take (i := 4) (v := undef) rfl (by kernel_rfl) (by kernel_rfl) (by kernel_rfl) (fun _ _ _ h => h) (Or.inr ⟨by rfl, rfl⟩) hHeld ?_
        try simp only [Act.put, List.getElem_toArray, List.getElem_cons_succ, List.getElem_cons_zero, List.setIfInBounds_toArray, List.set_cons_zero, List.set_cons_succ]
        refine wpAnyH_take (i := 5) (v := undef) rfl (by kernel_rfl) (by kernel_rfl) (by kernel_rfl) (fun _ _ _ h => h) (Or.inr ⟨by rfl, rfl⟩) hHeld ?_
        try simp only [Act.put, List.getElem_toArray, List.getElem_cons_succ, List.getElem_cons_zero, List.setIfInBounds_toArray, List.set_cons_zero, List.set_cons_succ]
        refine wpAnyH_take (i := 6) (v := undef) rfl (by kernel_rfl) (by kernel_rfl) (by kernel_rfl) (fun _ _ _ h => h) (Or.inr ⟨by rfl, rfl⟩) hHeld ?_
        try simp only [Act.put, List.getElem_toArray, List.getElem_cons_succ, List.getElem_cons_zero, List.setIfInBounds_toArray, List.set_cons_zero, List.set_cons_succ]
        refine wpAnyH_take (i := 7) (v := undef) rfl (by kernel_rfl) (by kernel_rfl) (by kernel_rfl) (fun _ _ _ h => h) (Or.inr ⟨by rfl, rfl⟩) hHeld ?_
        try simp only [Act.put, List.getElem_toArray, List.getElem_cons_succ, List.getElem_cons_zero, List.setIfInBounds_toArray, List.set_cons_zero, List.set_cons_succ]
        refine wpAnyH_take (i := 8) (v := undef) rfl (by kernel_rfl) (by kernel_rfl) (by kernel_rfl) (fun _ _ _ h => h) (Or.inr ⟨by rfl, rfl⟩) hHeld ?_
        try simp only [Act.put, List.getElem_toArray, List.getElem_cons_succ, List.getElem_cons_zero, List.setIfInBounds_toArray, List.set_cons_zero, List.set_cons_succ]
        refine wpAnyH_take (i := 9) (v := .bool false) rfl (by kernel_rfl) (by kernel_rfl) (by kernel_rfl) (fun _ _ _ h => h) (Or.inl ⟨by rfl, fun V h => by go_simp⟩) hHeld ?_
        try simp only [Act.put, List.getElem_toArray, List.getElem_cons_succ, List.getElem_cons_zero, List.setIfInBounds_toArray, List.set_cons_zero, List.set_cons_succ]
        refine wpAnyH_take (i := 10) (v := .bool false) rfl (by kernel_rfl) (by kernel_rfl) (by kernel_rfl) (fun _ _ _ h => h) (yieldsIf_move (by rfl) _ rfl _ rfl) hHeld ?_
        try simp only [Act.put, List.getElem_toArray, List.getElem_cons_succ, List.getElem_cons_zero, List.setIfInBounds_toArray, List.set_cons_zero, List.set_cons_succ]
        refine wpAnyH_take (i := 11) (v := undef) rfl (by kernel_rfl) (by kernel_rfl) (by kernel_rfl) (fun _ _ _ h => h) (Or.inr ⟨by rfl, rfl⟩) hHeld ?_
        try simp only [Act.put, List.getElem_toArray, List.getElem_cons_succ, List.getElem_cons_zero, List.setIfInBounds_toArray, List.set_cons_zero, List.set_cons_succ]
        refine wpAnyH_take (i := 12) (v := undef) rfl (by kernel_rfl) (by kernel_rfl) (by kernel_rfl) (fun _ _ _ h => h) (Or.inr ⟨by rfl, rfl⟩) hHeld ?_
        try simp only [Act.put, List.getElem_toArray, List.getElem_cons_succ, List.getElem_cons_zero, List.setIfInBounds_toArray, List.set_cons_zero, List.set_cons_succ]
        refine wpAnyH_take (i := 13) (v := undef) rfl (by kernel_rfl) (by kernel_rfl) (by kernel_rfl) (fun _ _ _ h => h) (Or.inr ⟨by rfl, rfl⟩) hHeld ?_
        try simp only [Act.put, List.getElem_toArray, List.getElem_cons_succ, List.getElem_cons_zero, List.setIfInBounds_toArray, List.set_cons_zero, List.set_cons_succ]
        refine wpAnyH_take (i := 14) (v := undef) rfl (by kernel_rfl) (by kernel_rfl) (by kernel_rfl) (fun _ _ _ h => h) (Or.inr ⟨by rfl, rfl⟩) hHeld ?_
        try simp only [Act.put, List.getElem_toArray, List.getElem_cons_succ, List.getElem_cons_zero, List.setIfInBounds_toArray, List.set_cons_zero, List.set_cons_succ]
        refine wpAnyH_take (i := 15) (v := undef) rfl (by kernel_rfl) (by kernel_rfl) (by kernel_rfl) (fun _ _ _ h => h) (Or.inr ⟨by rfl, rfl⟩) hHeld ?_
        try simp only [Act.put, List.getElem_toArray, List.getElem_cons_succ, List.getElem_cons_zero, List.setIfInBounds_toArray, List.set_cons_zero, List.set_cons_succ]
        refine wpAnyH_take (i := 16) (v := .bool false) rfl (by kernel_rfl) (by kernel_rfl) (by kernel_rfl) (fun _ _ _ h => h) (Or.inl ⟨by rfl, fun V h => by go_simp⟩) hHeld ?_
        try simp only [Act.put, List.getElem_toArray, List.getElem_cons_succ, List.getElem_cons_zero, List.setIfInBounds_toArray, List.set_cons_zero, List.set_cons_succ]
        refine wpAnyH_done (by kernel_rfl) ?_ _
        clear hHeld
        go_wp2_with fail
        go_meet
        exact ⟨rfl, L0.out, L1.out, D1.out.drew⟩
    case rest =>
      obtain ⟨rfl, hm0, hm1, hd2⟩ := hcut
      obtain ⟨c0, c1, c2, c3, c4, c5, c6, c7, c8, c9⟩ := hm1.rd
      obtain ⟨p6, p7, p8, p9, p10, p11, p12, p13⟩ := hm0.rd
      have hz := hm1.lt
      have D2 := Lib.hid hd2
      clear hm0 hm1 hd2 hV hT CT CR hB
      cases B with
      | true =>
        have e : R = 2 := by
          have h := HB.out
          simp only [Bool.and_eq_true, decide_eq_true_eq] at h
          rw [hRR, if_pos h]
        subst e
        clear HB hRR CS
        go_wp2
        all_goals go_ret
        all_goals exact ⟨rfl, HN.out ▸ D2.out⟩
      | false =>
        have e : R = if S = true then 1 else 3 := by
          have h := HB.out
          rw [hRR, if_neg (fun c => by rw [decide_eq_true c.1, c.2.1, c.2.2] at h; cases h)]
        clear HB hRR
        go_wp2_with fail
        (with_reducible refine (CS.out _).mono ?_)
        rintro e2 w3 ⟨rfl, hb3⟩
        have D3 := Lib.hid (D2.out.trans (hb3.mono (by omega)))
        clear hb3
        cases S with
        | true =>
          rw [if_pos rfl] at e
          subst e
          go_wp2
          all_goals go_ret
          all_goals exact ⟨rfl, HN.out ▸ D3.out⟩
        | false =>
          rw [if_neg (by simp)] at e
          subst e
          go_wp2
          all_goals go_ret
          all_goals exact ⟨rfl, HN.out ▸ D3.out⟩
theorem rheard_w (p : Pt) (q : Bp) (R : Int) (w : World) (hR : Hid (heardP p q = R)) (hb : heardB q = true) (ho : p.vec.ok) (hq : BpOk q) :
    Calls Try.prog 33 #[.agg (cellsT p), bq q] w fun e w' => e = .returned (.int .i64 R) ∧ Below w.heap.size w w' := by
  have e : heardP p q = if q.kind = 1 ∨ roleF q.flags = 3 then desP p q else if ¬ roleF q.flags = 0 ∧ ¬ cmpR (vecOf q) p.vec = -1 then 4 else 0 := by
    unfold heardP desP
    rw [if_neg (by rw [hb]; simp)]
  rw [e] at hR
  by_cases hd : q.kind = 1 ∨ roleF q.flags = 3
  · rw [if_pos hd] at hR
    exact rheard_des_w p q R w hR hd hb ho hq
  · rw [if_neg hd] at hR
    exact rheard_not_w p q R w hR hd hb
end Go.Proofs.Ytbiggckddoeghaa
