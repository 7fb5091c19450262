/-
  Layer 11: InfoOff, walked.
-/
import Derived.Test.YtlgeajmnanoabaaInY
namespace Go.Proofs.Ytlgeajmnanoabaa
set_option linter.unusedVariables false
set_option linter.unusedSimpArgs false
open Go.RowKit Vm Rm Bm Im

set_option maxRecDepth 100000 in
set_option maxHeartbeats 4000000 in
theorem run_ptNe (p : Pt) (w : World) : Sem.run Try.prog (binOp .neq 28 (.agg (cellsT p)) (.agg (cellsT p))) w = .ok (.bool false) w := by
  unfold cellsT
  go_simp

set_option maxRecDepth 20000 in
set_option maxHeartbeats 4000000 in
theorem infoOff_any (p : Pt) (q : Bp) (w : World) (hp : PtOk p) (hq : BpOk q) :
    Calls Try.prog 5 #[.agg (cellsT p), bq q] w fun e w' => e = .returned (.bool true) ∧ Below w.heap.size w w' := by
  obtain ⟨W, nb, HW, HN, k0, k1, kB⟩ := pb_is 28 30 w p q
  have K0 := Lib.hid k0
  have KQ := Lib.hid k1
  have KB := Lib.hid kB
  have hsz := k1.lt
  obtain ⟨OFF, hOFF⟩ : ∃ X, powerP p false = X := ⟨_, rfl⟩
  obtain ⟨ON, hON⟩ : ∃ X, powerP OFF true = X := ⟨_, rfl⟩
  have off0 := off_on p
  rw [hOFF] at off0
  have hvo : OFF.vec.ok := by
    rw [← hOFF]; unfold powerP
    split
    · exact hp.vec
    · exact hp.vec
  have CP := Lib.hid (fun w' => power_w p OFF false w' (Lib.hid hOFF))
  have CH := Lib.hid (fun w' => hear_w OFF OFF q w' hvo hq (Lib.hid (by rw [← hOFF]; exact off_hears p q)))
  have CO := Lib.hid (fun w' => power_w OFF OFF false w' (Lib.hid (power_same off0)))
  have CN := Lib.hid (fun w' => power_w OFF ON true w' (Lib.hid hON))
  have e1 := on_is p
  rw [hOFF, hON] at e1
  have on0 : ON.on = true := by rw [e1]
  have on1 : ON.source = 1 := by rw [e1]
  have on2 : ON.reselect = true := by rw [e1]
  have on3 : ON.ready = false := by rw [e1]
  have CT := Lib.hid (fun w' => power_w ON ON true w' (Lib.hid (power_same on0)))
  have HOFF := Lib.hid hOFF
  have nOFF := run_ptNe OFF
  have nON := run_ptNe ON
  have CW := Lib.hid (fun w' => awake_any w')
  clear k0 k1 kB hOFF hON e1 hvo hp hq
  unfold bq
  unfold bv at CH ⊢
  go_enter Try.func5, Try.ntmps5
  go_upto_region 1 with (fail)
  refine wp_to (W := W) (by exact HW.out.symm) ?_
  rw [HN.out]
  go_upto_region 3 with (go_at_call 6; (with_reducible refine (CW.out _).mono ?_); rintro e y0 ⟨rfl, hb0⟩)
  have B0 := Lib.hid (KB.out.trans (hb0.mono (by omega)))
  have P0 := Lib.hid (K0.out.next hb0)
  have Q0 := Lib.hid (KQ.out.next hb0)
  have hs0 := hb0.size
  clear hb0 HW K0 KQ KB CW
  go_upto_region 4 with (first
    | (with_reducible refine wpList_pt rfl _ rfl nb rfl p P0.out ?_)
    | (go_at_call 8; (with_reducible refine (CP.out _).mono ?_); rintro e y1 ⟨rfl, hb1⟩)
    | (refine wpList_ptst rfl _ _ rfl y1.heap.size rfl OFF zeroP rfl (ptblk_new _ y1 zeroP) ?_))
  obtain ⟨V1, p5, HV1, Hp5, k5, B5, hs5⟩ := fill_is y1 OFF
  refine wp_to (W := V1) (by exact HV1.out.symm) ?_
  rw [Hp5.out]
  have B1 : Below y0.heap.size y0 V1 := bw_trans hb1 (by rw [Hp5.out]; exact B5)
  have F5 := Lib.hid k5
  have P1 := Lib.hid (P0.out.next B1)
  have Q1 := Lib.hid (Q0.out.next B1)
  have T1 := Lib.hid (B0.out.trans (B1.mono (by omega)))
  have hs1 := B1.size
  clear hb1 HV1 k5 B5 B1 P0 Q0 B0 CP
  simp only [Act.put]
  refine wp_region_held_drew (S := fun V => PtBlk 28 V p5 OFF ∧ BBlk 30 V (nb + 1) q) (by kernel_rfl) (show PtBlk 28 V1.drew p5 OFF ∧ BBlk 30 V1.drew (nb + 1) q from ⟨F5.out, Q1.out⟩) (fun hHeld => ?_)
  refine wpAnyH_take (i := 0) (v := .pointer (some ⟨p5, 2, none⟩)) rfl (by kernel_rfl) (by kernel_rfl) (by kernel_rfl) (fun _ _ _ h => h) (Or.inl ⟨by rfl, fun V h => by go_simp⟩) hHeld ?_
  try simp only [Act.put, List.getElem_toArray, List.getElem_cons_succ, List.getElem_cons_zero, List.setIfInBounds_toArray, List.set_cons_zero, List.set_cons_succ]
  refine wpAnyH_take (i := 1) (v := .bool false) rfl (by kernel_rfl) (by kernel_rfl) (by kernel_rfl) (fun _ _ _ h => h) (Or.inl ⟨by rfl, fun V h => by (have h1 := h.1.c_on); rw [off0] at h1; go_simp⟩) hHeld ?_
  try simp only [Act.put, List.getElem_toArray, List.getElem_cons_succ, List.getElem_cons_zero, List.setIfInBounds_toArray, List.set_cons_zero, List.set_cons_succ]
  refine wpAnyH_take (i := 2) (v := .bool false) rfl (by kernel_rfl) (by kernel_rfl) (by kernel_rfl) (fun _ _ _ h => h) (yieldsIf_move (by rfl) _ rfl _ rfl) hHeld ?_
  try simp only [Act.put, List.getElem_toArray, List.getElem_cons_succ, List.getElem_cons_zero, List.setIfInBounds_toArray, List.set_cons_zero, List.set_cons_succ]
  refine wpAnyH_take (i := 3) (v := .agg (cellsT OFF)) rfl (by kernel_rfl) (by kernel_rfl) (by kernel_rfl) (fun _ _ _ h => h) (yieldsIf_run (by rfl) 28 _ rfl ⟨p5, 0, none⟩ rfl _ (fun V h => h.1.loadAt)) hHeld ?_
  try simp only [Act.put, List.getElem_toArray, List.getElem_cons_succ, List.getElem_cons_zero, List.setIfInBounds_toArray, List.set_cons_zero, List.set_cons_succ]
  refine wpAnyH_take (i := 4) (v := bq q) rfl (by kernel_rfl) (by kernel_rfl) (by kernel_rfl) (fun _ _ _ h => h) (yieldsIf_run (by rfl) 30 _ rfl ⟨nb + 1, 0, none⟩ rfl _ (fun V h => h.2.loadAt)) hHeld ?_
  try simp only [Act.put, List.getElem_toArray, List.getElem_cons_succ, List.getElem_cons_zero, List.setIfInBounds_toArray, List.set_cons_zero, List.set_cons_succ]
  refine wpAnyH_take (i := 6) (v := .agg (cellsT OFF)) rfl (by kernel_rfl) (by kernel_rfl) (by kernel_rfl) (fun _ _ _ h => h) (yieldsIf_run (by rfl) 28 _ rfl ⟨p5, 0, none⟩ rfl _ (fun V h => h.1.loadAt)) hHeld ?_
  try simp only [Act.put, List.getElem_toArray, List.getElem_cons_succ, List.getElem_cons_zero, List.setIfInBounds_toArray, List.set_cons_zero, List.set_cons_succ]
  unfold bq bv
  refine wpAnyH_ready (rs := [5]) (by kernel_rfl) (by simp) ?_
  refine AllReadyH.cons rfl (fun K hK => ?_) AllReadyH.nil
  go_simp
  (with_reducible refine (CH.out _).mono ?_)
  rintro e z1 ⟨rfl, hc1⟩
  have F6 := Lib.hid ((show PtBlk 28 V1.drew p5 OFF from F5.out).next hc1)
  have P2 := Lib.hid ((show PtBlk 28 V1.drew nb p from P1.out).next hc1)
  have Q2 := Lib.hid ((show BBlk 30 V1.drew (nb + 1) q from Q1.out).next hc1)
  have T2 := Lib.hid (T1.out.drew.trans (hc1.mono (show nb ≤ V1.heap.size by omega)))
  have hs2 : V1.heap.size ≤ z1.heap.size := hc1.size
  clear hHeld hc1 CH
  go_simp
  refine hK.out _ _ ⟨F6.out, Q2.out⟩ (fun hHeld => ?_)
  clear hK
  try simp only [Act.put, List.getElem_toArray, List.getElem_cons_succ, List.getElem_cons_zero, List.setIfInBounds_toArray, List.set_cons_zero, List.set_cons_succ]
  refine wpAnyH_take (i := 7) (v := .bool false) rfl (by kernel_rfl) (by kernel_rfl) (by kernel_rfl) (fun _ _ _ h => h) (Or.inl ⟨by rfl, fun V h => by go_simp⟩) hHeld ?_
  try simp only [Act.put, List.getElem_toArray, List.getElem_cons_succ, List.getElem_cons_zero, List.setIfInBounds_toArray, List.set_cons_zero, List.set_cons_succ]
  refine wpAnyH_take (i := 8) (v := .bool false) rfl (by kernel_rfl) (by kernel_rfl) (by kernel_rfl) (fun _ _ _ h => h) (Or.inl ⟨by rfl, fun V h => by go_simp⟩) hHeld ?_
  try simp only [Act.put, List.getElem_toArray, List.getElem_cons_succ, List.getElem_cons_zero, List.setIfInBounds_toArray, List.set_cons_zero, List.set_cons_succ]
  refine wpAnyH_take (i := 9) (v := .bool false) rfl (by kernel_rfl) (by kernel_rfl) (by kernel_rfl) (fun _ _ _ h => h) (yieldsIf_move (by rfl) _ rfl _ rfl) hHeld ?_
  try simp only [Act.put, List.getElem_toArray, List.getElem_cons_succ, List.getElem_cons_zero, List.setIfInBounds_toArray, List.set_cons_zero, List.set_cons_succ]
  refine wpAnyH_take (i := 10) (v := .agg (cellsT OFF)) rfl (by kernel_rfl) (by kernel_rfl) (by kernel_rfl) (fun _ _ _ h => h) (yieldsIf_run (by rfl) 28 _ rfl ⟨p5, 0, none⟩ rfl _ (fun V h => h.1.loadAt)) hHeld ?_
  try simp only [Act.put, List.getElem_toArray, List.getElem_cons_succ, List.getElem_cons_zero, List.setIfInBounds_toArray, List.set_cons_zero, List.set_cons_succ]
  refine wpAnyH_take (i := 12) (v := .agg (cellsT OFF)) rfl (by kernel_rfl) (by kernel_rfl) (by kernel_rfl) (fun _ _ _ h => h) (yieldsIf_run (by rfl) 28 _ rfl ⟨p5, 0, none⟩ rfl _ (fun V h => h.1.loadAt)) hHeld ?_
  try simp only [Act.put, List.getElem_toArray, List.getElem_cons_succ, List.getElem_cons_zero, List.setIfInBounds_toArray, List.set_cons_zero, List.set_cons_succ]
  refine wpAnyH_ready (rs := [11]) (by kernel_rfl) (by simp) ?_
  refine AllReadyH.cons rfl (fun K hK => ?_) AllReadyH.nil
  go_simp
  (with_reducible refine (CO.out _).mono ?_)
  rintro e z2 ⟨rfl, hc2⟩
  have F7 := Lib.hid (F6.out.next hc2)
  have P3 := Lib.hid (P2.out.next hc2)
  have Q3 := Lib.hid (Q2.out.next hc2)
  have T3 := Lib.hid (T2.out.trans (hc2.mono (by omega)))
  have hs3 := hc2.size
  clear hHeld hc2 CO
  go_simp
  refine hK.out _ _ ⟨F7.out, Q3.out⟩ (fun hHeld => ?_)
  clear hK
  try simp only [Act.put, List.getElem_toArray, List.getElem_cons_succ, List.getElem_cons_zero, List.setIfInBounds_toArray, List.set_cons_zero, List.set_cons_succ]
  refine wpAnyH_take (i := 13) (v := .bool false) rfl (by kernel_rfl) (by kernel_rfl) (by kernel_rfl) (fun _ _ _ h => h) (Or.inl ⟨by rfl, fun V h => by go_simp⟩) hHeld ?_
  try simp only [Act.put, List.getElem_toArray, List.getElem_cons_succ, List.getElem_cons_zero, List.setIfInBounds_toArray, List.set_cons_zero, List.set_cons_succ]
  refine wpAnyH_take (i := 14) (v := .bool false) rfl (by kernel_rfl) (by kernel_rfl) (by kernel_rfl) (fun _ _ _ h => h) (Or.inl ⟨by rfl, fun V h => by go_simp⟩) hHeld ?_
  try simp only [Act.put, List.getElem_toArray, List.getElem_cons_succ, List.getElem_cons_zero, List.setIfInBounds_toArray, List.set_cons_zero, List.set_cons_succ]
  refine wpAnyH_done (by kernel_rfl) ?_ _
  clear hHeld F5 F6 P1 P2 Q1 Q2 Q3 T1 T2
  go_upto_region 7 with (first
    | (with_reducible refine wpList_pt rfl _ rfl p5 rfl OFF F7.out ?_)
    | (go_at_call 8; (with_reducible refine (CN.out _).mono ?_); rintro e y2 ⟨rfl, hb2⟩)
    | (refine wpList_ptst rfl _ _ rfl y2.heap.size rfl ON zeroP rfl (ptblk_new _ y2 zeroP) ?_))
  obtain ⟨V2, p6, HV2, Hp6, k6, B6, hs6⟩ := fill_is y2 ON
  refine wp_to (W := V2) (by exact HV2.out.symm) ?_
  rw [Hp6.out]
  have B2 : Below z2.heap.size z2 V2 := bw_trans hb2 (by rw [Hp6.out]; exact B6)
  have G1 := Lib.hid k6
  have F8 := Lib.hid (F7.out.next B2)
  have P4 := Lib.hid (P3.out.next B2)
  have T4 := Lib.hid (T3.out.trans (B2.mono (by omega)))
  have hs4 := B2.size
  clear hb2 HV2 k6 B6 B2 P3 F7 T3 CN
  simp only [Act.put]
  refine wp_region_held_drew (S := fun V => PtBlk 28 V p6 ON) (by kernel_rfl) (show PtBlk 28 V2.drew p6 ON from G1.out) (fun hHeld => ?_)
  refine wpAnyH_take (i := 0) (v := .pointer (some ⟨p6, 2, none⟩)) rfl (by kernel_rfl) (by kernel_rfl) (by kernel_rfl) (fun _ _ _ h => h) (Or.inl ⟨by rfl, fun V h => by go_simp⟩) hHeld ?_
  try simp only [Act.put, List.getElem_toArray, List.getElem_cons_succ, List.getElem_cons_zero, List.setIfInBounds_toArray, List.set_cons_zero, List.set_cons_succ]
  refine wpAnyH_take (i := 1) (v := .bool true) rfl (by kernel_rfl) (by kernel_rfl) (by kernel_rfl) (fun _ _ _ h => h) (Or.inl ⟨by rfl, fun V h => by (have h1 := h.c_on); rw [on0] at h1; go_simp⟩) hHeld ?_
  try simp only [Act.put, List.getElem_toArray, List.getElem_cons_succ, List.getElem_cons_zero, List.setIfInBounds_toArray, List.set_cons_zero, List.set_cons_succ]
  refine wpAnyH_take (i := 2) (v := .bool false) rfl (by kernel_rfl) (by kernel_rfl) (by kernel_rfl) (fun _ _ _ h => h) (Or.inl ⟨by rfl, fun V h => by go_simp⟩) hHeld ?_
  try simp only [Act.put, List.getElem_toArray, List.getElem_cons_succ, List.getElem_cons_zero, List.setIfInBounds_toArray, List.set_cons_zero, List.set_cons_succ]
  refine wpAnyH_take (i := 3) (v := .bool false) rfl (by kernel_rfl) (by kernel_rfl) (by kernel_rfl) (fun _ _ _ h => h) (yieldsIf_move (by rfl) _ rfl _ rfl) hHeld ?_
  try simp only [Act.put, List.getElem_toArray, List.getElem_cons_succ, List.getElem_cons_zero, List.setIfInBounds_toArray, List.set_cons_zero, List.set_cons_succ]
  refine wpAnyH_take (i := 4) (v := .pointer (some ⟨p6, 5, none⟩)) rfl (by kernel_rfl) (by kernel_rfl) (by kernel_rfl) (fun _ _ _ h => h) (Or.inl ⟨by rfl, fun V h => by go_simp⟩) hHeld ?_
  try simp only [Act.put, List.getElem_toArray, List.getElem_cons_succ, List.getElem_cons_zero, List.setIfInBounds_toArray, List.set_cons_zero, List.set_cons_succ]
  refine wpAnyH_take (i := 5) (v := .int .i64 1) rfl (by kernel_rfl) (by kernel_rfl) (by kernel_rfl) (fun _ _ _ h => h) (Or.inl ⟨by rfl, fun V h => by (have h1 := h.c_source); rw [on1] at h1; go_simp⟩) hHeld ?_
  try simp only [Act.put, List.getElem_toArray, List.getElem_cons_succ, List.getElem_cons_zero, List.setIfInBounds_toArray, List.set_cons_zero, List.set_cons_succ]
  refine wpAnyH_take (i := 6) (v := .bool false) rfl (by kernel_rfl) (by kernel_rfl) (by kernel_rfl) (fun _ _ _ h => h) (Or.inl ⟨by rfl, fun V h => by go_simp⟩) hHeld ?_
  try simp only [Act.put, List.getElem_toArray, List.getElem_cons_succ, List.getElem_cons_zero, List.setIfInBounds_toArray, List.set_cons_zero, List.set_cons_succ]
  refine wpAnyH_take (i := 7) (v := .bool false) rfl (by kernel_rfl) (by kernel_rfl) (by kernel_rfl) (fun _ _ _ h => h) (Or.inl ⟨by rfl, fun V h => by go_simp⟩) hHeld ?_
  try simp only [Act.put, List.getElem_toArray, List.getElem_cons_succ, List.getElem_cons_zero, List.setIfInBounds_toArray, List.set_cons_zero, List.set_cons_succ]
  refine wpAnyH_take (i := 8) (v := .bool false) rfl (by kernel_rfl) (by kernel_rfl) (by kernel_rfl) (fun _ _ _ h => h) (yieldsIf_move (by rfl) _ rfl _ rfl) hHeld ?_
  try simp only [Act.put, List.getElem_toArray, List.getElem_cons_succ, List.getElem_cons_zero, List.setIfInBounds_toArray, List.set_cons_zero, List.set_cons_succ]
  refine wpAnyH_take (i := 9) (v := .pointer (some ⟨p6, 26, none⟩)) rfl (by kernel_rfl) (by kernel_rfl) (by kernel_rfl) (fun _ _ _ h => h) (Or.inl ⟨by rfl, fun V h => by go_simp⟩) hHeld ?_
  try simp only [Act.put, List.getElem_toArray, List.getElem_cons_succ, List.getElem_cons_zero, List.setIfInBounds_toArray, List.set_cons_zero, List.set_cons_succ]
  refine wpAnyH_take (i := 10) (v := .bool true) rfl (by kernel_rfl) (by kernel_rfl) (by kernel_rfl) (fun _ _ _ h => h) (Or.inl ⟨by rfl, fun V h => by (have h1 := h.c_reselect); rw [on2] at h1; go_simp⟩) hHeld ?_
  try simp only [Act.put, List.getElem_toArray, List.getElem_cons_succ, List.getElem_cons_zero, List.setIfInBounds_toArray, List.set_cons_zero, List.set_cons_succ]
  refine wpAnyH_take (i := 11) (v := .bool false) rfl (by kernel_rfl) (by kernel_rfl) (by kernel_rfl) (fun _ _ _ h => h) (Or.inl ⟨by rfl, fun V h => by go_simp⟩) hHeld ?_
  try simp only [Act.put, List.getElem_toArray, List.getElem_cons_succ, List.getElem_cons_zero, List.setIfInBounds_toArray, List.set_cons_zero, List.set_cons_succ]
  refine wpAnyH_take (i := 12) (v := .bool false) rfl (by kernel_rfl) (by kernel_rfl) (by kernel_rfl) (fun _ _ _ h => h) (Or.inl ⟨by rfl, fun V h => by go_simp⟩) hHeld ?_
  try simp only [Act.put, List.getElem_toArray, List.getElem_cons_succ, List.getElem_cons_zero, List.setIfInBounds_toArray, List.set_cons_zero, List.set_cons_succ]
  refine wpAnyH_take (i := 13) (v := .bool false) rfl (by kernel_rfl) (by kernel_rfl) (by kernel_rfl) (fun _ _ _ h => h) (yieldsIf_move (by rfl) _ rfl _ rfl) hHeld ?_
  try simp only [Act.put, List.getElem_toArray, List.getElem_cons_succ, List.getElem_cons_zero, List.setIfInBounds_toArray, List.set_cons_zero, List.set_cons_succ]
  refine wpAnyH_take (i := 14) (v := .pointer (some ⟨p6, 24, none⟩)) rfl (by kernel_rfl) (by kernel_rfl) (by kernel_rfl) (fun _ _ _ h => h) (Or.inl ⟨by rfl, fun V h => by go_simp⟩) hHeld ?_
  try simp only [Act.put, List.getElem_toArray, List.getElem_cons_succ, List.getElem_cons_zero, List.setIfInBounds_toArray, List.set_cons_zero, List.set_cons_succ]
  refine wpAnyH_take (i := 15) (v := .bool false) rfl (by kernel_rfl) (by kernel_rfl) (by kernel_rfl) (fun _ _ _ h => h) (Or.inl ⟨by rfl, fun V h => by (have h1 := h.c_ready); rw [on3] at h1; go_simp⟩) hHeld ?_
  try simp only [Act.put, List.getElem_toArray, List.getElem_cons_succ, List.getElem_cons_zero, List.setIfInBounds_toArray, List.set_cons_zero, List.set_cons_succ]
  refine wpAnyH_take (i := 16) (v := .bool false) rfl (by kernel_rfl) (by kernel_rfl) (by kernel_rfl) (fun _ _ _ h => h) (Or.inl ⟨by rfl, fun V h => by go_simp⟩) hHeld ?_
  try simp only [Act.put, List.getElem_toArray, List.getElem_cons_succ, List.getElem_cons_zero, List.setIfInBounds_toArray, List.set_cons_zero, List.set_cons_succ]
  refine wpAnyH_take (i := 17) (v := .bool false) rfl (by kernel_rfl) (by kernel_rfl) (by kernel_rfl) (fun _ _ _ h => h) (yieldsIf_move (by rfl) _ rfl _ rfl) hHeld ?_
  try simp only [Act.put, List.getElem_toArray, List.getElem_cons_succ, List.getElem_cons_zero, List.setIfInBounds_toArray, List.set_cons_zero, List.set_cons_succ]
  refine wpAnyH_take (i := 18) (v := .agg (cellsT ON)) rfl (by kernel_rfl) (by kernel_rfl) (by kernel_rfl) (fun _ _ _ h => h) (yieldsIf_run (by rfl) 28 _ rfl ⟨p6, 0, none⟩ rfl _ (fun V h => h.loadAt)) hHeld ?_
  try simp only [Act.put, List.getElem_toArray, List.getElem_cons_succ, List.getElem_cons_zero, List.setIfInBounds_toArray, List.set_cons_zero, List.set_cons_succ]
  refine wpAnyH_take (i := 20) (v := .agg (cellsT ON)) rfl (by kernel_rfl) (by kernel_rfl) (by kernel_rfl) (fun _ _ _ h => h) (yieldsIf_run (by rfl) 28 _ rfl ⟨p6, 0, none⟩ rfl _ (fun V h => h.loadAt)) hHeld ?_
  try simp only [Act.put, List.getElem_toArray, List.getElem_cons_succ, List.getElem_cons_zero, List.setIfInBounds_toArray, List.set_cons_zero, List.set_cons_succ]
  refine wpAnyH_ready (rs := [19]) (by kernel_rfl) (by simp) ?_
  refine AllReadyH.cons rfl (fun K hK => ?_) AllReadyH.nil
  go_simp
  (with_reducible refine (CT.out _).mono ?_)
  rintro e z3 ⟨rfl, hc3⟩
  have G2 := Lib.hid ((show PtBlk 28 V2.drew p6 ON from G1.out).next hc3)
  have F9 := Lib.hid ((show PtBlk 28 V2.drew p5 OFF from F8.out).next hc3)
  have P5 := Lib.hid ((show PtBlk 28 V2.drew nb p from P4.out).next hc3)
  have T5 := Lib.hid (T4.out.drew.trans (hc3.mono (show nb ≤ V2.heap.size by omega)))
  clear hHeld hc3 CT G1 F8 P4 T4
  go_simp
  refine hK.out _ _ G2.out (fun hHeld => ?_)
  clear hK
  try simp only [Act.put, List.getElem_toArray, List.getElem_cons_succ, List.getElem_cons_zero, List.setIfInBounds_toArray, List.set_cons_zero, List.set_cons_succ]
  refine wpAnyH_take (i := 21) (v := .bool false) rfl (by kernel_rfl) (by kernel_rfl) (by kernel_rfl) (fun _ _ _ h => h) (Or.inl ⟨by rfl, fun V h => by go_simp⟩) hHeld ?_
  try simp only [Act.put, List.getElem_toArray, List.getElem_cons_succ, List.getElem_cons_zero, List.setIfInBounds_toArray, List.set_cons_zero, List.set_cons_succ]
  refine wpAnyH_take (i := 22) (v := .bool false) rfl (by kernel_rfl) (by kernel_rfl) (by kernel_rfl) (fun _ _ _ h => h) (Or.inl ⟨by rfl, fun V h => by go_simp⟩) hHeld ?_
  try simp only [Act.put, List.getElem_toArray, List.getElem_cons_succ, List.getElem_cons_zero, List.setIfInBounds_toArray, List.set_cons_zero, List.set_cons_succ]
  refine wpAnyH_done (by kernel_rfl) ?_ _
  clear hHeld G2 nON on0 on1 on2 on3
  have c_on := P5.out.c_on
  have eq1 := run_ptEq p
  cases ho : p.on with
  | false =>
    have e2 : OFF = p := by rw [← HOFF.out]; exact off_was ho
    rw [ho] at c_on
    subst e2
    clear ho off0 HOFF
    go_wp2_with (first
      | (with_reducible refine wpList_pt rfl _ rfl p5 rfl OFF F9.out ?_)
      | (with_reducible refine wpList_pt rfl _ rfl nb rfl OFF P5.out ?_))
    go_ret
    exact ⟨rfl, HN.out ▸ T5.out⟩
  | true =>
    have e2 := off_is ho
    rw [HOFF.out] at e2
    have c1 := F9.out.c_source
    have c2 := F9.out.c_proposed
    have c3 := F9.out.c_agreed
    have c4 := F9.out.c_info
    have c5 := F9.out.c_oper
    have c6 := F9.out.c_reselect
    have c7 := P5.out.c_admin
    rw [e2] at c1 c2 c3 c4 c5 c6
    dsimp only at c1 c2 c3 c4 c5 c6
    rw [ho] at c_on
    clear e2 ho off0 HOFF nOFF eq1
    go_wp2
    go_ret
    exact ⟨rfl, HN.out ▸ T5.out⟩
end Go.Proofs.Ytlgeajmnanoabaa
