/-
  Layer 11: InfoTells, walked.
-/
import Derived.Test.YtbiggckddoeghaaInDi
import Derived.Test.YtbiggckddoeghaaInOf
import Derived.Test.YtbiggckddoeghaaInY
namespace Go.Proofs.Ytbiggckddoeghaa
set_option linter.unusedVariables false
set_option linter.unusedSimpArgs false
open Go.RowKit Vm Rm Bm Im

set_option maxRecDepth 100000 in
set_option maxHeartbeats 4000000 in
theorem run_ptEqR (p : Pt) (w : World) : Sem.run Try.prog (binOp .eql 34 (.agg (cellsT p)) (.agg (cellsT p))) w = .ok (.bool true) w := by
  unfold cellsT
  go_simp
set_option maxRecDepth 100000 in
theorem PtBlk.loadRP {w : World} {b : Nat} {p : Pt} (h : PtBlk 34 w b p) : (Instr.loadAt 34 (.pointer (some ⟨b, 0, none⟩))).run Try.prog w = .ok (.agg (cellsT p)) w := loadAt_row h rfl rfl infoRP
set_option maxRecDepth 100000 in
theorem wpList_rptst {ops : Array Oper} {rest : List Oper} {op : Oper} {a : Act} {w : World} {Q : Exit → Act → World → Prop} (hgd : op.guard = none) (x y : Operand) (ho : op.op = .store 34 x y)
    (b : Nat) (hx : a.eval x = .pointer (some ⟨b, 0, none⟩)) (p q : Pt) (hy : a.eval y = .agg (cellsT p)) (hc : PtBlk 34 w b q)
    (h : wpList Try.prog ops Q rest (a.put op.dst undef) (w.setRow b (cellsT p))) : wpList Try.prog ops Q (op :: rest) a w :=
  wpList_store_row hgd 34 x y ho b (cellsT p) hx hy 34 _ hc infoRP rfl (cellsT_one p) h
theorem rfill_is (w : World) (p : Pt) : ∃ (V : World) (b : Nat), Hid ((w.alloc (.cells (cellsT zeroP) 34)).setRow w.heap.size (cellsT p) = V) ∧ Hid (w.heap.size = b) ∧ PtBlk 34 V b p ∧ Below b w V ∧ b < V.heap.size :=
  ⟨_, _, Lib.hid rfl, Lib.hid rfl, (ptblk_new _ w zeroP).row p, below_row (below_box w _) (Nat.le_refl _) _, ((ptblk_new 34 w zeroP).row p).lt⟩

set_option maxRecDepth 20000 in
set_option maxHeartbeats 4000000 in
theorem infoTells_any (p : Pt) (q : Bp) (on : Bool) (w : World) (hp : PtOk p) (hq : BpOk q) :
    Calls Try.prog 3 #[.agg (cellsT p), bq q, .bool on] w fun e w' => e = .returned (.bool true) ∧ Below w.heap.size w w' := by
  obtain ⟨W, nb, HW, HN, k0, k1, kB⟩ := pb_is 28 30 w p q
  have K0 := Lib.hid k0
  have KQ := Lib.hid k1
  have KB := Lib.hid kB
  have hsz := k1.lt
  obtain ⟨XP, hXP⟩ : ∃ X, powerP p on = X := ⟨_, rfl⟩
  obtain ⟨XH, hXH⟩ : ∃ X, hearP p q = X := ⟨_, rfl⟩
  obtain ⟨XA, hXA⟩ : ∃ X, ageP p = X := ⟨_, rfl⟩
  obtain ⟨XS, hXS⟩ : ∃ X, settleP p = X := ⟨_, rfl⟩
  have CF := Lib.hid (fun (X : Pt) w' => of11_w X w')
  have CP := Lib.hid (fun w' => power_w p XP on w' (Lib.hid hXP))
  have RP := Lib.hid (fun w' => rpower_w p XP on w' (Lib.hid hXP))
  have CH := Lib.hid (fun w' => hear_w p XH q w' hp.vec hq (Lib.hid hXH))
  have RH := Lib.hid (fun w' => rhear_w p XH q w' hp.vec hq (Lib.hid hXH))
  have CA := Lib.hid (fun w' => age11_w p XA w' (Lib.hid hXA))
  have RA := Lib.hid (fun w' => rage_w p XA w' (Lib.hid hXA))
  have CS := Lib.hid (fun w' => settle11_w p XS w' (Lib.hid hXS))
  have RS := Lib.hid (fun w' => rsettle_w p XS w' (Lib.hid hXS))
  have n1 := run_ptEqR XP
  have n2 := run_ptEqR XH
  have n3 := run_ptEqR XA
  have n4 := run_ptEqR XS
  have CW := Lib.hid (fun w' => awake_any w')
  clear k0 k1 kB hXP hXH hXA hXS hp hq
  unfold bq
  unfold bv at ⊢
  unfold bq bv at CH RH
  go_enter Try.func3, Try.ntmps3
  go_upto_region 1 with (fail)
  refine wp_to (W := W) (by exact HW.out.symm) ?_
  rw [HN.out]
  go_upto_region 3 with (go_at_call 6; (with_reducible refine (CW.out _).mono ?_); rintro e y0 ⟨rfl, hb0⟩)
  have B0 := Lib.hid (KB.out.trans (hb0.mono (by omega)))
  have P0 := Lib.hid (K0.out.next hb0)
  have Q0 := Lib.hid (KQ.out.next hb0)
  have hs0 := hb0.size
  clear hb0 HW K0 KQ KB CW
  go_upto_region 4 with (first
    | (with_reducible refine wpList_pt rfl _ rfl nb rfl p P0.out ?_)
    | (go_at_call 7; (with_reducible refine (CF.out _ _).mono ?_); rintro e y1 ⟨rfl, hb1⟩)
    | (refine wpList_rptst rfl _ _ rfl y1.heap.size rfl p zeroP rfl (ptblk_new _ y1 zeroP) ?_))
  obtain ⟨V1, r, HV1, Hr, k5, B5, hs5⟩ := rfill_is y1 p
  refine wp_to (W := V1) (by exact HV1.out.symm) ?_
  rw [Hr.out]
  have B1 : Below y0.heap.size y0 V1 := bw_trans hb1 (by rw [Hr.out]; exact B5)
  have R1 := Lib.hid k5
  have P1 := Lib.hid (P0.out.next B1)
  have Q1 := Lib.hid (Q0.out.next B1)
  have T1 := Lib.hid (B0.out.trans (B1.mono (by omega)))
  have hs1 := B1.size
  clear hb1 HV1 k5 B5 B1 P0 Q0 B0
  simp only [Act.put]
  refine wp_region_held_drew (S := fun V => PtBlk 28 V nb p ∧ BBlk 30 V (nb + 1) q ∧ PtBlk 34 V r p) (by kernel_rfl) (show PtBlk 28 V1.drew nb p ∧ BBlk 30 V1.drew (nb + 1) q ∧ PtBlk 34 V1.drew r p from ⟨P1.out, Q1.out, R1.out⟩) (fun hHeld => ?_)
  refine wpAnyH_take (i := 0) (v := .agg (cellsT p)) rfl (by kernel_rfl) (by kernel_rfl) (by kernel_rfl) (fun _ _ _ h => h) (yieldsIf_run (by rfl) 28 _ rfl ⟨nb, 0, none⟩ rfl _ (fun V h => h.1.loadAt)) hHeld ?_
  try simp only [Act.put, List.getElem_toArray, List.getElem_cons_succ, List.getElem_cons_zero, List.setIfInBounds_toArray, List.set_cons_zero, List.set_cons_succ]
  refine wpAnyH_take (i := 1) (v := .bool on) rfl (by kernel_rfl) (by kernel_rfl) (by kernel_rfl) (fun _ _ _ h => h) (yieldsIf_move (by rfl) _ rfl _ rfl) hHeld ?_
  try simp only [Act.put, List.getElem_toArray, List.getElem_cons_succ, List.getElem_cons_zero, List.setIfInBounds_toArray, List.set_cons_zero, List.set_cons_succ]
  refine wpAnyH_take (i := 4) (v := .agg (cellsT p)) rfl (by kernel_rfl) (by kernel_rfl) (by kernel_rfl) (fun _ _ _ h => h) (yieldsIf_run (by rfl) 34 _ rfl ⟨r, 0, none⟩ rfl _ (fun V h => h.2.2.loadRP)) hHeld ?_
  try simp only [Act.put, List.getElem_toArray, List.getElem_cons_succ, List.getElem_cons_zero, List.setIfInBounds_toArray, List.set_cons_zero, List.set_cons_succ]
  refine wpAnyH_take (i := 5) (v := .bool on) rfl (by kernel_rfl) (by kernel_rfl) (by kernel_rfl) (fun _ _ _ h => h) (yieldsIf_move (by rfl) _ rfl _ rfl) hHeld ?_
  try simp only [Act.put, List.getElem_toArray, List.getElem_cons_succ, List.getElem_cons_zero, List.setIfInBounds_toArray, List.set_cons_zero, List.set_cons_succ]
  refine wpAnyH_ready (rs := [2]) (by kernel_rfl) (by simp) ?_
  refine AllReadyH.cons rfl (fun K hK => ?_) AllReadyH.nil
  go_simp
  (with_reducible refine (CP.out _).mono ?_)
  rintro e z2 ⟨rfl, hc⟩
  have P2 := Lib.hid ((show PtBlk 28 V1.drew nb p from P1.out).next hc)
  have Q2 := Lib.hid ((show BBlk 30 V1.drew (nb + 1) q from Q1.out).next hc)
  have R2 := Lib.hid ((show PtBlk 34 V1.drew r p from R1.out).next hc)
  have T2 := Lib.hid (T1.out.drew.trans (hc.mono (by have h := hs1; show nb ≤ V1.heap.size; omega)))
  have hs2 : nb ≤ z2.heap.size := by have h1 := P2.out.lt; omega
  clear hHeld hc P1 Q1 R1 T1 hs1
  go_simp
  refine hK.out _ _ ⟨P2.out, Q2.out, R2.out⟩ (fun hHeld => ?_)
  clear hK
  try simp only [Act.put, List.getElem_toArray, List.getElem_cons_succ, List.getElem_cons_zero, List.setIfInBounds_toArray, List.set_cons_zero, List.set_cons_succ]
  refine wpAnyH_ready (rs := [3]) (by kernel_rfl) (by simp) ?_
  refine AllReadyH.cons rfl (fun K hK => ?_) AllReadyH.nil
  go_simp
  (with_reducible refine (CF.out _ _).mono ?_)
  rintro e z3 ⟨rfl, hc⟩
  have P3 := Lib.hid (P2.out.next hc)
  have Q3 := Lib.hid (Q2.out.next hc)
  have R3 := Lib.hid (R2.out.next hc)
  have T3 := Lib.hid (T2.out.trans (hc.mono (by have h := hs2; omega)))
  have hs3 : nb ≤ z3.heap.size := by have h1 := P3.out.lt; omega
  clear hHeld hc P2 Q2 R2 T2 hs2
  go_simp
  refine hK.out _ _ ⟨P3.out, Q3.out, R3.out⟩ (fun hHeld => ?_)
  clear hK
  try simp only [Act.put, List.getElem_toArray, List.getElem_cons_succ, List.getElem_cons_zero, List.setIfInBounds_toArray, List.set_cons_zero, List.set_cons_succ]
  refine wpAnyH_ready (rs := [6]) (by kernel_rfl) (by simp) ?_
  refine AllReadyH.cons rfl (fun K hK => ?_) AllReadyH.nil
  go_simp
  (with_reducible refine (RP.out _).mono ?_)
  rintro e z4 ⟨rfl, hc⟩
  have P4 := Lib.hid (P3.out.next hc)
  have Q4 := Lib.hid (Q3.out.next hc)
  have R4 := Lib.hid (R3.out.next hc)
  have T4 := Lib.hid (T3.out.trans (hc.mono (by have h := hs3; omega)))
  have hs4 : nb ≤ z4.heap.size := by have h1 := P4.out.lt; omega
  clear hHeld hc P3 Q3 R3 T3 hs3
  go_simp
  refine hK.out _ _ ⟨P4.out, Q4.out, R4.out⟩ (fun hHeld => ?_)
  clear hK
  try simp only [Act.put, List.getElem_toArray, List.getElem_cons_succ, List.getElem_cons_zero, List.setIfInBounds_toArray, List.set_cons_zero, List.set_cons_succ]
  refine wpAnyH_take (i := 7) (v := .bool true) rfl (by kernel_rfl) (by kernel_rfl) (by kernel_rfl) (fun _ _ _ h => h) (Or.inl ⟨by rfl, fun V h => by go_simp⟩) hHeld ?_
  try simp only [Act.put, List.getElem_toArray, List.getElem_cons_succ, List.getElem_cons_zero, List.setIfInBounds_toArray, List.set_cons_zero, List.set_cons_succ]
  refine wpAnyH_take (i := 8) (v := .bool true) rfl (by kernel_rfl) (by kernel_rfl) (by kernel_rfl) (fun _ _ _ h => h) (yieldsIf_move (by rfl) _ rfl _ rfl) hHeld ?_
  try simp only [Act.put, List.getElem_toArray, List.getElem_cons_succ, List.getElem_cons_zero, List.setIfInBounds_toArray, List.set_cons_zero, List.set_cons_succ]
  refine wpAnyH_take (i := 9) (v := .agg (cellsT p)) rfl (by kernel_rfl) (by kernel_rfl) (by kernel_rfl) (fun _ _ _ h => h) (yieldsIf_run (by rfl) 28 _ rfl ⟨nb, 0, none⟩ rfl _ (fun V h => h.1.loadAt)) hHeld ?_
  try simp only [Act.put, List.getElem_toArray, List.getElem_cons_succ, List.getElem_cons_zero, List.setIfInBounds_toArray, List.set_cons_zero, List.set_cons_succ]
  refine wpAnyH_take (i := 10) (v := bq q) rfl (by kernel_rfl) (by kernel_rfl) (by kernel_rfl) (fun _ _ _ h => h) (yieldsIf_run (by rfl) 30 _ rfl ⟨nb + 1, 0, none⟩ rfl _ (fun V h => h.2.1.loadAt)) hHeld ?_
  try simp only [Act.put, List.getElem_toArray, List.getElem_cons_succ, List.getElem_cons_zero, List.setIfInBounds_toArray, List.set_cons_zero, List.set_cons_succ]
  refine wpAnyH_take (i := 13) (v := .agg (cellsT p)) rfl (by kernel_rfl) (by kernel_rfl) (by kernel_rfl) (fun _ _ _ h => h) (yieldsIf_run (by rfl) 34 _ rfl ⟨r, 0, none⟩ rfl _ (fun V h => h.2.2.loadRP)) hHeld ?_
  try simp only [Act.put, List.getElem_toArray, List.getElem_cons_succ, List.getElem_cons_zero, List.setIfInBounds_toArray, List.set_cons_zero, List.set_cons_succ]
  refine wpAnyH_take (i := 14) (v := bq q) rfl (by kernel_rfl) (by kernel_rfl) (by kernel_rfl) (fun _ _ _ h => h) (yieldsIf_run (by rfl) 30 _ rfl ⟨nb + 1, 0, none⟩ rfl _ (fun V h => h.2.1.loadAt)) hHeld ?_
  try simp only [Act.put, List.getElem_toArray, List.getElem_cons_succ, List.getElem_cons_zero, List.setIfInBounds_toArray, List.set_cons_zero, List.set_cons_succ]
  unfold bq bv
  refine wpAnyH_ready (rs := [11]) (by kernel_rfl) (by simp) ?_
  refine AllReadyH.cons rfl (fun K hK => ?_) AllReadyH.nil
  go_simp
  (with_reducible refine (CH.out _).mono ?_)
  rintro e z5 ⟨rfl, hc⟩
  have P5 := Lib.hid (P4.out.next hc)
  have Q5 := Lib.hid (Q4.out.next hc)
  have R5 := Lib.hid (R4.out.next hc)
  have T5 := Lib.hid (T4.out.trans (hc.mono (by have h := hs4; omega)))
  have hs5 : nb ≤ z5.heap.size := by have h1 := P5.out.lt; omega
  clear hHeld hc P4 Q4 R4 T4 hs4
  go_simp
  refine hK.out _ _ ⟨P5.out, Q5.out, R5.out⟩ (fun hHeld => ?_)
  clear hK
  try simp only [Act.put, List.getElem_toArray, List.getElem_cons_succ, List.getElem_cons_zero, List.setIfInBounds_toArray, List.set_cons_zero, List.set_cons_succ]
  refine wpAnyH_ready (rs := [12]) (by kernel_rfl) (by simp) ?_
  refine AllReadyH.cons rfl (fun K hK => ?_) AllReadyH.nil
  go_simp
  (with_reducible refine (CF.out _ _).mono ?_)
  rintro e z6 ⟨rfl, hc⟩
  have P6 := Lib.hid (P5.out.next hc)
  have Q6 := Lib.hid (Q5.out.next hc)
  have R6 := Lib.hid (R5.out.next hc)
  have T6 := Lib.hid (T5.out.trans (hc.mono (by have h := hs5; omega)))
  have hs6 : nb ≤ z6.heap.size := by have h1 := P6.out.lt; omega
  clear hHeld hc P5 Q5 R5 T5 hs5
  go_simp
  refine hK.out _ _ ⟨P6.out, Q6.out, R6.out⟩ (fun hHeld => ?_)
  clear hK
  try simp only [Act.put, List.getElem_toArray, List.getElem_cons_succ, List.getElem_cons_zero, List.setIfInBounds_toArray, List.set_cons_zero, List.set_cons_succ]
  refine wpAnyH_ready (rs := [15]) (by kernel_rfl) (by simp) ?_
  refine AllReadyH.cons rfl (fun K hK => ?_) AllReadyH.nil
  go_simp
  (with_reducible refine (RH.out _).mono ?_)
  rintro e z7 ⟨rfl, hc⟩
  have P7 := Lib.hid (P6.out.next hc)
  have Q7 := Lib.hid (Q6.out.next hc)
  have R7 := Lib.hid (R6.out.next hc)
  have T7 := Lib.hid (T6.out.trans (hc.mono (by have h := hs6; omega)))
  have hs7 : nb ≤ z7.heap.size := by have h1 := P7.out.lt; omega
  clear hHeld hc P6 Q6 R6 T6 hs6
  go_simp
  refine hK.out _ _ ⟨P7.out, Q7.out, R7.out⟩ (fun hHeld => ?_)
  clear hK
  try simp only [Act.put, List.getElem_toArray, List.getElem_cons_succ, List.getElem_cons_zero, List.setIfInBounds_toArray, List.set_cons_zero, List.set_cons_succ]
  refine wpAnyH_take (i := 16) (v := .bool true) rfl (by kernel_rfl) (by kernel_rfl) (by kernel_rfl) (fun _ _ _ h => h) (Or.inl ⟨by rfl, fun V h => by go_simp⟩) hHeld ?_
  try simp only [Act.put, List.getElem_toArray, List.getElem_cons_succ, List.getElem_cons_zero, List.setIfInBounds_toArray, List.set_cons_zero, List.set_cons_succ]
  refine wpAnyH_take (i := 17) (v := .bool true) rfl (by kernel_rfl) (by kernel_rfl) (by kernel_rfl) (fun _ _ _ h => h) (Or.inl ⟨by rfl, fun V h => by go_simp⟩) hHeld ?_
  try simp only [Act.put, List.getElem_toArray, List.getElem_cons_succ, List.getElem_cons_zero, List.setIfInBounds_toArray, List.set_cons_zero, List.set_cons_succ]
  refine wpAnyH_take (i := 18) (v := .bool true) rfl (by kernel_rfl) (by kernel_rfl) (by kernel_rfl) (fun _ _ _ h => h) (yieldsIf_move (by rfl) _ rfl _ rfl) hHeld ?_
  try simp only [Act.put, List.getElem_toArray, List.getElem_cons_succ, List.getElem_cons_zero, List.setIfInBounds_toArray, List.set_cons_zero, List.set_cons_succ]
  refine wpAnyH_take (i := 19) (v := .agg (cellsT p)) rfl (by kernel_rfl) (by kernel_rfl) (by kernel_rfl) (fun _ _ _ h => h) (yieldsIf_run (by rfl) 28 _ rfl ⟨nb, 0, none⟩ rfl _ (fun V h => h.1.loadAt)) hHeld ?_
  try simp only [Act.put, List.getElem_toArray, List.getElem_cons_succ, List.getElem_cons_zero, List.setIfInBounds_toArray, List.set_cons_zero, List.set_cons_succ]
  refine wpAnyH_take (i := 22) (v := .agg (cellsT p)) rfl (by kernel_rfl) (by kernel_rfl) (by kernel_rfl) (fun _ _ _ h => h) (yieldsIf_run (by rfl) 34 _ rfl ⟨r, 0, none⟩ rfl _ (fun V h => h.2.2.loadRP)) hHeld ?_
  try simp only [Act.put, List.getElem_toArray, List.getElem_cons_succ, List.getElem_cons_zero, List.setIfInBounds_toArray, List.set_cons_zero, List.set_cons_succ]
  refine wpAnyH_ready (rs := [20]) (by kernel_rfl) (by simp) ?_
  refine AllReadyH.cons rfl (fun K hK => ?_) AllReadyH.nil
  go_simp
  (with_reducible refine (CA.out _).mono ?_)
  rintro e z8 ⟨rfl, hc⟩
  have P8 := Lib.hid (P7.out.next hc)
  have Q8 := Lib.hid (Q7.out.next hc)
  have R8 := Lib.hid (R7.out.next hc)
  have T8 := Lib.hid (T7.out.trans (hc.mono (by have h := hs7; omega)))
  have hs8 : nb ≤ z8.heap.size := by have h1 := P8.out.lt; omega
  clear hHeld hc P7 Q7 R7 T7 hs7
  go_simp
  refine hK.out _ _ ⟨P8.out, Q8.out, R8.out⟩ (fun hHeld => ?_)
  clear hK
  try simp only [Act.put, List.getElem_toArray, List.getElem_cons_succ, List.getElem_cons_zero, List.setIfInBounds_toArray, List.set_cons_zero, List.set_cons_succ]
  refine wpAnyH_ready (rs := [21]) (by kernel_rfl) (by simp) ?_
  refine AllReadyH.cons rfl (fun K hK => ?_) AllReadyH.nil
  go_simp
  (with_reducible refine (CF.out _ _).mono ?_)
  rintro e z9 ⟨rfl, hc⟩
  have P9 := Lib.hid (P8.out.next hc)
  have Q9 := Lib.hid (Q8.out.next hc)
  have R9 := Lib.hid (R8.out.next hc)
  have T9 := Lib.hid (T8.out.trans (hc.mono (by have h := hs8; omega)))
  have hs9 : nb ≤ z9.heap.size := by have h1 := P9.out.lt; omega
  clear hHeld hc P8 Q8 R8 T8 hs8
  go_simp
  refine hK.out _ _ ⟨P9.out, Q9.out, R9.out⟩ (fun hHeld => ?_)
  clear hK
  try simp only [Act.put, List.getElem_toArray, List.getElem_cons_succ, List.getElem_cons_zero, List.setIfInBounds_toArray, List.set_cons_zero, List.set_cons_succ]
  refine wpAnyH_ready (rs := [23]) (by kernel_rfl) (by simp) ?_
  refine AllReadyH.cons rfl (fun K hK => ?_) AllReadyH.nil
  go_simp
  (with_reducible refine (RA.out _).mono ?_)
  rintro e z10 ⟨rfl, hc⟩
  have P10 := Lib.hid (P9.out.next hc)
  have Q10 := Lib.hid (Q9.out.next hc)
  have R10 := Lib.hid (R9.out.next hc)
  have T10 := Lib.hid (T9.out.trans (hc.mono (by have h := hs9; omega)))
  have hs10 : nb ≤ z10.heap.size := by have h1 := P10.out.lt; omega
  clear hHeld hc P9 Q9 R9 T9 hs9
  go_simp
  refine hK.out _ _ ⟨P10.out, Q10.out, R10.out⟩ (fun hHeld => ?_)
  clear hK
  try simp only [Act.put, List.getElem_toArray, List.getElem_cons_succ, List.getElem_cons_zero, List.setIfInBounds_toArray, List.set_cons_zero, List.set_cons_succ]
  refine wpAnyH_take (i := 24) (v := .bool true) rfl (by kernel_rfl) (by kernel_rfl) (by kernel_rfl) (fun _ _ _ h => h) (Or.inl ⟨by rfl, fun V h => by go_simp⟩) hHeld ?_
  try simp only [Act.put, List.getElem_toArray, List.getElem_cons_succ, List.getElem_cons_zero, List.setIfInBounds_toArray, List.set_cons_zero, List.set_cons_succ]
  refine wpAnyH_take (i := 25) (v := .bool true) rfl (by kernel_rfl) (by kernel_rfl) (by kernel_rfl) (fun _ _ _ h => h) (Or.inl ⟨by rfl, fun V h => by go_simp⟩) hHeld ?_
  try simp only [Act.put, List.getElem_toArray, List.getElem_cons_succ, List.getElem_cons_zero, List.setIfInBounds_toArray, List.set_cons_zero, List.set_cons_succ]
  refine wpAnyH_take (i := 26) (v := .bool true) rfl (by kernel_rfl) (by kernel_rfl) (by kernel_rfl) (fun _ _ _ h => h) (yieldsIf_move (by rfl) _ rfl _ rfl) hHeld ?_
  try simp only [Act.put, List.getElem_toArray, List.getElem_cons_succ, List.getElem_cons_zero, List.setIfInBounds_toArray, List.set_cons_zero, List.set_cons_succ]
  refine wpAnyH_take (i := 27) (v := .agg (cellsT p)) rfl (by kernel_rfl) (by kernel_rfl) (by kernel_rfl) (fun _ _ _ h => h) (yieldsIf_run (by rfl) 28 _ rfl ⟨nb, 0, none⟩ rfl _ (fun V h => h.1.loadAt)) hHeld ?_
  try simp only [Act.put, List.getElem_toArray, List.getElem_cons_succ, List.getElem_cons_zero, List.setIfInBounds_toArray, List.set_cons_zero, List.set_cons_succ]
  refine wpAnyH_take (i := 30) (v := .agg (cellsT p)) rfl (by kernel_rfl) (by kernel_rfl) (by kernel_rfl) (fun _ _ _ h => h) (yieldsIf_run (by rfl) 34 _ rfl ⟨r, 0, none⟩ rfl _ (fun V h => h.2.2.loadRP)) hHeld ?_
  try simp only [Act.put, List.getElem_toArray, List.getElem_cons_succ, List.getElem_cons_zero, List.setIfInBounds_toArray, List.set_cons_zero, List.set_cons_succ]
  refine wpAnyH_ready (rs := [28]) (by kernel_rfl) (by simp) ?_
  refine AllReadyH.cons rfl (fun K hK => ?_) AllReadyH.nil
  go_simp
  (with_reducible refine (CS.out _).mono ?_)
  rintro e z11 ⟨rfl, hc⟩
  have P11 := Lib.hid (P10.out.next hc)
  have Q11 := Lib.hid (Q10.out.next hc)
  have R11 := Lib.hid (R10.out.next hc)
  have T11 := Lib.hid (T10.out.trans (hc.mono (by have h := hs10; omega)))
  have hs11 : nb ≤ z11.heap.size := by have h1 := P11.out.lt; omega
  clear hHeld hc P10 Q10 R10 T10 hs10
  go_simp
  refine hK.out _ _ ⟨P11.out, Q11.out, R11.out⟩ (fun hHeld => ?_)
  clear hK
  try simp only [Act.put, List.getElem_toArray, List.getElem_cons_succ, List.getElem_cons_zero, List.setIfInBounds_toArray, List.set_cons_zero, List.set_cons_succ]
  refine wpAnyH_ready (rs := [29]) (by kernel_rfl) (by simp) ?_
  refine AllReadyH.cons rfl (fun K hK => ?_) AllReadyH.nil
  go_simp
  (with_reducible refine (CF.out _ _).mono ?_)
  rintro e z12 ⟨rfl, hc⟩
  have P12 := Lib.hid (P11.out.next hc)
  have Q12 := Lib.hid (Q11.out.next hc)
  have R12 := Lib.hid (R11.out.next hc)
  have T12 := Lib.hid (T11.out.trans (hc.mono (by have h := hs11; omega)))
  have hs12 : nb ≤ z12.heap.size := by have h1 := P12.out.lt; omega
  clear hHeld hc P11 Q11 R11 T11 hs11
  go_simp
  refine hK.out _ _ ⟨P12.out, Q12.out, R12.out⟩ (fun hHeld => ?_)
  clear hK
  try simp only [Act.put, List.getElem_toArray, List.getElem_cons_succ, List.getElem_cons_zero, List.setIfInBounds_toArray, List.set_cons_zero, List.set_cons_succ]
  refine wpAnyH_ready (rs := [31]) (by kernel_rfl) (by simp) ?_
  refine AllReadyH.cons rfl (fun K hK => ?_) AllReadyH.nil
  go_simp
  (with_reducible refine (RS.out _).mono ?_)
  rintro e z13 ⟨rfl, hc⟩
  have P13 := Lib.hid (P12.out.next hc)
  have Q13 := Lib.hid (Q12.out.next hc)
  have R13 := Lib.hid (R12.out.next hc)
  have T13 := Lib.hid (T12.out.trans (hc.mono (by have h := hs12; omega)))
  have hs13 : nb ≤ z13.heap.size := by have h1 := P13.out.lt; omega
  clear hHeld hc P12 Q12 R12 T12 hs12
  go_simp
  refine hK.out _ _ ⟨P13.out, Q13.out, R13.out⟩ (fun hHeld => ?_)
  clear hK
  try simp only [Act.put, List.getElem_toArray, List.getElem_cons_succ, List.getElem_cons_zero, List.setIfInBounds_toArray, List.set_cons_zero, List.set_cons_succ]
  refine wpAnyH_take (i := 32) (v := .bool true) rfl (by kernel_rfl) (by kernel_rfl) (by kernel_rfl) (fun _ _ _ h => h) (Or.inl ⟨by rfl, fun V h => by go_simp⟩) hHeld ?_
  try simp only [Act.put, List.getElem_toArray, List.getElem_cons_succ, List.getElem_cons_zero, List.setIfInBounds_toArray, List.set_cons_zero, List.set_cons_succ]
  refine wpAnyH_take (i := 33) (v := .bool true) rfl (by kernel_rfl) (by kernel_rfl) (by kernel_rfl) (fun _ _ _ h => h) (Or.inl ⟨by rfl, fun V h => by go_simp⟩) hHeld ?_
  try simp only [Act.put, List.getElem_toArray, List.getElem_cons_succ, List.getElem_cons_zero, List.setIfInBounds_toArray, List.set_cons_zero, List.set_cons_succ]
  refine wpAnyH_take (i := 34) (v := .bool true) rfl (by kernel_rfl) (by kernel_rfl) (by kernel_rfl) (fun _ _ _ h => h) (Or.inl ⟨by rfl, fun V h => by go_simp⟩) hHeld ?_
  try simp only [Act.put, List.getElem_toArray, List.getElem_cons_succ, List.getElem_cons_zero, List.setIfInBounds_toArray, List.set_cons_zero, List.set_cons_succ]
  refine wpAnyH_done (by kernel_rfl) ?_ _
  clear hHeld
  go_wp2
  go_ret
  exact ⟨rfl, HN.out ▸ T13.out⟩
end Go.Proofs.Ytbiggckddoeghaa
