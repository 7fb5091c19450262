/-
  Layer 11: Hear.
-/
import Derived.Test.YtbiggckddoeghaaInL
namespace Go.Proofs.Ytbiggckddoeghaa
set_option linter.unusedVariables false
set_option linter.unusedSimpArgs false
open Go.RowKit Vm Rm Bm Im

theorem PtBlk.nextB {T : TypeId} {w w' : World} {b : Nat} {p : Pt} (h : PtBlk T w b p) (hb : Below w.heap.size w w') : PtBlk T w' b p := h.next hb
/-- A port, a BPDU, and an empty port, behind a world. -/
theorem pbz_is (T T' T2 : TypeId) (w : World) (p : Pt) (q : Bp) : ∃ (W : World) (nb : Nat), Hid ((((w.alloc (.cells (cellsT p) T)).alloc (.cells (bcells q) T')).alloc (.cells (cellsT zeroP) T2)) = W) ∧ Hid (w.heap.size = nb) ∧ PtBlk T W nb p ∧ BBlk T' W (nb + 1) q ∧ PtBlk T2 W (nb + 2) zeroP ∧ Below nb w W := by
  obtain ⟨V, nb, HV, HN, k0, k1, kB⟩ := pb_is T T' w p q
  have e := HN.out
  have hs : V.heap.size = nb + 2 := by rw [← HV.out, size_box, size_box, e]
  refine ⟨V.alloc (.cells (cellsT zeroP) T2), nb, Lib.hid (by rw [HV.out]), HN, k0.next (below_box _ _), k1.next (below_box _ _), ?_, kB.trans ((below_box V _).mono (by omega))⟩
  rw [← hs]
  exact ptblk_new T2 V zeroP

set_option maxRecDepth 20000 in
set_option maxHeartbeats 1000000 in
theorem hear_off_w (p : Pt) (q : Bp) (w : World) (h : p.on = false) :
    Calls Try.prog 10 #[.agg (cellsT p), bq q] w fun e w' => e = .returned (.agg (cellsT p)) ∧ Below w.heap.size w w' := by
  obtain ⟨W, nb, HW, HN, k0, k1, k2, kB⟩ := pbz_is 28 30 28 w p q
  have K0 := Lib.hid k0
  have K1 := Lib.hid k2
  have KB := Lib.hid kB
  have c_on := k0.c_on
  rw [h] at c_on
  clear k0 k1 k2 kB h
  unfold bq bv
  go_enter Try.func10, Try.ntmps10
  go_upto_region 1 with (fail)
  refine wp_to (W := W) (by exact HW.out.symm) ?_
  rw [HN.out]
  go_upto_region 2 with (fail)
  refine wp_region_list ?_
  refine wpList_load_row rfl 28 _ rfl nb rfl 28 (cellsT p) (0, 0) _ K0.out rfl rfl infoSP ?_
  refine wpList_store_row rfl 28 _ _ rfl (nb + 2) (cellsT p) rfl rfl 28 _ K1.out infoSP rfl (cellsT_one p) ?_
  have K5 := Lib.hid (K1.out.row p)
  have K6 := Lib.hid (below_row KB.out (g := nb + 2) (by omega) (cellsT p))
  go_wp2
  exact bodyPost_ret (v := .agg (cellsT p)) (results_cell_row rfl _ _ (nb + 2) 28 (cellsT p) (0, 0) _ rfl K5.out rfl rfl infoSP) rfl ⟨rfl, HN.out ▸ K6.out⟩

set_option maxRecDepth 20000 in
set_option maxHeartbeats 1000000 in
theorem hear_bad_w (p : Pt) (q : Bp) (w : World) (h : p.on = true) (hq : heardB q = false) :
    Calls Try.prog 10 #[.agg (cellsT p), bq q] w fun e w' => e = .returned (.agg (cellsT p)) ∧ Below w.heap.size w w' := by
  obtain ⟨W, nb, HW, HN, k0, k1, k2, kB⟩ := pbz_is 28 30 28 w p q
  have K0 := Lib.hid k0
  have KQ := Lib.hid k1
  have K1 := Lib.hid k2
  have KB := Lib.hid kB
  have c_on := k0.c_on
  rw [h] at c_on
  obtain ⟨RB, hRB⟩ : ∃ RB, rightB q = RB := ⟨_, rfl⟩
  have CR := Lib.hid (fun w' => by
    have h := right_any q.kind q.flags q.root q.cost q.bridge q.port q.age q.max q.hello q.delay w'
    rw [show rightB ⟨q.kind, q.flags, q.root, q.cost, q.bridge, q.port, q.age, q.max, q.hello, q.delay⟩ = RB from hRB] at h
    exact h)
  obtain ⟨d0, d1, d2, d3, d4, d5, d6, d7, d8, d9⟩ := k1.rd
  have hsz := k2.lt
  unfold heardB at hq
  rw [hRB] at hq
  clear k0 k1 k2 kB h hRB
  unfold bq
  unfold bv at CR ⊢
  go_enter Try.func10, Try.ntmps10
  go_upto_region 1 with (fail)
  refine wp_to (W := W) (by exact HW.out.symm) ?_
  rw [HN.out]
  go_wp2_with fail
  (with_reducible refine (CR.out _).mono ?_)
  rintro e w1 ⟨rfl, hb1⟩
  have D1 := Lib.hid (KB.out.trans (hb1.mono (by omega)))
  have L0 := Lib.hid (K0.out.next hb1)
  have L1 := Lib.hid (K1.out.next hb1)
  have LQ := Lib.hid (KQ.out.next hb1)
  have hsz1 := hb1.size
  clear hb1 c_on d0 d1 d2 d3 d4 d5 d6 d7 d8 d9
  obtain ⟨d0, d1, d2, d3, d4, d5, d6, d7, d8, d9⟩ := LQ.out.rd
  cases RB
  · clear hq
    go_upto_region 2 with (fail)
    refine wp_region_list ?_
    refine wpList_load_row rfl 28 _ rfl nb rfl 28 (cellsT p) (0, 0) _ L0.out rfl rfl infoSP ?_
    refine wpList_store_row rfl 28 _ _ rfl (nb + 2) (cellsT p) rfl rfl 28 _ L1.out infoSP rfl (cellsT_one p) ?_
    have K5 := Lib.hid (L1.out.row p)
    have K6 := Lib.hid (below_row D1.out (g := nb + 2) (by omega) (cellsT p))
    go_wp2
    exact bodyPost_ret (v := .agg (cellsT p)) (results_cell_row rfl _ _ (nb + 2) 28 (cellsT p) (0, 0) _ rfl K5.out rfl rfl infoSP) rfl ⟨rfl, HN.out ▸ K6.out⟩
  · have z : (q.kind == 2) = true := by
      rw [Bool.true_and] at hq
      simp only [Bool.not_eq_false', decide_eq_true_eq] at hq
      exact beq_iff_eq.2 hq
    clear hq
    go_upto_region 2 with (fail)
    refine wp_region_list ?_
    refine wpList_load_row rfl 28 _ rfl nb rfl 28 (cellsT p) (0, 0) _ L0.out rfl rfl infoSP ?_
    refine wpList_store_row rfl 28 _ _ rfl (nb + 2) (cellsT p) rfl rfl 28 _ L1.out infoSP rfl (cellsT_one p) ?_
    have K5 := Lib.hid (L1.out.row p)
    have K6 := Lib.hid (below_row D1.out (g := nb + 2) (by omega) (cellsT p))
    go_wp2
    exact bodyPost_ret (v := .agg (cellsT p)) (results_cell_row rfl _ _ (nb + 2) 28 (cellsT p) (0, 0) _ rfl K5.out rfl rfl infoSP) rfl ⟨rfl, HN.out ▸ K6.out⟩
theorem BBlk.drewN {T : TypeId} {w : World} {b : Nat} {q : Bp} (h : BBlk T w b q) (n : Nat) : BBlk T (w.drewN n) b q := h
theorem loadAt_row {P : Program} {w : World} {b : Nat} {T T' : TypeId} {cs : Array Value} {d : TypeDesc} (h : w.heap[b]? = some (.cells cs T' (0, 0))) (hu : P.underlying T = some d) (hd : (match d with | .struct _ | .array _ _ => true | _ => false) = true) (hi : (P.info? T).map (·.size) = some cs.size) : (Instr.loadAt T (.pointer (some ⟨b, 0, none⟩))).run P w = .ok (.agg cs) w := by
  have hv := run_loadVar_row (P := P) w b T' T cs (0, 0) d h hu hd hi
  simp only [Instr.loadAt, Instr.sureAddr, Sem.run_bind, Sem.run_pure, Result.andThen_ok, hv]
set_option maxRecDepth 100000 in
theorem PtBlk.loadAt {w : World} {b : Nat} {p : Pt} (h : PtBlk 28 w b p) : (Instr.loadAt 28 (.pointer (some ⟨b, 0, none⟩))).run Try.prog w = .ok (.agg (cellsT p)) w := loadAt_row h rfl rfl infoSP
set_option maxRecDepth 100000 in
theorem BBlk.loadAt {w : World} {b : Nat} {q : Bp} (h : BBlk 30 w b q) : (Instr.loadAt 30 (.pointer (some ⟨b, 0, none⟩))).run Try.prog w = .ok (bq q) w := loadAt_row h rfl rfl (by kernel_rfl)
/-- In a region that draws its order: a load whose run is known in every world that meets S may be taken first. -/
theorem yieldsIf_run {P : Program} {ops : Array Oper} {S : World → Prop} {op : Oper} {a : Act} (hw : Region.wanted op (yielded ops a.tmps) = true) (ty : TypeId) (x : Operand) (ho : op.op = .load ty x) (b : Addr) (hx : a.eval x = .pointer (some b)) (V : Value)
    (hS : ∀ w, S w → (Instr.loadAt ty (.pointer (some b))).run P w = .ok V w) : YieldsIf P ops S op V a :=
  .inl ⟨hw, fun w hw' => by
    unfold execOp
    simp only [ho, hx, Sem.run_bind, Sem.run_pure, Result.andThen_ok, hS w hw']⟩
theorem yieldsIf_move {P : Program} {ops : Array Oper} {S : World → Prop} {op : Oper} {a : Act} (hw : Region.wanted op (yielded ops a.tmps) = true) (x : Operand) (ho : op.op = .move x) (V : Value) (hx : a.eval x = V) : YieldsIf P ops S op V a :=
  .inl ⟨hw, fun w hw' => by
    unfold execOp
    simp only [ho, hx, Sem.run_bind, Sem.run_pure, Result.andThen_ok]⟩

set_option maxRecDepth 20000 in
set_option maxHeartbeats 2000000 in
theorem hear_yes_w (p X : Pt) (q : Bp) (k : Int) (w : World) (h : p.on = true) (hq : heardB q = true) (hd : BpHd q) (ho : p.vec.ok) (hqo : BpOk q) (hk : Hid (heardP p q = k)) (hX : Hid (answerP k (firstP p q) q = X)) (h3 : k = 4 → q.kind = 3) :
    Calls Try.prog 10 #[.agg (cellsT p), bq q] w fun e w' => e = .returned (.agg (cellsT X)) ∧ Below w.heap.size w w' := by
  obtain ⟨W, nb, HW, HN, k0, k1, k2, kB⟩ := pbz_is 28 30 28 w p q
  have K0 := Lib.hid k0
  have KQ := Lib.hid k1
  have K1 := Lib.hid k2
  have KB := Lib.hid kB
  have c_on := k0.c_on
  rw [h] at c_on
  have hr : rightB q = true := by unfold heardB at hq; simp only [Bool.and_eq_true] at hq; exact hq.1
  have z : (q.kind == 2) = false := by
    unfold heardB at hq
    simp only [Bool.and_eq_true, Bool.not_eq_true', decide_eq_false_iff_not] at hq
    exact beq_eq_false_iff_ne.2 hq.2
  have hrg : 0 ≤ k ∧ k ≤ 4 := by rw [← hk.out]; exact heard_range p q
  have CR := Lib.hid (fun w' => by
    have h := right_any q.kind q.flags q.root q.cost q.bridge q.port q.age q.max q.hello q.delay w'
    rw [show rightB ⟨q.kind, q.flags, q.root, q.cost, q.bridge, q.port, q.age, q.max, q.hello, q.delay⟩ = true from hr] at h
    exact h)
  have CH := Lib.hid (fun w' => heard_w p q k w' hk hq ho hqo hd.hello.1)
  have CM := Lib.hid (fun w' => meet_w q w')
  have CA := Lib.hid (fun w' => answer_w k q w')
  have CB := Lib.hid (fun (w' : World) (g kb bb bb' cap : Nat) (T : TypeId) (hrow : w'.heap[g]? = some (.cells #[.func (.func 50) #[] #[.pointer (some ⟨bb, 0, none⟩)], .func (.func 51) #[] #[.pointer (some ⟨kb, 0, none⟩), .pointer (some ⟨bb', 0, none⟩)]] T (0, 0))) (a1 : BBlk 30 w' bb q) (a2 : One 3 w' kb (.int .i64 k)) (a3 : BBlk 30 w' bb' q) =>
    behind2_w _ _ _ _ p _ _ T g cap w' hrow (does_meet w' bb p q a1) (does_as (does_answer w' k kb bb' (firstP p q) q a2 a3 hd hrg h3) hX.out))
  obtain ⟨d0, d1, d2, d3, d4, d5, d6, d7, d8, d9⟩ := k1.rd
  have hsz := k2.lt
  clear k0 k1 k2 kB h hq hd ho hqo hk hX h3 hr hrg
  unfold bq bv at CM CA
  unfold bq
  unfold bv at CR CH ⊢
  go_enter Try.func10, Try.ntmps10
  go_upto_region 1 with (fail)
  refine wp_to (W := W) (by exact HW.out.symm) ?_
  rw [HN.out]
  go_wp2_with fail
  (with_reducible refine (CR.out _).mono ?_)
  rintro e w1 ⟨rfl, hb1⟩
  have D1 := Lib.hid (KB.out.trans (hb1.mono (by omega)))
  have L0 := Lib.hid (K0.out.next hb1)
  have L1 := Lib.hid (K1.out.next hb1)
  have LQ := Lib.hid (KQ.out.next hb1)
  have hsz1 := hb1.size
  clear hb1 c_on d0 d1 d2 d3 d4 d5 d6 d7 d8 d9
  obtain ⟨d0, d1, d2, d3, d4, d5, d6, d7, d8, d9⟩ := LQ.out.rd
  go_upto_region 3 with (fail)
  refine wp_region_list ?_
  refine wpList_load_row rfl 28 _ rfl nb rfl 28 (cellsT p) (0, 0) _ L0.out rfl rfl infoSP ?_
  go_wp2_with fail
  (with_reducible refine (CH.out _).mono ?_)
  rintro e w2 ⟨rfl, hb2⟩
  have D2 := Lib.hid (D1.out.trans (hb2.mono (by omega)))
  have M0 := Lib.hid (L0.out.next hb2)
  have M1 := Lib.hid (L1.out.next hb2)
  have MQ := Lib.hid (LQ.out.next hb2)
  have hsz2 := hb2.size
  clear hb2 d0 d1 d2 d3 d4 d5 d6 d7 d8 d9 z L0 L1 LQ D1 K0 K1 KQ KB CR CH
  have szX := cellsT_size X
  go_upto_region 4 with (fail)
  refine wp_region_held_drew (S := fun V => PtBlk 28 V nb p ∧ BBlk 30 V (nb + 1) q) (by kernel_rfl) ⟨M0.out, MQ.out⟩ (fun hHeld => ?_)
  refine wpAnyH_take (i := 0) (v := .agg (cellsT p)) rfl (by kernel_rfl) (by kernel_rfl) (by kernel_rfl) (fun _ _ _ h => h) (yieldsIf_run (by rfl) 28 _ rfl ⟨nb, 0, none⟩ rfl _ (fun V h => h.1.loadAt)) hHeld ?_
  refine wpAnyH_take (i := 1) (v := bq q) rfl (by kernel_rfl) (by kernel_rfl) (by kernel_rfl) (fun _ _ _ h => h) (yieldsIf_run (by rfl) 30 _ rfl ⟨nb + 1, 0, none⟩ rfl _ (fun V h => h.2.loadAt)) hHeld ?_
  refine wpAnyH_take (i := 3) (v := .int .i64 k) rfl (by kernel_rfl) (by kernel_rfl) (by kernel_rfl) (fun _ _ _ h => h) (yieldsIf_move (by rfl) _ rfl _ rfl) hHeld ?_
  refine wpAnyH_take (i := 4) (v := bq q) rfl (by kernel_rfl) (by kernel_rfl) (by kernel_rfl) (fun _ _ _ h => h) (yieldsIf_run (by rfl) 30 _ rfl ⟨nb + 1, 0, none⟩ rfl _ (fun V h => h.2.loadAt)) hHeld ?_
  try simp only [Act.put, List.setIfInBounds_toArray, List.set_cons_zero, List.set_cons_succ]
  unfold bq bv
  refine wpAnyH_ready (rs := [2]) (by kernel_rfl) (by simp) ?_
  refine AllReadyH.cons rfl (fun K hK => ?_) AllReadyH.nil
  go_simp
  (with_reducible refine (CM.out _).mono ?_)
  rintro e y0 ⟨rfl, hm0, hb0⟩
  have E0 := ((Below.refl w2.heap.size w2).drew).trans hb0
  have N0 := Lib.hid (M0.out.next E0)
  have N1 := Lib.hid (M1.out.next E0)
  have NQ := Lib.hid (MQ.out.next E0)
  have ME := Lib.hid hm0
  have ED := Lib.hid (D2.out.trans (E0.mono (by omega)))
  have hs0 := E0.size
  clear hHeld hm0 hb0 E0
  go_simp
  refine hK.out _ _ ⟨N0.out, NQ.out⟩ (fun hHeld => ?_)
  clear hK
  refine wpAnyH_ready (rs := [5]) (by kernel_rfl) (by simp) ?_
  refine AllReadyH.cons rfl (fun K hK => ?_) AllReadyH.nil
  go_simp
  (with_reducible refine (CA.out _).mono ?_)
  rintro e y1 ⟨rfl, ha1, ha2, hb1⟩
  have P0 := Lib.hid (N0.out.next hb1)
  have P1 := Lib.hid (N1.out.next hb1)
  have PQ := Lib.hid (NQ.out.next hb1)
  have PE := Lib.hid (ME.out.next hb1)
  have AE := Lib.hid ha1
  have AQ := Lib.hid ha2
  have FD := Lib.hid (ED.out.trans (hb1.mono (by omega)))
  have hs1 := hb1.size
  clear hHeld ha1 ha2 hb1
  go_simp
  refine hK.out _ _ ⟨P0.out, PQ.out⟩ (fun hHeld => ?_)
  clear hK
  try simp only [Act.put, List.setIfInBounds_toArray, List.set_cons_zero, List.set_cons_succ]
  refine wpAnyH_ready (rs := [6]) (by kernel_rfl) (by simp) ?_
  refine AllReadyH.cons rfl (fun K hK => ?_) AllReadyH.nil
  go_simp
  have Z := fun c => below_box y1 c
  refine hK.out _ _ ⟨P0.out.next (Z _), PQ.out.next (Z _)⟩ (fun hHeld => ?_)
  clear hK
  try simp only [Act.put, List.setIfInBounds_toArray, List.set_cons_zero, List.set_cons_succ]
  refine wpAnyH_ready (rs := [7]) (by kernel_rfl) (by simp) ?_
  refine AllReadyH.cons rfl (fun K hK => ?_) AllReadyH.nil
  go_simp
  refine (CB.out _ _ _ _ _ _ _ (heap_alloc_new y1 _) (PE.out.next (Z _)) (AE.out.next (Z _)) (AQ.out.next (Z _))).mono ?_
  rintro e y2 ⟨rfl, hb2⟩
  have G := (bw_trans (Z _) hb2)
  have Q0 := Lib.hid (P0.out.next G)
  have QQ := Lib.hid (PQ.out.next G)
  have Q1 := Lib.hid (P1.out.next G)
  have GD := Lib.hid (FD.out.trans (G.mono (by omega)))
  clear hHeld hb2 G Z
  go_simp
  refine hK.out _ _ ⟨Q0.out, QQ.out⟩ (fun hHeld => ?_)
  clear hK hHeld
  try simp only [Act.put, List.setIfInBounds_toArray, List.set_cons_zero, List.set_cons_succ]
  refine wpAnyH_ready (rs := [8]) (by kernel_rfl) (by simp) ?_
  refine AllReadyH.cons rfl (fun K hK => ?_) AllReadyH.nil
  have st := Q1.out.stores X
  go_simp
  have K5 := Lib.hid (Q1.out.row X)
  have K6 := Lib.hid (below_row GD.out (g := nb + 2) (by omega) (cellsT X))
  refine hK.out _ _ ⟨?_, ?_⟩ (fun hHeld => ?_)
  · exact Q0.out.same (setRow_other y2 _ _ _ (by omega))
  · exact QQ.out.same (setRow_other y2 _ _ _ (by omega))
  refine wpAnyH_done (by kernel_rfl) ?_ _
  clear hK hHeld st
  try simp only [Act.put, List.setIfInBounds_toArray, List.set_cons_zero, List.set_cons_succ]
  go_wp2
  exact bodyPost_ret (v := .agg (cellsT X)) (results_cell_row rfl _ _ (nb + 2) 28 (cellsT X) (0, 0) _ rfl K5.out rfl rfl infoSP) rfl ⟨rfl, HN.out ▸ K6.out⟩

end Go.Proofs.Ytbiggckddoeghaa
