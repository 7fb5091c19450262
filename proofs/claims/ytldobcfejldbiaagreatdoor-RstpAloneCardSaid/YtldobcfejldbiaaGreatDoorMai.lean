/-
  Layer 11: Settle; meet and answer; Hear.
  Layer 11: Hear.
-/
import Derived.Test.YtldobcfejldbiaaGreatDoorMah
namespace Go.Proofs.YtldobcfejldbiaaGreatDoor
set_option linter.unusedVariables false
set_option linter.unusedSimpArgs false
open Go.RowKit Vm Rm Bm Im

theorem does_settle (w0 : World) (p X : Pt) (hX : Hid ({ p with proposing := false, proposed := false, agreed := p.agreed && decide (p.offer = p.vec), synced := p.synced && (p.agreed && decide (p.offer = p.vec)), vec := p.offer, times := p.given, update := false, source := 2, newInfo := true } = X)) : Does w0 152 #[] p X :=
  ⟨fun _ _ => by kernel_rfl, fun w b h _ _ => by rw [Array.append_empty]; exact settle_w b p X w h hX⟩

set_option maxRecDepth 20000 in
set_option maxHeartbeats 1000000 in
theorem settle_yes_w (p X : Pt) (w : World) (h1 : p.ready = true) (h2 : p.update = true) (hX : Hid ({ p with proposing := false, proposed := false, agreed := p.agreed && decide (p.offer = p.vec), synced := p.synced && (p.agreed && decide (p.offer = p.vec)), vec := p.offer, times := p.given, update := false, source := 2, newInfo := true } = X)) :
    Calls Tryz.prog 112 #[.agg (cellsT p)] w fun e w' => e = .returned (.agg (cellsT X)) ∧ Below w.heap.size w w' := by
  obtain ⟨W, nb, HW, HN, k0, k1, kB⟩ := twoP_is 78 w p
  have K0 := Lib.hid k0
  have K1 := Lib.hid k1
  have KB := Lib.hid kB
  have hsz := k1.lt
  have c2 := k0.c_ready
  have c4 := k0.c_update
  rw [h1] at c2
  rw [h2] at c4
  clear k0 k1 kB h1 h2
  go_enter Tryz.func112, Tryz.ntmps112
  go_upto_region 1 with (fail)
  refine wp_to (W := W) (by exact HW.out.symm) ?_
  rw [HN.out]
  go_upto_region 3 with (fail)
  refine wp_region_list ?_
  refine wpList_load_row rfl 78 _ rfl nb rfl 78 (cellsT p) (0, 0) _ K0.out rfl rfl infoSP ?_
  go_wp2_with fail
  refine (behind1_w _ _ p _ _ W.heap.size _ _ (heap_alloc_new W _) (does_settle _ p X hX)).mono ?_
  rintro e w1 ⟨rfl, hb1⟩
  dsimp only
  have hB := Lib.hid (bw_trans (below_box W _) hb1)
  clear hb1
  have K2 := Lib.hid (K1.out.next hB.out)
  have st := K2.out.stores X
  have sz := cellsT_size X
  have K5 := Lib.hid (K2.out.row X)
  have K6 := Lib.hid (below_row (KB.out.trans (hB.out.mono (by omega))) (g := nb + 1) (by omega) (cellsT X))
  go_wp2
  exact bodyPost_ret (v := .agg (cellsT X)) (results_cell_row rfl _ _ (nb + 1) 78 (cellsT X) (0, 0) _ rfl K5.out rfl rfl infoSP) rfl ⟨rfl, HN.out ▸ K6.out⟩

set_option maxRecDepth 20000 in
set_option maxHeartbeats 1000000 in
theorem settle_stays_w (p : Pt) (w : World) (h : ¬ (p.ready = true ∧ p.update = true)) :
    Calls Tryz.prog 112 #[.agg (cellsT p)] w fun e w' => e = .returned (.agg (cellsT p)) ∧ Below w.heap.size w w' := by
  obtain ⟨W, nb, HW, HN, k0, k1, kB⟩ := twoP_is 78 w p
  have K0 := Lib.hid k0
  have K1 := Lib.hid k1
  have KB := Lib.hid kB
  have hsz := k1.lt
  have c2 := k0.c_ready
  have c4 := k0.c_update
  clear k0 k1 kB
  go_enter Tryz.func112, Tryz.ntmps112
  go_upto_region 1 with (fail)
  refine wp_to (W := W) (by exact HW.out.symm) ?_
  rw [HN.out]
  cases h1 : p.ready
  · rw [h1] at c2
    clear h h1 c4
    go_upto_region 2 with (fail)
    refine wp_region_list ?_
    refine wpList_load_row rfl 78 _ rfl nb rfl 78 (cellsT p) (0, 0) _ K0.out rfl rfl infoSP ?_
    refine wpList_store_row rfl 78 _ _ rfl (nb + 1) (cellsT p) rfl rfl 78 _ K1.out infoSP rfl (cellsT_one p) ?_
    have K5 := Lib.hid (K1.out.row p)
    have K6 := Lib.hid (below_row KB.out (g := nb + 1) (by omega) (cellsT p))
    go_wp2
    exact bodyPost_ret (v := .agg (cellsT p)) (results_cell_row rfl _ _ (nb + 1) 78 (cellsT p) (0, 0) _ rfl K5.out rfl rfl infoSP) rfl ⟨rfl, HN.out ▸ K6.out⟩
  · have h3 : p.update = false := by
      cases hu : p.update
      · rfl
      · exact absurd ⟨h1, hu⟩ h
    rw [h1] at c2
    rw [h3] at c4
    clear h h1 h3
    go_upto_region 2 with (fail)
    refine wp_region_list ?_
    refine wpList_load_row rfl 78 _ rfl nb rfl 78 (cellsT p) (0, 0) _ K0.out rfl rfl infoSP ?_
    refine wpList_store_row rfl 78 _ _ rfl (nb + 1) (cellsT p) rfl rfl 78 _ K1.out infoSP rfl (cellsT_one p) ?_
    have K5 := Lib.hid (K1.out.row p)
    have K6 := Lib.hid (below_row KB.out (g := nb + 1) (by omega) (cellsT p))
    go_wp2
    exact bodyPost_ret (v := .agg (cellsT p)) (results_cell_row rfl _ _ (nb + 1) 78 (cellsT p) (0, 0) _ rfl K5.out rfl rfl infoSP) rfl ⟨rfl, HN.out ▸ K6.out⟩
theorem settle11_w (p X : Pt) (w : World) (hX : Hid (settleP p = X)) :
    Calls Tryz.prog 112 #[.agg (cellsT p)] w fun e w' => e = .returned (.agg (cellsT X)) ∧ Below w.heap.size w w' := by
  unfold settleP at hX
  by_cases h : p.ready = true ∧ p.update = true
  · rw [if_pos h] at hX
    exact settle_yes_w p X w h.1 h.2 hX
  · rw [if_neg h] at hX
    have e := hX.out
    subst e
    exact settle_stays_w p w h

/-! meet and answer: what they hand back, and what that does. -/
theorem meet_w (q : Bp) (w : World) :
    Calls Tryz.prog 84 #[bq q] w fun e w' => e = .returned (.func (.func 130) #[] #[.pointer (some ⟨w.heap.size, 0, none⟩)]) ∧ BBlk 49 w' w.heap.size q ∧ Below w.heap.size w w' := by
  have K := bqblk_new 49 w q
  unfold bq bv
  go_enter Tryz.func84, Tryz.ntmps84
  go_wp2
  go_ret
  exact ⟨rfl, K, below_box _ _⟩
theorem answer_w (k : Int) (q : Bp) (w : World) :
    Calls Tryz.prog 85 #[.int .i64 k, bq q] w fun e w' => e = .returned (.func (.func 131) #[] #[.pointer (some ⟨w.heap.size, 0, none⟩), .pointer (some ⟨w.heap.size + 1, 0, none⟩)]) ∧ One 3 w' w.heap.size (.int .i64 k) ∧ BBlk 49 w' (w.heap.size + 1) q ∧ Below w.heap.size w w' := by
  have K0 := (one_new 3 w (.int .i64 k)).next (below_box (w.alloc (.cells #[.int .i64 k] 3)) (.cells #[.int .i64 q.kind, .int .i64 q.flags, .int .u64 q.root, .int .u64 q.cost, .int .u64 q.bridge, .int .u64 q.port, .int .i64 q.age, .int .i64 q.max, .int .i64 q.hello, .int .i64 q.delay] 49))
  have K := bqblk_new 49 (w.alloc (.cells #[.int .i64 k] 3)) q
  rw [size_box] at K
  unfold bq bv
  go_enter Tryz.func85, Tryz.ntmps85
  go_wp2
  go_ret
  exact ⟨rfl, K0, K, bw_alloc (below_box _ _) _⟩

set_option maxHeartbeats 1000000 in
theorem meet1_w (b bb : Nat) (p : Pt) (q : Bp) (w : World) (h : PtBlk 78 w b p) (hq : BBlk 49 w bb q) (hne : ¬ bb = b) :
    Calls Tryz.prog 130 #[.pointer (some ⟨b, 0, none⟩), .pointer (some ⟨bb, 0, none⟩)] w fun e w' => e = .returned (.tuple #[]) ∧ Tn 78 b (firstP p q) w w' := by
  have H := Lib.hid h
  have f := h.free
  have c_1 := h.c_oper
  have c_2 := h.c_heardRstp
  have c_3 := h.c_heardStp
  obtain ⟨d0, d1, d2, d3, d4, d5, d6, d7, d8, d9⟩ := hq.rd
  have hne' : ¬ b = bb := fun e => hne e.symm
  clear h hq
  by_cases hk : q.kind = 3
  · have z : (q.kind == 3) = true := beq_iff_eq.2 hk
    have HK := Lib.hid hk
    clear hk
    go_enter Tryz.func130, Tryz.ntmps130
    go_wp2
    go_end0
    exact ⟨rfl, (((Tn.refl H.out).set 4 (.bool false) (H.out.s_oper false)).set 47 (.bool true) ((H.out.s_oper false).s_heardRstp true)).as (by unfold firstP; rw [decide_eq_true HK.out]; cases p; simp)⟩
  · have z : (q.kind == 3) = false := beq_eq_false_iff_ne.2 hk
    have HK := Lib.hid hk
    clear hk
    go_enter Tryz.func130, Tryz.ntmps130
    go_wp2
    go_end0
    exact ⟨rfl, (((Tn.refl H.out).set 4 (.bool false) (H.out.s_oper false)).set 48 (.bool true) ((H.out.s_oper false).s_heardStp true)).as (by unfold firstP; rw [decide_eq_false HK.out]; cases p; simp)⟩

/-- What is done besides, by what was heard. -/
def answerP (k : Int) (p : Pt) (q : Bp) : Pt := if k = 1 then superP p q else if k = 2 then recordP p q else if k = 3 then inferiorP p q else if k = 4 then otherP p q else p


set_option maxRecDepth 20000 in
set_option maxHeartbeats 1000000 in
theorem answer1_w (b kb bb : Nat) (p : Pt) (q : Bp) (w : World) (h : PtBlk 78 w b p) (hk : One 3 w kb (.int .i64 1)) (hq : BBlk 49 w bb q) (hne : ¬ bb = b) (hne2 : ¬ kb = b) (hd : BpHd q) :
    Calls Tryz.prog 131 #[.pointer (some ⟨b, 0, none⟩), .pointer (some ⟨kb, 0, none⟩), .pointer (some ⟨bb, 0, none⟩)] w fun e w' => e = .returned (.tuple #[]) ∧ Tn 78 b (answerP 1 p q) w w' := by
  have H := Lib.hid h
  have HQ := Lib.hid hq
  have HD := Lib.hid hd
  have ck := hk.cell
  obtain ⟨d0, d1, d2, d3, d4, d5, d6, d7, d8, d9⟩ := hq.rd
  have hbl := hq.lt
  clear h hk hq hd

  go_enter Tryz.func131, Tryz.ntmps131
  go_wp2_with fail
  refine (give_w b p q _ H.out HD.out).mono ?_
  rintro e w1 ⟨rfl, t⟩
  have T1 := Lib.hid t
  have K1 := Lib.hid (HQ.out.same (t.at hbl hne))
  clear t d0 d1 d2 d3 d4 d5 d6 d7 d8 d9
  obtain ⟨d0, d1, d2, d3, d4, d5, d6, d7, d8, d9⟩ := K1.out.rd
  go_wp2_with fail
  refine (record_w b _ q _ T1.out.blk HD.out).mono ?_
  rintro e w2 ⟨rfl, t⟩
  have T2 := Lib.hid (T1.out.trans t)
  clear t
  go_wp2
  go_end0
  exact ⟨rfl, T2.out.as (super_is p q).symm⟩

set_option maxRecDepth 20000 in
set_option maxHeartbeats 1000000 in
theorem answer2_w (b kb bb : Nat) (p : Pt) (q : Bp) (w : World) (h : PtBlk 78 w b p) (hk : One 3 w kb (.int .i64 2)) (hq : BBlk 49 w bb q) (hne : ¬ bb = b) (hne2 : ¬ kb = b) (hd : BpHd q) :
    Calls Tryz.prog 131 #[.pointer (some ⟨b, 0, none⟩), .pointer (some ⟨kb, 0, none⟩), .pointer (some ⟨bb, 0, none⟩)] w fun e w' => e = .returned (.tuple #[]) ∧ Tn 78 b (answerP 2 p q) w w' := by
  have H := Lib.hid h
  have HQ := Lib.hid hq
  have HD := Lib.hid hd
  have ck := hk.cell
  obtain ⟨d0, d1, d2, d3, d4, d5, d6, d7, d8, d9⟩ := hq.rd
  have hbl := hq.lt
  clear h hk hq hd

  go_enter Tryz.func131, Tryz.ntmps131
  go_wp2_with fail
  refine (record_w b p q _ H.out HD.out).mono ?_
  rintro e w1 ⟨rfl, t⟩
  have T1 := Lib.hid t
  clear t
  go_wp2
  go_end0
  exact ⟨rfl, T1.out⟩

set_option maxRecDepth 20000 in
set_option maxHeartbeats 1000000 in
theorem answer3_w (b kb bb : Nat) (p : Pt) (q : Bp) (w : World) (h : PtBlk 78 w b p) (hk : One 3 w kb (.int .i64 3)) (hq : BBlk 49 w bb q) (hne : ¬ bb = b) (hne2 : ¬ kb = b) (hd : BpHd q) :
    Calls Tryz.prog 131 #[.pointer (some ⟨b, 0, none⟩), .pointer (some ⟨kb, 0, none⟩), .pointer (some ⟨bb, 0, none⟩)] w fun e w' => e = .returned (.tuple #[]) ∧ Tn 78 b (answerP 3 p q) w w' := by
  have H := Lib.hid h
  have HQ := Lib.hid hq
  have HD := Lib.hid hd
  have ck := hk.cell
  obtain ⟨d0, d1, d2, d3, d4, d5, d6, d7, d8, d9⟩ := hq.rd
  have hbl := hq.lt
  clear h hk hq hd

  go_enter Tryz.func131, Tryz.ntmps131
  go_wp2_with fail
  refine (dispute_w b p q _ H.out).mono ?_
  rintro e w1 ⟨rfl, t⟩
  have T1 := Lib.hid t
  clear t
  go_wp2
  go_end0
  exact ⟨rfl, T1.out⟩

set_option maxRecDepth 20000 in
set_option maxHeartbeats 1000000 in
theorem answer4_w (b kb bb : Nat) (p : Pt) (q : Bp) (w : World) (h : PtBlk 78 w b p) (hk : One 3 w kb (.int .i64 4)) (hq : BBlk 49 w bb q) (hne : ¬ bb = b) (hne2 : ¬ kb = b) (hd : BpHd q) (h3 : q.kind = 3) :
    Calls Tryz.prog 131 #[.pointer (some ⟨b, 0, none⟩), .pointer (some ⟨kb, 0, none⟩), .pointer (some ⟨bb, 0, none⟩)] w fun e w' => e = .returned (.tuple #[]) ∧ Tn 78 b (answerP 4 p q) w w' := by
  have H := Lib.hid h
  have HQ := Lib.hid hq
  have HD := Lib.hid hd
  have ck := hk.cell
  obtain ⟨d0, d1, d2, d3, d4, d5, d6, d7, d8, d9⟩ := hq.rd
  have hbl := hq.lt
  clear h hk hq hd
  have H3 := Lib.hid h3
  clear h3
  go_enter Tryz.func131, Tryz.ntmps131
  go_wp2_with fail
  refine (agree_w b p q _ H.out H3.out).mono ?_
  rintro e w1 ⟨rfl, t⟩
  have T1 := Lib.hid t
  clear t
  go_wp2
  go_end0
  exact ⟨rfl, T1.out⟩

set_option maxRecDepth 20000 in
set_option maxHeartbeats 1000000 in
theorem answer0_w (b kb bb : Nat) (p : Pt) (q : Bp) (w : World) (h : PtBlk 78 w b p) (hk : One 3 w kb (.int .i64 0)) (hq : BBlk 49 w bb q) (hne : ¬ bb = b) (hne2 : ¬ kb = b) (hd : BpHd q) :
    Calls Tryz.prog 131 #[.pointer (some ⟨b, 0, none⟩), .pointer (some ⟨kb, 0, none⟩), .pointer (some ⟨bb, 0, none⟩)] w fun e w' => e = .returned (.tuple #[]) ∧ Tn 78 b (answerP 0 p q) w w' := by
  have H := Lib.hid h
  have HQ := Lib.hid hq
  have HD := Lib.hid hd
  have ck := hk.cell
  obtain ⟨d0, d1, d2, d3, d4, d5, d6, d7, d8, d9⟩ := hq.rd
  have hbl := hq.lt
  clear h hk hq hd

  go_enter Tryz.func131, Tryz.ntmps131
  go_wp2
  go_end0
  exact ⟨rfl, Tn.refl H.out⟩

theorem answerAny_w (k : Int) (b kb bb : Nat) (p : Pt) (q : Bp) (w : World) (h : PtBlk 78 w b p) (hk : One 3 w kb (.int .i64 k)) (hq : BBlk 49 w bb q) (hne : ¬ bb = b) (hne2 : ¬ kb = b) (hd : BpHd q) (hr : 0 ≤ k ∧ k ≤ 4) (h3 : k = 4 → q.kind = 3) :
    Calls Tryz.prog 131 #[.pointer (some ⟨b, 0, none⟩), .pointer (some ⟨kb, 0, none⟩), .pointer (some ⟨bb, 0, none⟩)] w fun e w' => e = .returned (.tuple #[]) ∧ Tn 78 b (answerP k p q) w w' := by
  obtain rfl | rfl | rfl | rfl | rfl : k = 0 ∨ k = 1 ∨ k = 2 ∨ k = 3 ∨ k = 4 := by omega
  · exact answer0_w b kb bb p q w h hk hq hne hne2 hd
  · exact answer1_w b kb bb p q w h hk hq hne hne2 hd
  · exact answer2_w b kb bb p q w h hk hq hne hne2 hd
  · exact answer3_w b kb bb p q w h hk hq hne hne2 hd
  · exact answer4_w b kb bb p q w h hk hq hne hne2 hd (h3 rfl)
theorem does_meet (w0 : World) (bb : Nat) (p : Pt) (q : Bp) (hq : BBlk 49 w0 bb q) : Does w0 130 #[.pointer (some ⟨bb, 0, none⟩)] p (firstP p q) :=
  ⟨fun _ _ => by kernel_rfl, fun w b h hB hb => meet1_w b bb p q w h (hq.next hB) (by have := hq.lt; omega)⟩
theorem does_answer (w0 : World) (k : Int) (kb bb : Nat) (p : Pt) (q : Bp) (hk : One 3 w0 kb (.int .i64 k)) (hq : BBlk 49 w0 bb q) (hd : BpHd q) (hr : 0 ≤ k ∧ k ≤ 4) (h3 : k = 4 → q.kind = 3) : Does w0 131 #[.pointer (some ⟨kb, 0, none⟩), .pointer (some ⟨bb, 0, none⟩)] p (answerP k p q) :=
  ⟨fun _ _ => by kernel_rfl, fun w b h hB hb => answerAny_w k b kb bb p q w h (hk.next hB) (hq.next hB) (by have := hq.lt; omega) (by have := hk.lt; omega) hd hr h3⟩


end Go.Proofs.YtldobcfejldbiaaGreatDoor

namespace Go.Proofs.YtldobcfejldbiaaGreatDoor
set_option linter.unusedVariables false
set_option linter.unusedSimpArgs false
open Go.RowKit Vm Rm Bm Im

theorem PtBlk.nextB {T : TypeId} {w w' : World} {b : Nat} {p : Pt} (h : PtBlk T w b p) (hb : Below w.heap.size w w') : PtBlk T w' b p := h.next hb
/-- A port, a BPDU, and an empty port, behind a world. -/
theorem pbz_is (T T' T2 : TypeId) (w : World) (p : Pt) (q : Bp) : ∃ (W : World) (nb : Nat), Hid ((((w.alloc (.cells (cellsT p) T)).alloc (.cells (bcells q) T')).alloc (.cells (cellsT zeroP) T2)) = W) ∧ Hid (w.heap.size = nb) ∧ PtBlk T W nb p ∧ BBlk T' W (nb + 1) q ∧ PtBlk T2 W (nb + 2) zeroP ∧ Below nb w W := by
  obtain ⟨V, nb, HV, HN, k0, k1, kB⟩ := pb_is T T' w p q
  have e := HN.out
  have hs : V.heap.size = nb + 2 := by rw [← HV.out, size_box, size_box, e]
  refine ⟨V.alloc (.cells (cellsT zeroP) T2), nb, Lib.hid (by rw [HV.out]), HN, k0.next (below_box _ _), k1.next (below_box _ _), ?_, kB.trans ((below_box V _).mono (by omega))⟩
  rw [← hs]
  exact ptblk_new T2 V zeroP

set_option maxRecDepth 20000 in
set_option maxHeartbeats 1000000 in
theorem hear_off_w (p : Pt) (q : Bp) (w : World) (h : p.on = false) :
    Calls Tryz.prog 43 #[.agg (cellsT p), bq q] w fun e w' => e = .returned (.agg (cellsT p)) ∧ Below w.heap.size w w' := by
  obtain ⟨W, nb, HW, HN, k0, k1, k2, kB⟩ := pbz_is 78 49 78 w p q
  have K0 := Lib.hid k0
  have K1 := Lib.hid k2
  have KB := Lib.hid kB
  have c_on := k0.c_on
  rw [h] at c_on
  clear k0 k1 k2 kB h
  unfold bq bv
  go_enter Tryz.func43, Tryz.ntmps43
  go_upto_region 1 with (fail)
  refine wp_to (W := W) (by exact HW.out.symm) ?_
  rw [HN.out]
  go_upto_region 2 with (fail)
  refine wp_region_list ?_
  refine wpList_load_row rfl 78 _ rfl nb rfl 78 (cellsT p) (0, 0) _ K0.out rfl rfl infoSP ?_
  refine wpList_store_row rfl 78 _ _ rfl (nb + 2) (cellsT p) rfl rfl 78 _ K1.out infoSP rfl (cellsT_one p) ?_
  have K5 := Lib.hid (K1.out.row p)
  have K6 := Lib.hid (below_row KB.out (g := nb + 2) (by omega) (cellsT p))
  go_wp2
  exact bodyPost_ret (v := .agg (cellsT p)) (results_cell_row rfl _ _ (nb + 2) 78 (cellsT p) (0, 0) _ rfl K5.out rfl rfl infoSP) rfl ⟨rfl, HN.out ▸ K6.out⟩

set_option maxRecDepth 20000 in
set_option maxHeartbeats 1000000 in
theorem hear_bad_w (p : Pt) (q : Bp) (w : World) (h : p.on = true) (hq : heardB q = false) :
    Calls Tryz.prog 43 #[.agg (cellsT p), bq q] w fun e w' => e = .returned (.agg (cellsT p)) ∧ Below w.heap.size w w' := by
  obtain ⟨W, nb, HW, HN, k0, k1, k2, kB⟩ := pbz_is 78 49 78 w p q
  have K0 := Lib.hid k0
  have KQ := Lib.hid k1
  have K1 := Lib.hid k2
  have KB := Lib.hid kB
  have c_on := k0.c_on
  rw [h] at c_on
  obtain ⟨RB, hRB⟩ : ∃ RB, rightB q = RB := ⟨_, rfl⟩
  have CR := Lib.hid (fun w' => by
    have h := right_any q.kind q.flags q.root q.cost q.bridge q.port q.age q.max q.hello q.delay w'
    rw [show rightB ⟨q.kind, q.flags, q.root, q.cost, q.bridge, q.port, q.age, q.max, q.hello, q.delay⟩ = RB from hRB] at h
    exact h)
  obtain ⟨d0, d1, d2, d3, d4, d5, d6, d7, d8, d9⟩ := k1.rd
  have hsz := k2.lt
  unfold heardB at hq
  rw [hRB] at hq
  clear k0 k1 k2 kB h hRB
  unfold bq
  unfold bv at CR ⊢
  go_enter Tryz.func43, Tryz.ntmps43
  go_upto_region 1 with (fail)
  refine wp_to (W := W) (by exact HW.out.symm) ?_
  rw [HN.out]
  go_wp2_with fail
  (with_reducible refine (CR.out _).mono ?_)
  rintro e w1 ⟨rfl, hb1⟩
  have D1 := Lib.hid (KB.out.trans (hb1.mono (by omega)))
  have L0 := Lib.hid (K0.out.next hb1)
  have L1 := Lib.hid (K1.out.next hb1)
  have LQ := Lib.hid (KQ.out.next hb1)
  have hsz1 := hb1.size
  clear hb1 c_on d0 d1 d2 d3 d4 d5 d6 d7 d8 d9
  obtain ⟨d0, d1, d2, d3, d4, d5, d6, d7, d8, d9⟩ := LQ.out.rd
  cases RB
  · clear hq
    go_upto_region 2 with (fail)
    refine wp_region_list ?_
    refine wpList_load_row rfl 78 _ rfl nb rfl 78 (cellsT p) (0, 0) _ L0.out rfl rfl infoSP ?_
    refine wpList_store_row rfl 78 _ _ rfl (nb + 2) (cellsT p) rfl rfl 78 _ L1.out infoSP rfl (cellsT_one p) ?_
    have K5 := Lib.hid (L1.out.row p)
    have K6 := Lib.hid (below_row D1.out (g := nb + 2) (by omega) (cellsT p))
    go_wp2
    exact bodyPost_ret (v := .agg (cellsT p)) (results_cell_row rfl _ _ (nb + 2) 78 (cellsT p) (0, 0) _ rfl K5.out rfl rfl infoSP) rfl ⟨rfl, HN.out ▸ K6.out⟩
  · have z : (q.kind == 2) = true := by
      rw [Bool.true_and] at hq
      simp only [Bool.not_eq_false', decide_eq_true_eq] at hq
      exact beq_iff_eq.2 hq
    clear hq
    go_upto_region 2 with (fail)
    refine wp_region_list ?_
    refine wpList_load_row rfl 78 _ rfl nb rfl 78 (cellsT p) (0, 0) _ L0.out rfl rfl infoSP ?_
    refine wpList_store_row rfl 78 _ _ rfl (nb + 2) (cellsT p) rfl rfl 78 _ L1.out infoSP rfl (cellsT_one p) ?_
    have K5 := Lib.hid (L1.out.row p)
    have K6 := Lib.hid (below_row D1.out (g := nb + 2) (by omega) (cellsT p))
    go_wp2
    exact bodyPost_ret (v := .agg (cellsT p)) (results_cell_row rfl _ _ (nb + 2) 78 (cellsT p) (0, 0) _ rfl K5.out rfl rfl infoSP) rfl ⟨rfl, HN.out ▸ K6.out⟩
theorem BBlk.drewN {T : TypeId} {w : World} {b : Nat} {q : Bp} (h : BBlk T w b q) (n : Nat) : BBlk T (w.drewN n) b q := h
theorem loadAt_row {P : Program} {w : World} {b : Nat} {T T' : TypeId} {cs : Array Value} {d : TypeDesc} (h : w.heap[b]? = some (.cells cs T' (0, 0))) (hu : P.underlying T = some d) (hd : (match d with | .struct _ | .array _ _ => true | _ => false) = true) (hi : (P.info? T).map (·.size) = some cs.size) : (Instr.loadAt T (.pointer (some ⟨b, 0, none⟩))).run P w = .ok (.agg cs) w := by
  have hv := run_loadVar_row (P := P) w b T' T cs (0, 0) d h hu hd hi
  simp only [Instr.loadAt, Instr.sureAddr, Sem.run_bind, Sem.run_pure, Result.andThen_ok, hv]
set_option maxRecDepth 100000 in
theorem PtBlk.loadAt {w : World} {b : Nat} {p : Pt} (h : PtBlk 78 w b p) : (Instr.loadAt 78 (.pointer (some ⟨b, 0, none⟩))).run Tryz.prog w = .ok (.agg (cellsT p)) w := loadAt_row h rfl rfl infoSP
set_option maxRecDepth 100000 in
theorem BBlk.loadAt {w : World} {b : Nat} {q : Bp} (h : BBlk 49 w b q) : (Instr.loadAt 49 (.pointer (some ⟨b, 0, none⟩))).run Tryz.prog w = .ok (bq q) w := loadAt_row h rfl rfl (by kernel_rfl)
/-- In a region that draws its order: a load whose run is known in every world that meets S may be taken first. -/
theorem yieldsIf_run {P : Program} {ops : Array Oper} {S : World → Prop} {op : Oper} {a : Act} (hw : Region.wanted op (yielded ops a.tmps) = true) (ty : TypeId) (x : Operand) (ho : op.op = .load ty x) (b : Addr) (hx : a.eval x = .pointer (some b)) (V : Value)
    (hS : ∀ w, S w → (Instr.loadAt ty (.pointer (some b))).run P w = .ok V w) : YieldsIf P ops S op V a :=
  .inl ⟨hw, fun w hw' => by
    unfold execOp
    simp only [ho, hx, Sem.run_bind, Sem.run_pure, Result.andThen_ok, hS w hw']⟩
theorem yieldsIf_move {P : Program} {ops : Array Oper} {S : World → Prop} {op : Oper} {a : Act} (hw : Region.wanted op (yielded ops a.tmps) = true) (x : Operand) (ho : op.op = .move x) (V : Value) (hx : a.eval x = V) : YieldsIf P ops S op V a :=
  .inl ⟨hw, fun w hw' => by
    unfold execOp
    simp only [ho, hx, Sem.run_bind, Sem.run_pure, Result.andThen_ok]⟩

set_option maxRecDepth 20000 in
set_option maxHeartbeats 2000000 in
theorem hear_yes_w (p X : Pt) (q : Bp) (k : Int) (w : World) (h : p.on = true) (hq : heardB q = true) (hd : BpHd q) (ho : p.vec.ok) (hqo : BpOk q) (hk : Hid (heardP p q = k)) (hX : Hid (answerP k (firstP p q) q = X)) (h3 : k = 4 → q.kind = 3) :
    Calls Tryz.prog 43 #[.agg (cellsT p), bq q] w fun e w' => e = .returned (.agg (cellsT X)) ∧ Below w.heap.size w w' := by
  obtain ⟨W, nb, HW, HN, k0, k1, k2, kB⟩ := pbz_is 78 49 78 w p q
  have K0 := Lib.hid k0
  have KQ := Lib.hid k1
  have K1 := Lib.hid k2
  have KB := Lib.hid kB
  have c_on := k0.c_on
  rw [h] at c_on
  have hr : rightB q = true := by unfold heardB at hq; simp only [Bool.and_eq_true] at hq; exact hq.1
  have z : (q.kind == 2) = false := by
    unfold heardB at hq
    simp only [Bool.and_eq_true, Bool.not_eq_true', decide_eq_false_iff_not] at hq
    exact beq_eq_false_iff_ne.2 hq.2
  have hrg : 0 ≤ k ∧ k ≤ 4 := by rw [← hk.out]; exact heard_range p q
  have CR := Lib.hid (fun w' => by
    have h := right_any q.kind q.flags q.root q.cost q.bridge q.port q.age q.max q.hello q.delay w'
    rw [show rightB ⟨q.kind, q.flags, q.root, q.cost, q.bridge, q.port, q.age, q.max, q.hello, q.delay⟩ = true from hr] at h
    exact h)
  have CH := Lib.hid (fun w' => heard_w p q k w' hk hq ho hqo hd.hello.1)
  have CM := Lib.hid (fun w' => meet_w q w')
  have CA := Lib.hid (fun w' => answer_w k q w')
  have CB := Lib.hid (fun (w' : World) (g kb bb bb' cap : Nat) (T : TypeId) (hrow : w'.heap[g]? = some (.cells #[.func (.func 130) #[] #[.pointer (some ⟨bb, 0, none⟩)], .func (.func 131) #[] #[.pointer (some ⟨kb, 0, none⟩), .pointer (some ⟨bb', 0, none⟩)]] T (0, 0))) (a1 : BBlk 49 w' bb q) (a2 : One 3 w' kb (.int .i64 k)) (a3 : BBlk 49 w' bb' q) =>
    behind2_w _ _ _ _ p _ _ T g cap w' hrow (does_meet w' bb p q a1) (does_as (does_answer w' k kb bb' (firstP p q) q a2 a3 hd hrg h3) hX.out))
  obtain ⟨d0, d1, d2, d3, d4, d5, d6, d7, d8, d9⟩ := k1.rd
  have hsz := k2.lt
  clear k0 k1 k2 kB h hq hd ho hqo hk hX h3 hr hrg
  unfold bq bv at CM CA
  unfold bq
  unfold bv at CR CH ⊢
  go_enter Tryz.func43, Tryz.ntmps43
  go_upto_region 1 with (fail)
  refine wp_to (W := W) (by exact HW.out.symm) ?_
  rw [HN.out]
  go_wp2_with fail
  (with_reducible refine (CR.out _).mono ?_)
  rintro e w1 ⟨rfl, hb1⟩
  have D1 := Lib.hid (KB.out.trans (hb1.mono (by omega)))
  have L0 := Lib.hid (K0.out.next hb1)
  have L1 := Lib.hid (K1.out.next hb1)
  have LQ := Lib.hid (KQ.out.next hb1)
  have hsz1 := hb1.size
  clear hb1 c_on d0 d1 d2 d3 d4 d5 d6 d7 d8 d9
  obtain ⟨d0, d1, d2, d3, d4, d5, d6, d7, d8, d9⟩ := LQ.out.rd
  go_upto_region 3 with (fail)
  refine wp_region_list ?_
  refine wpList_load_row rfl 78 _ rfl nb rfl 78 (cellsT p) (0, 0) _ L0.out rfl rfl infoSP ?_
  go_wp2_with fail
  (with_reducible refine (CH.out _).mono ?_)
  rintro e w2 ⟨rfl, hb2⟩
  have D2 := Lib.hid (D1.out.trans (hb2.mono (by omega)))
  have M0 := Lib.hid (L0.out.next hb2)
  have M1 := Lib.hid (L1.out.next hb2)
  have MQ := Lib.hid (LQ.out.next hb2)
  have hsz2 := hb2.size
  clear hb2 d0 d1 d2 d3 d4 d5 d6 d7 d8 d9 z L0 L1 LQ D1 K0 K1 KQ KB CR CH
  have szX := cellsT_size X
  go_upto_region 4 with (fail)
  refine wp_region_held_drew (S := fun V => PtBlk 78 V nb p ∧ BBlk 49 V (nb + 1) q) (by kernel_rfl) ⟨M0.out, MQ.out⟩ (fun hHeld => ?_)
  refine wpAnyH_take (i := 0) (v := .agg (cellsT p)) rfl (by kernel_rfl) (by kernel_rfl) (by kernel_rfl) (fun _ _ _ h => h) (yieldsIf_run (by rfl) 78 _ rfl ⟨nb, 0, none⟩ rfl _ (fun V h => h.1.loadAt)) hHeld ?_
  refine wpAnyH_take (i := 1) (v := bq q) rfl (by kernel_rfl) (by kernel_rfl) (by kernel_rfl) (fun _ _ _ h => h) (yieldsIf_run (by rfl) 49 _ rfl ⟨nb + 1, 0, none⟩ rfl _ (fun V h => h.2.loadAt)) hHeld ?_
  refine wpAnyH_take (i := 3) (v := .int .i64 k) rfl (by kernel_rfl) (by kernel_rfl) (by kernel_rfl) (fun _ _ _ h => h) (yieldsIf_move (by rfl) _ rfl _ rfl) hHeld ?_
  refine wpAnyH_take (i := 4) (v := bq q) rfl (by kernel_rfl) (by kernel_rfl) (by kernel_rfl) (fun _ _ _ h => h) (yieldsIf_run (by rfl) 49 _ rfl ⟨nb + 1, 0, none⟩ rfl _ (fun V h => h.2.loadAt)) hHeld ?_
  try simp only [Act.put, List.setIfInBounds_toArray, List.set_cons_zero, List.set_cons_succ]
  unfold bq bv
  refine wpAnyH_ready (rs := [2]) (by kernel_rfl) (by simp) ?_
  refine AllReadyH.cons rfl (fun K hK => ?_) AllReadyH.nil
  go_simp
  (with_reducible refine (CM.out _).mono ?_)
  rintro e y0 ⟨rfl, hm0, hb0⟩
  have E0 := ((Below.refl w2.heap.size w2).drew).trans hb0
  have N0 := Lib.hid (M0.out.next E0)
  have N1 := Lib.hid (M1.out.next E0)
  have NQ := Lib.hid (MQ.out.next E0)
  have ME := Lib.hid hm0
  have ED := Lib.hid (D2.out.trans (E0.mono (by omega)))
  have hs0 := E0.size
  clear hHeld hm0 hb0 E0
  go_simp
  refine hK.out _ _ ⟨N0.out, NQ.out⟩ (fun hHeld => ?_)
  clear hK
  refine wpAnyH_ready (rs := [5]) (by kernel_rfl) (by simp) ?_
  refine AllReadyH.cons rfl (fun K hK => ?_) AllReadyH.nil
  go_simp
  (with_reducible refine (CA.out _).mono ?_)
  rintro e y1 ⟨rfl, ha1, ha2, hb1⟩
  have P0 := Lib.hid (N0.out.next hb1)
  have P1 := Lib.hid (N1.out.next hb1)
  have PQ := Lib.hid (NQ.out.next hb1)
  have PE := Lib.hid (ME.out.next hb1)
  have AE := Lib.hid ha1
  have AQ := Lib.hid ha2
  have FD := Lib.hid (ED.out.trans (hb1.mono (by omega)))
  have hs1 := hb1.size
  clear hHeld ha1 ha2 hb1
  go_simp
  refine hK.out _ _ ⟨P0.out, PQ.out⟩ (fun hHeld => ?_)
  clear hK
  try simp only [Act.put, List.setIfInBounds_toArray, List.set_cons_zero, List.set_cons_succ]
  refine wpAnyH_ready (rs := [6]) (by kernel_rfl) (by simp) ?_
  refine AllReadyH.cons rfl (fun K hK => ?_) AllReadyH.nil
  go_simp
  have Z := fun c => below_box y1 c
  refine hK.out _ _ ⟨P0.out.next (Z _), PQ.out.next (Z _)⟩ (fun hHeld => ?_)
  clear hK
  try simp only [Act.put, List.setIfInBounds_toArray, List.set_cons_zero, List.set_cons_succ]
  refine wpAnyH_ready (rs := [7]) (by kernel_rfl) (by simp) ?_
  refine AllReadyH.cons rfl (fun K hK => ?_) AllReadyH.nil
  go_simp
  refine (CB.out _ _ _ _ _ _ _ (heap_alloc_new y1 _) (PE.out.next (Z _)) (AE.out.next (Z _)) (AQ.out.next (Z _))).mono ?_
  rintro e y2 ⟨rfl, hb2⟩
  have G := (bw_trans (Z _) hb2)
  have Q0 := Lib.hid (P0.out.next G)
  have QQ := Lib.hid (PQ.out.next G)
  have Q1 := Lib.hid (P1.out.next G)
  have GD := Lib.hid (FD.out.trans (G.mono (by omega)))
  clear hHeld hb2 G Z
  go_simp
  refine hK.out _ _ ⟨Q0.out, QQ.out⟩ (fun hHeld => ?_)
  clear hK hHeld
  try simp only [Act.put, List.setIfInBounds_toArray, List.set_cons_zero, List.set_cons_succ]
  refine wpAnyH_ready (rs := [8]) (by kernel_rfl) (by simp) ?_
  refine AllReadyH.cons rfl (fun K hK => ?_) AllReadyH.nil
  have st := Q1.out.stores X
  go_simp
  have K5 := Lib.hid (Q1.out.row X)
  have K6 := Lib.hid (below_row GD.out (g := nb + 2) (by omega) (cellsT X))
  refine hK.out _ _ ⟨?_, ?_⟩ (fun hHeld => ?_)
  · exact Q0.out.same (setRow_other y2 _ _ _ (by omega))
  · exact QQ.out.same (setRow_other y2 _ _ _ (by omega))
  refine wpAnyH_done (by kernel_rfl) ?_ _
  clear hK hHeld st
  try simp only [Act.put, List.setIfInBounds_toArray, List.set_cons_zero, List.set_cons_succ]
  go_wp2
  exact bodyPost_ret (v := .agg (cellsT X)) (results_cell_row rfl _ _ (nb + 2) 78 (cellsT X) (0, 0) _ rfl K5.out rfl rfl infoSP) rfl ⟨rfl, HN.out ▸ K6.out⟩

end Go.Proofs.YtldobcfejldbiaaGreatDoor
