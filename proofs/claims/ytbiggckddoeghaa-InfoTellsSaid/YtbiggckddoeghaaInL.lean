/-
  Layer 11: Settle; meet and answer; Hear.
-/
import Derived.Test.YtbiggckddoeghaaInJ
namespace Go.Proofs.Ytbiggckddoeghaa
set_option linter.unusedVariables false
set_option linter.unusedSimpArgs false
open Go.RowKit Vm Rm Bm Im

theorem does_settle (w0 : World) (p X : Pt) (hX : Hid ({ p with proposing := false, proposed := false, agreed := p.agreed && decide (p.offer = p.vec), synced := p.synced && (p.agreed && decide (p.offer = p.vec)), vec := p.offer, times := p.given, update := false, source := 2, newInfo := true } = X)) : Does w0 36 #[] p X :=
  ⟨fun _ _ => by kernel_rfl, fun w b h _ _ => by rw [Array.append_empty]; exact settle_w b p X w h hX⟩

set_option maxRecDepth 20000 in
set_option maxHeartbeats 1000000 in
theorem settle_yes_w (p X : Pt) (w : World) (h1 : p.ready = true) (h2 : p.update = true) (hX : Hid ({ p with proposing := false, proposed := false, agreed := p.agreed && decide (p.offer = p.vec), synced := p.synced && (p.agreed && decide (p.offer = p.vec)), vec := p.offer, times := p.given, update := false, source := 2, newInfo := true } = X)) :
    Calls Try.prog 14 #[.agg (cellsT p)] w fun e w' => e = .returned (.agg (cellsT X)) ∧ Below w.heap.size w w' := by
  obtain ⟨W, nb, HW, HN, k0, k1, kB⟩ := twoP_is 28 w p
  have K0 := Lib.hid k0
  have K1 := Lib.hid k1
  have KB := Lib.hid kB
  have hsz := k1.lt
  have c2 := k0.c_ready
  have c4 := k0.c_update
  rw [h1] at c2
  rw [h2] at c4
  clear k0 k1 kB h1 h2
  go_enter Try.func14, Try.ntmps14
  go_upto_region 1 with (fail)
  refine wp_to (W := W) (by exact HW.out.symm) ?_
  rw [HN.out]
  go_upto_region 3 with (fail)
  refine wp_region_list ?_
  refine wpList_load_row rfl 28 _ rfl nb rfl 28 (cellsT p) (0, 0) _ K0.out rfl rfl infoSP ?_
  go_wp2_with fail
  refine (behind1_w _ _ p _ _ W.heap.size _ _ (heap_alloc_new W _) (does_settle _ p X hX)).mono ?_
  rintro e w1 ⟨rfl, hb1⟩
  dsimp only
  have hB := Lib.hid (bw_trans (below_box W _) hb1)
  clear hb1
  have K2 := Lib.hid (K1.out.next hB.out)
  have st := K2.out.stores X
  have sz := cellsT_size X
  have K5 := Lib.hid (K2.out.row X)
  have K6 := Lib.hid (below_row (KB.out.trans (hB.out.mono (by omega))) (g := nb + 1) (by omega) (cellsT X))
  go_wp2
  exact bodyPost_ret (v := .agg (cellsT X)) (results_cell_row rfl _ _ (nb + 1) 28 (cellsT X) (0, 0) _ rfl K5.out rfl rfl infoSP) rfl ⟨rfl, HN.out ▸ K6.out⟩

set_option maxRecDepth 20000 in
set_option maxHeartbeats 1000000 in
theorem settle_stays_w (p : Pt) (w : World) (h : ¬ (p.ready = true ∧ p.update = true)) :
    Calls Try.prog 14 #[.agg (cellsT p)] w fun e w' => e = .returned (.agg (cellsT p)) ∧ Below w.heap.size w w' := by
  obtain ⟨W, nb, HW, HN, k0, k1, kB⟩ := twoP_is 28 w p
  have K0 := Lib.hid k0
  have K1 := Lib.hid k1
  have KB := Lib.hid kB
  have hsz := k1.lt
  have c2 := k0.c_ready
  have c4 := k0.c_update
  clear k0 k1 kB
  go_enter Try.func14, Try.ntmps14
  go_upto_region 1 with (fail)
  refine wp_to (W := W) (by exact HW.out.symm) ?_
  rw [HN.out]
  cases h1 : p.ready
  · rw [h1] at c2
    clear h h1 c4
    go_upto_region 2 with (fail)
    refine wp_region_list ?_
    refine wpList_load_row rfl 28 _ rfl nb rfl 28 (cellsT p) (0, 0) _ K0.out rfl rfl infoSP ?_
    refine wpList_store_row rfl 28 _ _ rfl (nb + 1) (cellsT p) rfl rfl 28 _ K1.out infoSP rfl (cellsT_one p) ?_
    have K5 := Lib.hid (K1.out.row p)
    have K6 := Lib.hid (below_row KB.out (g := nb + 1) (by omega) (cellsT p))
    go_wp2
    exact bodyPost_ret (v := .agg (cellsT p)) (results_cell_row rfl _ _ (nb + 1) 28 (cellsT p) (0, 0) _ rfl K5.out rfl rfl infoSP) rfl ⟨rfl, HN.out ▸ K6.out⟩
  · have h3 : p.update = false := by
      cases hu : p.update
      · rfl
      · exact absurd ⟨h1, hu⟩ h
    rw [h1] at c2
    rw [h3] at c4
    clear h h1 h3
    go_upto_region 2 with (fail)
    refine wp_region_list ?_
    refine wpList_load_row rfl 28 _ rfl nb rfl 28 (cellsT p) (0, 0) _ K0.out rfl rfl infoSP ?_
    refine wpList_store_row rfl 28 _ _ rfl (nb + 1) (cellsT p) rfl rfl 28 _ K1.out infoSP rfl (cellsT_one p) ?_
    have K5 := Lib.hid (K1.out.row p)
    have K6 := Lib.hid (below_row KB.out (g := nb + 1) (by omega) (cellsT p))
    go_wp2
    exact bodyPost_ret (v := .agg (cellsT p)) (results_cell_row rfl _ _ (nb + 1) 28 (cellsT p) (0, 0) _ rfl K5.out rfl rfl infoSP) rfl ⟨rfl, HN.out ▸ K6.out⟩
theorem settle11_w (p X : Pt) (w : World) (hX : Hid (settleP p = X)) :
    Calls Try.prog 14 #[.agg (cellsT p)] w fun e w' => e = .returned (.agg (cellsT X)) ∧ Below w.heap.size w w' := by
  unfold settleP at hX
  by_cases h : p.ready = true ∧ p.update = true
  · rw [if_pos h] at hX
    exact settle_yes_w p X w h.1 h.2 hX
  · rw [if_neg h] at hX
    have e := hX.out
    subst e
    exact settle_stays_w p w h

/-! meet and answer: what they hand back, and what that does. -/
theorem meet_w (q : Bp) (w : World) :
    Calls Try.prog 30 #[bq q] w fun e w' => e = .returned (.func (.func 50) #[] #[.pointer (some ⟨w.heap.size, 0, none⟩)]) ∧ BBlk 30 w' w.heap.size q ∧ Below w.heap.size w w' := by
  have K := bqblk_new 30 w q
  unfold bq bv
  go_enter Try.func30, Try.ntmps30
  go_wp2
  go_ret
  exact ⟨rfl, K, below_box _ _⟩
theorem answer_w (k : Int) (q : Bp) (w : World) :
    Calls Try.prog 31 #[.int .i64 k, bq q] w fun e w' => e = .returned (.func (.func 51) #[] #[.pointer (some ⟨w.heap.size, 0, none⟩), .pointer (some ⟨w.heap.size + 1, 0, none⟩)]) ∧ One 3 w' w.heap.size (.int .i64 k) ∧ BBlk 30 w' (w.heap.size + 1) q ∧ Below w.heap.size w w' := by
  have K0 := (one_new 3 w (.int .i64 k)).next (below_box (w.alloc (.cells #[.int .i64 k] 3)) (.cells #[.int .i64 q.kind, .int .i64 q.flags, .int .u64 q.root, .int .u64 q.cost, .int .u64 q.bridge, .int .u64 q.port, .int .i64 q.age, .int .i64 q.max, .int .i64 q.hello, .int .i64 q.delay] 30))
  have K := bqblk_new 30 (w.alloc (.cells #[.int .i64 k] 3)) q
  rw [size_box] at K
  unfold bq bv
  go_enter Try.func31, Try.ntmps31
  go_wp2
  go_ret
  exact ⟨rfl, K0, K, bw_alloc (below_box _ _) _⟩

set_option maxHeartbeats 1000000 in
theorem meet1_w (b bb : Nat) (p : Pt) (q : Bp) (w : World) (h : PtBlk 28 w b p) (hq : BBlk 30 w bb q) (hne : ¬ bb = b) :
    Calls Try.prog 50 #[.pointer (some ⟨b, 0, none⟩), .pointer (some ⟨bb, 0, none⟩)] w fun e w' => e = .returned (.tuple #[]) ∧ Tn 28 b (firstP p q) w w' := by
  have H := Lib.hid h
  have f := h.free
  have c_1 := h.c_oper
  have c_2 := h.c_heardRstp
  have c_3 := h.c_heardStp
  obtain ⟨d0, d1, d2, d3, d4, d5, d6, d7, d8, d9⟩ := hq.rd
  have hne' : ¬ b = bb := fun e => hne e.symm
  clear h hq
  by_cases hk : q.kind = 3
  · have z : (q.kind == 3) = true := beq_iff_eq.2 hk
    have HK := Lib.hid hk
    clear hk
    go_enter Try.func50, Try.ntmps50
    go_wp2
    go_end0
    exact ⟨rfl, (((Tn.refl H.out).set 4 (.bool false) (H.out.s_oper false)).set 47 (.bool true) ((H.out.s_oper false).s_heardRstp true)).as (by unfold firstP; rw [decide_eq_true HK.out]; cases p; simp)⟩
  · have z : (q.kind == 3) = false := beq_eq_false_iff_ne.2 hk
    have HK := Lib.hid hk
    clear hk
    go_enter Try.func50, Try.ntmps50
    go_wp2
    go_end0
    exact ⟨rfl, (((Tn.refl H.out).set 4 (.bool false) (H.out.s_oper false)).set 48 (.bool true) ((H.out.s_oper false).s_heardStp true)).as (by unfold firstP; rw [decide_eq_false HK.out]; cases p; simp)⟩

/-- What is done besides, by what was heard. -/
def answerP (k : Int) (p : Pt) (q : Bp) : Pt := if k = 1 then superP p q else if k = 2 then recordP p q else if k = 3 then inferiorP p q else if k = 4 then otherP p q else p


set_option maxRecDepth 20000 in
set_option maxHeartbeats 1000000 in
theorem answer1_w (b kb bb : Nat) (p : Pt) (q : Bp) (w : World) (h : PtBlk 28 w b p) (hk : One 3 w kb (.int .i64 1)) (hq : BBlk 30 w bb q) (hne : ¬ bb = b) (hne2 : ¬ kb = b) (hd : BpHd q) :
    Calls Try.prog 51 #[.pointer (some ⟨b, 0, none⟩), .pointer (some ⟨kb, 0, none⟩), .pointer (some ⟨bb, 0, none⟩)] w fun e w' => e = .returned (.tuple #[]) ∧ Tn 28 b (answerP 1 p q) w w' := by
  have H := Lib.hid h
  have HQ := Lib.hid hq
  have HD := Lib.hid hd
  have ck := hk.cell
  obtain ⟨d0, d1, d2, d3, d4, d5, d6, d7, d8, d9⟩ := hq.rd
  have hbl := hq.lt
  clear h hk hq hd

  go_enter Try.func51, Try.ntmps51
  go_wp2_with fail
  refine (give_w b p q _ H.out HD.out).mono ?_
  rintro e w1 ⟨rfl, t⟩
  have T1 := Lib.hid t
  have K1 := Lib.hid (HQ.out.same (t.at hbl hne))
  clear t d0 d1 d2 d3 d4 d5 d6 d7 d8 d9
  obtain ⟨d0, d1, d2, d3, d4, d5, d6, d7, d8, d9⟩ := K1.out.rd
  go_wp2_with fail
  refine (record_w b _ q _ T1.out.blk HD.out).mono ?_
  rintro e w2 ⟨rfl, t⟩
  have T2 := Lib.hid (T1.out.trans t)
  clear t
  go_wp2
  go_end0
  exact ⟨rfl, T2.out.as (super_is p q).symm⟩

set_option maxRecDepth 20000 in
set_option maxHeartbeats 1000000 in
theorem answer2_w (b kb bb : Nat) (p : Pt) (q : Bp) (w : World) (h : PtBlk 28 w b p) (hk : One 3 w kb (.int .i64 2)) (hq : BBlk 30 w bb q) (hne : ¬ bb = b) (hne2 : ¬ kb = b) (hd : BpHd q) :
    Calls Try.prog 51 #[.pointer (some ⟨b, 0, none⟩), .pointer (some ⟨kb, 0, none⟩), .pointer (some ⟨bb, 0, none⟩)] w fun e w' => e = .returned (.tuple #[]) ∧ Tn 28 b (answerP 2 p q) w w' := by
  have H := Lib.hid h
  have HQ := Lib.hid hq
  have HD := Lib.hid hd
  have ck := hk.cell
  obtain ⟨d0, d1, d2, d3, d4, d5, d6, d7, d8, d9⟩ := hq.rd
  have hbl := hq.lt
  clear h hk hq hd

  go_enter Try.func51, Try.ntmps51
  go_wp2_with fail
  refine (record_w b p q _ H.out HD.out).mono ?_
  rintro e w1 ⟨rfl, t⟩
  have T1 := Lib.hid t
  clear t
  go_wp2
  go_end0
  exact ⟨rfl, T1.out⟩

set_option maxRecDepth 20000 in
set_option maxHeartbeats 1000000 in
theorem answer3_w (b kb bb : Nat) (p : Pt) (q : Bp) (w : World) (h : PtBlk 28 w b p) (hk : One 3 w kb (.int .i64 3)) (hq : BBlk 30 w bb q) (hne : ¬ bb = b) (hne2 : ¬ kb = b) (hd : BpHd q) :
    Calls Try.prog 51 #[.pointer (some ⟨b, 0, none⟩), .pointer (some ⟨kb, 0, none⟩), .pointer (some ⟨bb, 0, none⟩)] w fun e w' => e = .returned (.tuple #[]) ∧ Tn 28 b (answerP 3 p q) w w' := by
  have H := Lib.hid h
  have HQ := Lib.hid hq
  have HD := Lib.hid hd
  have ck := hk.cell
  obtain ⟨d0, d1, d2, d3, d4, d5, d6, d7, d8, d9⟩ := hq.rd
  have hbl := hq.lt
  clear h hk hq hd

  go_enter Try.func51, Try.ntmps51
  go_wp2_with fail
  refine (dispute_w b p q _ H.out).mono ?_
  rintro e w1 ⟨rfl, t⟩
  have T1 := Lib.hid t
  clear t
  go_wp2
  go_end0
  exact ⟨rfl, T1.out⟩

set_option maxRecDepth 20000 in
set_option maxHeartbeats 1000000 in
theorem answer4_w (b kb bb : Nat) (p : Pt) (q : Bp) (w : World) (h : PtBlk 28 w b p) (hk : One 3 w kb (.int .i64 4)) (hq : BBlk 30 w bb q) (hne : ¬ bb = b) (hne2 : ¬ kb = b) (hd : BpHd q) (h3 : q.kind = 3) :
    Calls Try.prog 51 #[.pointer (some ⟨b, 0, none⟩), .pointer (some ⟨kb, 0, none⟩), .pointer (some ⟨bb, 0, none⟩)] w fun e w' => e = .returned (.tuple #[]) ∧ Tn 28 b (answerP 4 p q) w w' := by
  have H := Lib.hid h
  have HQ := Lib.hid hq
  have HD := Lib.hid hd
  have ck := hk.cell
  obtain ⟨d0, d1, d2, d3, d4, d5, d6, d7, d8, d9⟩ := hq.rd
  have hbl := hq.lt
  clear h hk hq hd
  have H3 := Lib.hid h3
  clear h3
  go_enter Try.func51, Try.ntmps51
  go_wp2_with fail
  refine (agree_w b p q _ H.out H3.out).mono ?_
  rintro e w1 ⟨rfl, t⟩
  have T1 := Lib.hid t
  clear t
  go_wp2
  go_end0
  exact ⟨rfl, T1.out⟩

set_option maxRecDepth 20000 in
set_option maxHeartbeats 1000000 in
theorem answer0_w (b kb bb : Nat) (p : Pt) (q : Bp) (w : World) (h : PtBlk 28 w b p) (hk : One 3 w kb (.int .i64 0)) (hq : BBlk 30 w bb q) (hne : ¬ bb = b) (hne2 : ¬ kb = b) (hd : BpHd q) :
    Calls Try.prog 51 #[.pointer (some ⟨b, 0, none⟩), .pointer (some ⟨kb, 0, none⟩), .pointer (some ⟨bb, 0, none⟩)] w fun e w' => e = .returned (.tuple #[]) ∧ Tn 28 b (answerP 0 p q) w w' := by
  have H := Lib.hid h
  have HQ := Lib.hid hq
  have HD := Lib.hid hd
  have ck := hk.cell
  obtain ⟨d0, d1, d2, d3, d4, d5, d6, d7, d8, d9⟩ := hq.rd
  have hbl := hq.lt
  clear h hk hq hd

  go_enter Try.func51, Try.ntmps51
  go_wp2
  go_end0
  exact ⟨rfl, Tn.refl H.out⟩

theorem answerAny_w (k : Int) (b kb bb : Nat) (p : Pt) (q : Bp) (w : World) (h : PtBlk 28 w b p) (hk : One 3 w kb (.int .i64 k)) (hq : BBlk 30 w bb q) (hne : ¬ bb = b) (hne2 : ¬ kb = b) (hd : BpHd q) (hr : 0 ≤ k ∧ k ≤ 4) (h3 : k = 4 → q.kind = 3) :
    Calls Try.prog 51 #[.pointer (some ⟨b, 0, none⟩), .pointer (some ⟨kb, 0, none⟩), .pointer (some ⟨bb, 0, none⟩)] w fun e w' => e = .returned (.tuple #[]) ∧ Tn 28 b (answerP k p q) w w' := by
  obtain rfl | rfl | rfl | rfl | rfl : k = 0 ∨ k = 1 ∨ k = 2 ∨ k = 3 ∨ k = 4 := by omega
  · exact answer0_w b kb bb p q w h hk hq hne hne2 hd
  · exact answer1_w b kb bb p q w h hk hq hne hne2 hd
  · exact answer2_w b kb bb p q w h hk hq hne hne2 hd
  · exact answer3_w b kb bb p q w h hk hq hne hne2 hd
  · exact answer4_w b kb bb p q w h hk hq hne hne2 hd (h3 rfl)
theorem does_meet (w0 : World) (bb : Nat) (p : Pt) (q : Bp) (hq : BBlk 30 w0 bb q) : Does w0 50 #[.pointer (some ⟨bb, 0, none⟩)] p (firstP p q) :=
  ⟨fun _ _ => by kernel_rfl, fun w b h hB hb => meet1_w b bb p q w h (hq.next hB) (by have := hq.lt; omega)⟩
theorem does_answer (w0 : World) (k : Int) (kb bb : Nat) (p : Pt) (q : Bp) (hk : One 3 w0 kb (.int .i64 k)) (hq : BBlk 30 w0 bb q) (hd : BpHd q) (hr : 0 ≤ k ∧ k ≤ 4) (h3 : k = 4 → q.kind = 3) : Does w0 51 #[.pointer (some ⟨kb, 0, none⟩), .pointer (some ⟨bb, 0, none⟩)] p (answerP k p q) :=
  ⟨fun _ _ => by kernel_rfl, fun w b h hB hb => answerAny_w k b kb bb p q w h (hk.next hB) (hq.next hB) (by have := hq.lt; omega) (by have := hk.lt; omega) hd hr h3⟩


end Go.Proofs.Ytbiggckddoeghaa
