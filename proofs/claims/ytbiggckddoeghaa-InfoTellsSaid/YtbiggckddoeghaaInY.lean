/-
  Layer 11: awake.
-/
import Derived.Test.YtbiggckddoeghaaInW
namespace Go.Proofs.Ytbiggckddoeghaa
set_option linter.unusedVariables false
set_option linter.unusedSimpArgs false
open Go.RowKit Vm Rm Bm Im

set_option maxRecDepth 100000 in
theorem wp_row1 {o : Oper} {a : Act} {w : World} {K : Act → World → Prop} {Q : Exit → Act → World → Prop} (x : Operand) (ho : o.op = .buildSlice 46 1 #[(0, x)]) (p : Pt) (hx : a.eval x = .agg (cellsT p))
    (h : K (a.put o.dst (.slice (some ⟨w.heap.size, 0, none⟩) 1 1)) (w.alloc (.cells (cellsT p) 28))) : o.wp Try.prog a w K Q := by
  obtain ⟨i0, hi, hz0, hz1, hz2⟩ := info_parts info61
  refine wp_buildSlice 46 28 1 _ ho (cellsT p) i0 _ Try.underlying46 hi hz0 (by rw [hz1]; decide) (by rw [hz1]; decide) ?_ h
  simp only [List.map_toArray, List.map_cons, List.map_nil, hx, hz1]
  kernel_rfl
set_option maxRecDepth 100000 in
/-- A port out of a block of its own, behind a guard. -/
theorem wpList_ptg {ops : Array Oper} {rest : List Oper} {op : Oper} {a : Act} {w : World} {Q : Exit → Act → World → Prop} (hgd : Region.wanted op (yielded ops a.tmps) = true) (x : Operand) (ho : op.op = .load 28 x)
    (b : Nat) (hx : a.eval x = .pointer (some ⟨b, 0, none⟩)) (p : Pt) (hc : PtBlk 28 w b p)
    (h : wpList Try.prog ops Q rest (a.put op.dst (.agg (cellsT p))) w) : wpList Try.prog ops Q (op :: rest) a w :=
  wpList_step fun K hK => by
    rw [if_pos hgd]
    exact wp_load_row 28 x ho b hx 28 (cellsT p) (0, 0) _ hc rfl rfl infoSP (hK _ _ h)
/-- A port's block, made and filled. -/
theorem fill_is (w : World) (p : Pt) : ∃ (V : World) (b : Nat), Hid ((w.alloc (.cells (cellsT zeroP) 28)).setRow w.heap.size (cellsT p) = V) ∧ Hid (w.heap.size = b) ∧ PtBlk 28 V b p ∧ Below b w V ∧ b < V.heap.size :=
  ⟨_, _, Lib.hid rfl, Lib.hid rfl, (ptblk_new _ w zeroP).row p, below_row (below_box w _) (Nat.le_refl _) _, ((ptblk_new 28 w zeroP).row p).lt⟩
abbrev b0v : Value := .agg #[.int .i64 3, .int .i64 14, .int .u64 1, .int .u64 0, .int .u64 2, .int .u64 1, .int .i64 0, .int .i64 5120, .int .i64 512, .int .i64 3840]

set_option maxRecDepth 20000 in
set_option maxHeartbeats 4000000 in
theorem awake_any (w : World) :
    Calls Try.prog 6 #[] w fun e w' => e = .returned (.bool true) ∧ Below w.heap.size w w' := by
  obtain ⟨N1, hN1⟩ : ∃ N, newP 1 4 true = N := ⟨_, rfl⟩
  obtain ⟨N2, hN2⟩ : ∃ N, newP 1 4 false = N := ⟨_, rfl⟩
  obtain ⟨PP, hPP⟩ : ∃ N, powerP N2 true = N := ⟨_, rfl⟩
  have CN1 := Lib.hid (fun w' => new_w 1 4 true N1 w' (Lib.hid hN1))
  have CN2 := Lib.hid (fun w' => new_w 1 4 false N2 w' (Lib.hid hN2))
  have CP1 := Lib.hid (fun w' => power_w N1 P1 true w' (Lib.hid (by rw [← hN1]; rfl)))
  have CP2 := Lib.hid (fun w' => power_w N2 PP true w' (Lib.hid hPP))
  have CH1 := Lib.hid (fun w' => show Calls Try.prog 10 #[.agg (cellsT P1), b0v] w' _ from hear_w P1 Q1 b0 w' p1_ok b0_ok (Lib.hid rfl))
  have CH2 := Lib.hid (fun w' => show Calls Try.prog 10 #[.agg (cellsT P2), b0v] w' _ from hear_w P2 Q2 b0 w' p2_ok b0_ok (Lib.hid rfl))
  have CU := Lib.hid (fun w' => usual_w 9 w')
  have CC1 := Lib.hid (fun (w' : World) (a' : Option Addr) (cap' : Nat) (h : PRow w' a' [Q2]) => show Calls Try.prog 16 #[brv 9 0 20 2 15, .slice a' 1 cap'] w' (fun e w'' => Out w' w'' 1 [C1] true e) from choose_w 9 0 20 2 15 a' cap' [Q2] [C1] true w' ⟨by decide, by decide⟩ h q2_all (by decide) choose_1)
  have CC2 := Lib.hid (fun (w' : World) (a' : Option Addr) (cap' : Nat) (h : PRow w' a' [C1]) => show Calls Try.prog 16 #[brv 9 0 20 2 15, .slice a' 1 cap'] w' (fun e w'' => Out w' w'' 1 [C1] false e) from choose_w 9 0 20 2 15 a' cap' [C1] [C1] false w' ⟨by decide, by decide⟩ h c1_all (by decide) choose_2)
  have CS := Lib.hid (fun w' => settle11_w PP S1 w' (Lib.hid (by rw [← hPP, ← hN2]; rfl)))
  have CA := Lib.hid (fun w' => age11_w O2 A2 w' (Lib.hid rfl))
  have CR := Lib.hid (fun w' => brRight_w 9 0 20 2 15 true w' (Lib.hid usual_right))
  clear hN1 hN2 hPP
  go_enter Try.func6, Try.ntmps6
  go_upto_region 2 with (first
    | (go_at_call 20; (with_reducible refine (CN1.out _).mono ?_); rintro e w1 ⟨rfl, hb1⟩)
    | (go_at_call 8; (with_reducible refine (CP1.out _).mono ?_); rintro e w2 ⟨rfl, hb2⟩)
    | (refine wpList_ptst rfl _ _ rfl w2.heap.size rfl P1 zeroP rfl (ptblk_new _ w2 zeroP) ?_))
  obtain ⟨V1, p1, HV1, Hp1, k1, B1, hs1⟩ := fill_is w2 P1
  refine wp_to (W := V1) (by exact HV1.out.symm) ?_
  rw [Hp1.out]
  have hsw2 := hb2.size
  have hsw1 := hb1.size
  have hp1w : w.heap.size ≤ p1 := by have := Hp1.out; omega
  have T1 := Lib.hid (bw_trans (bw_trans hb1 hb2) (by rw [Hp1.out]; exact B1))
  have K1 := Lib.hid k1
  clear B1 k1 hb1 hb2 CN1 CP1 hsw1 hsw2
  go_upto_region 3 with (first
    | (with_reducible refine wpList_pt rfl _ rfl p1 rfl P1 K1.out ?_)
    | (go_at_call 10; (with_reducible refine (CH1.out _).mono ?_); rintro e w3 ⟨rfl, hb3⟩)
    | (refine wpList_ptst rfl _ _ rfl w3.heap.size rfl Q1 zeroP rfl (ptblk_new _ w3 zeroP) ?_))
  obtain ⟨V2, p2, HV2, Hp2, k2, B2, hs2⟩ := fill_is w3 Q1
  refine wp_to (W := V2) (by exact HV2.out.symm) ?_
  rw [Hp2.out]
  have hsw3 := hb3.size
  have hp12 : p1 < p2 := by have := Hp2.out; omega
  have T2 := Lib.hid (bw_trans (bw_trans T1.out hb3) (by rw [Hp2.out]; exact B2))
  have K2 := Lib.hid k2
  have K1b := Lib.hid ((K1.out.next hb3).next (by rw [Hp2.out]; exact B2))
  clear B2 k2 hb3 CH1 hsw3 K1
  have f1 := K1b.out.free
  have c_1 := K1b.out.c_source
  have c_2 := K1b.out.c_reselect
  have c_3 := K1b.out.c_on
  have c_4 := K1b.out.c_vec_root
  have c_5 := K2.out.c_source
  rw [p1_facts.1] at c_1
  rw [p1_facts.2.1] at c_2
  rw [p1_facts.2.2.1] at c_3
  rw [p1_facts.2.2.2] at c_4
  rw [q1_facts] at c_5
  go_upto_region 6 with (fail)
  obtain ⟨V3, HV3⟩ : ∃ V, Hid (V2.setCell ⟨p1, 6, none⟩ (.int .u64 1152921504606846976) = V) := ⟨_, Lib.hid rfl⟩
  refine wp_to (W := V3) (by exact HV3.out.symm) ?_
  have K1c := Lib.hid (show PtBlk 28 V3 p1 P2 by rw [← HV3.out]; have h := K1b.out; unfold PtBlk at h ⊢; exact blk_set h rfl)
  have K2c := Lib.hid (show PtBlk 28 V3 p2 Q1 by rw [← HV3.out]; exact K2.out.far 6 _ (by omega))
  have T3 := Lib.hid (show Below w.heap.size w V3 by rw [← HV3.out]; exact T2.out.setCell (p := ⟨p1, 6, none⟩) hp1w _)
  have hs3 : V3.heap.size = V2.heap.size := by rw [← HV3.out, size_set]
  clear f1 c_1 c_2 c_3 c_4 c_5 K1b K2 T2 T1 HV1 HV2 HV3
  go_upto_region 7 with (first
    | (with_reducible refine wpList_pt rfl _ rfl p1 rfl P2 K1c.out ?_)
    | (go_at_call 10; (with_reducible refine (CH2.out _).mono ?_); rintro e w4 ⟨rfl, hb4⟩)
    | (refine wpList_ptst rfl _ _ rfl p2 rfl Q2 Q1 rfl (K2c.out.next hb4) ?_))
  obtain ⟨W5, hW5⟩ : ∃ V, w4.setRow p2 (cellsT Q2) = V := ⟨_, rfl⟩
  refine wp_to (W := W5) (by exact hW5.symm) ?_
  have K5 := Lib.hid (show PtBlk 28 W5 p2 Q2 from hW5 ▸ (K2c.out.next hb4).row Q2)
  have T5 := Lib.hid (show Below w.heap.size w W5 from hW5 ▸ below_row (bw_trans T3.out hb4) (by omega) _)
  clear hW5 K1c K2c T3 hb4 CH2 hs3
  simp only [Act.put]
  go_cut [3, 4] (fun u3 u4 wx => ∃ (a' : Option Addr) (cap' : Nat), u3 = .slice a' 1 cap' ∧ u4 = .bool true ∧ PRow wx a' [C1] ∧ PtBlk 28 wx p2 Q2 ∧ Below w.heap.size w wx)
  case first =>
    refine wp_region_held_drew (S := fun V => PtBlk 28 V p2 Q2) (by kernel_rfl) (show PtBlk 28 W5.drew p2 Q2 from K5.out) (fun hHeld => ?_)
    refine wpAnyH_take (i := 1) (v := .agg (cellsT Q2)) rfl (by kernel_rfl) (by kernel_rfl) (by kernel_rfl) (fun _ _ _ h => h) (yieldsIf_run (by rfl) 28 _ rfl ⟨p2, 0, none⟩ rfl _ (fun V h => h.loadAt)) hHeld ?_
    try simp only [Act.put, List.getElem_toArray, List.getElem_cons_succ, List.getElem_cons_zero, List.setIfInBounds_toArray, List.set_cons_zero, List.set_cons_succ]
    refine wpAnyH_ready (rs := [0, 2]) (by kernel_rfl) (by simp) ?_
    refine AllReadyH.cons rfl (fun K hK => ?_) (AllReadyH.cons rfl (fun K hK => ?_) AllReadyH.nil)
    · go_simp
      (with_reducible refine (CU.out _).mono ?_)
      rintro e y0 ⟨rfl, hb5⟩
      have QY := Lib.hid (show PtBlk 28 y0 p2 Q2 from (show PtBlk 28 W5.drew p2 Q2 from K5.out).next hb5)
      have TY := Lib.hid (bw_trans T5.out.drew hb5)
      clear hHeld hb5
      go_simp
      refine hK.out _ _ QY.out (fun hHeld => ?_)
      clear hK
      try simp only [Act.put, List.getElem_toArray, List.getElem_cons_succ, List.getElem_cons_zero, List.setIfInBounds_toArray, List.set_cons_zero, List.set_cons_succ]
      refine wpAnyH_ready (rs := [2]) (by kernel_rfl) (by simp) ?_
      refine AllReadyH.cons rfl (fun K hK => ?_) AllReadyH.nil
      rw [if_pos (by rfl)]
      refine wp_row1 _ rfl Q2 rfl ?_
      have QR := Lib.hid (QY.out.next (below_box y0 (.cells (cellsT Q2) 28)))
      have TR := Lib.hid (bw_alloc TY.out (.cells (cellsT Q2) 28))
      have OR := Lib.hid (one_row (heap_alloc_new y0 (.cells (cellsT Q2) 28)))
      refine hK.out _ _ QR.out (fun hHeld => ?_)
      clear hK
      try simp only [Act.put, List.getElem_toArray, List.getElem_cons_succ, List.getElem_cons_zero, List.setIfInBounds_toArray, List.set_cons_zero, List.set_cons_succ]
      refine wpAnyH_ready (rs := [3]) (by kernel_rfl) (by simp) ?_
      refine AllReadyH.cons rfl (fun K hK => ?_) AllReadyH.nil
      go_simp
      (with_reducible refine (CC1.out _ _ _ OR.out).mono ?_)
      rintro e y1 ⟨a', cap', rfl, hcap, hrow, hb6⟩
      have O6 := Lib.hid hrow
      have Q6 := Lib.hid (QR.out.next hb6)
      have T6 := Lib.hid (bw_trans TR.out hb6)
      clear hHeld hrow hb6
      go_simp
      refine hK.out _ _ Q6.out (fun hHeld => ?_)
      clear hK
      try simp only [Act.put, List.getElem_toArray, List.getElem_cons_succ, List.getElem_cons_zero, List.setIfInBounds_toArray, List.set_cons_zero, List.set_cons_succ]
      refine wpAnyH_take (i := 4) (v := .tuple #[.slice a' 1 cap', .bool true]) rfl (by kernel_rfl) (by kernel_rfl) (by kernel_rfl) (fun _ _ _ h => h) (yieldsIf_move (by rfl) _ rfl _ rfl) hHeld ?_
      try simp only [Act.put, List.getElem_toArray, List.getElem_cons_succ, List.getElem_cons_zero, List.setIfInBounds_toArray, List.set_cons_zero, List.set_cons_succ]
      refine wpAnyH_take (i := 5) (v := .slice a' 1 cap') rfl (by kernel_rfl) (by kernel_rfl) (by kernel_rfl) (fun _ _ _ h => h) (Or.inl ⟨by rfl, fun V h => by go_simp⟩) hHeld ?_
      try simp only [Act.put, List.getElem_toArray, List.getElem_cons_succ, List.getElem_cons_zero, List.setIfInBounds_toArray, List.set_cons_zero, List.set_cons_succ]
      refine wpAnyH_take (i := 6) (v := .bool true) rfl (by kernel_rfl) (by kernel_rfl) (by kernel_rfl) (fun _ _ _ h => h) (Or.inl ⟨by rfl, fun V h => by go_simp⟩) hHeld ?_
      try simp only [Act.put, List.getElem_toArray, List.getElem_cons_succ, List.getElem_cons_zero, List.setIfInBounds_toArray, List.set_cons_zero, List.set_cons_succ]
      refine wpAnyH_take (i := 7) (v := .slice a' 1 cap') rfl (by kernel_rfl) (by kernel_rfl) (by kernel_rfl) (fun _ _ _ h => h) (Or.inl ⟨by rfl, fun V h => by go_simp⟩) hHeld ?_
      try simp only [Act.put, List.getElem_toArray, List.getElem_cons_succ, List.getElem_cons_zero, List.setIfInBounds_toArray, List.set_cons_zero, List.set_cons_succ]
      refine wpAnyH_take (i := 8) (v := .bool true) rfl (by kernel_rfl) (by kernel_rfl) (by kernel_rfl) (fun _ _ _ h => h) (Or.inl ⟨by rfl, fun V h => by go_simp⟩) hHeld ?_
      try simp only [Act.put, List.getElem_toArray, List.getElem_cons_succ, List.getElem_cons_zero, List.setIfInBounds_toArray, List.set_cons_zero, List.set_cons_succ]
      refine wpAnyH_done (by kernel_rfl) ?_ _
      clear hHeld
      go_wp2_with fail
      go_meet
      exact ⟨a', cap', rfl, rfl, O6.out, Q6.out, T6.out⟩
    · rw [if_pos (by rfl)]
      refine wp_row1 _ rfl Q2 rfl ?_
      have QY := Lib.hid ((show PtBlk 28 W5.drew p2 Q2 from K5.out).next (below_box W5.drew (.cells (cellsT Q2) 28)))
      have TY := Lib.hid (bw_alloc T5.out.drew (.cells (cellsT Q2) 28))
      have OY := Lib.hid (show PRow _ (some ⟨W5.heap.size, 0, none⟩) [Q2] from one_row (heap_alloc_new W5.drew (.cells (cellsT Q2) 28)))
      clear hHeld
      refine hK.out _ _ QY.out (fun hHeld => ?_)
      clear hK
      try simp only [Act.put, List.getElem_toArray, List.getElem_cons_succ, List.getElem_cons_zero, List.setIfInBounds_toArray, List.set_cons_zero, List.set_cons_succ]
      refine wpAnyH_ready (rs := [0]) (by kernel_rfl) (by simp) ?_
      refine AllReadyH.cons rfl (fun K hK => ?_) AllReadyH.nil
      go_simp
      (with_reducible refine (CU.out _).mono ?_)
      rintro e y0 ⟨rfl, hb5⟩
      have QR := Lib.hid (QY.out.next hb5)
      have TR := Lib.hid (bw_trans TY.out hb5)
      have OR := Lib.hid (OY.out.next hb5)
      clear hHeld hb5
      go_simp
      refine hK.out _ _ QR.out (fun hHeld => ?_)
      clear hK
      try simp only [Act.put, List.getElem_toArray, List.getElem_cons_succ, List.getElem_cons_zero, List.setIfInBounds_toArray, List.set_cons_zero, List.set_cons_succ]
      refine wpAnyH_ready (rs := [3]) (by kernel_rfl) (by simp) ?_
      refine AllReadyH.cons rfl (fun K hK => ?_) AllReadyH.nil
      go_simp
      (with_reducible refine (CC1.out _ _ _ OR.out).mono ?_)
      rintro e y1 ⟨a', cap', rfl, hcap, hrow, hb6⟩
      have O6 := Lib.hid hrow
      have Q6 := Lib.hid (QR.out.next hb6)
      have T6 := Lib.hid (bw_trans TR.out hb6)
      clear hHeld hrow hb6
      go_simp
      refine hK.out _ _ Q6.out (fun hHeld => ?_)
      clear hK
      try simp only [Act.put, List.getElem_toArray, List.getElem_cons_succ, List.getElem_cons_zero, List.setIfInBounds_toArray, List.set_cons_zero, List.set_cons_succ]
      refine wpAnyH_take (i := 4) (v := .tuple #[.slice a' 1 cap', .bool true]) rfl (by kernel_rfl) (by kernel_rfl) (by kernel_rfl) (fun _ _ _ h => h) (yieldsIf_move (by rfl) _ rfl _ rfl) hHeld ?_
      try simp only [Act.put, List.getElem_toArray, List.getElem_cons_succ, List.getElem_cons_zero, List.setIfInBounds_toArray, List.set_cons_zero, List.set_cons_succ]
      refine wpAnyH_take (i := 5) (v := .slice a' 1 cap') rfl (by kernel_rfl) (by kernel_rfl) (by kernel_rfl) (fun _ _ _ h => h) (Or.inl ⟨by rfl, fun V h => by go_simp⟩) hHeld ?_
      try simp only [Act.put, List.getElem_toArray, List.getElem_cons_succ, List.getElem_cons_zero, List.setIfInBounds_toArray, List.set_cons_zero, List.set_cons_succ]
      refine wpAnyH_take (i := 6) (v := .bool true) rfl (by kernel_rfl) (by kernel_rfl) (by kernel_rfl) (fun _ _ _ h => h) (Or.inl ⟨by rfl, fun V h => by go_simp⟩) hHeld ?_
      try simp only [Act.put, List.getElem_toArray, List.getElem_cons_succ, List.getElem_cons_zero, List.setIfInBounds_toArray, List.set_cons_zero, List.set_cons_succ]
      refine wpAnyH_take (i := 7) (v := .slice a' 1 cap') rfl (by kernel_rfl) (by kernel_rfl) (by kernel_rfl) (fun _ _ _ h => h) (Or.inl ⟨by rfl, fun V h => by go_simp⟩) hHeld ?_
      try simp only [Act.put, List.getElem_toArray, List.getElem_cons_succ, List.getElem_cons_zero, List.setIfInBounds_toArray, List.set_cons_zero, List.set_cons_succ]
      refine wpAnyH_take (i := 8) (v := .bool true) rfl (by kernel_rfl) (by kernel_rfl) (by kernel_rfl) (fun _ _ _ h => h) (Or.inl ⟨by rfl, fun V h => by go_simp⟩) hHeld ?_
      try simp only [Act.put, List.getElem_toArray, List.getElem_cons_succ, List.getElem_cons_zero, List.setIfInBounds_toArray, List.set_cons_zero, List.set_cons_succ]
      refine wpAnyH_done (by kernel_rfl) ?_ _
      clear hHeld
      go_wp2_with fail
      go_meet
      exact ⟨a', cap', rfl, rfl, O6.out, Q6.out, T6.out⟩
  case rest =>
    obtain ⟨a', cap', rfl, rfl, hrow, hQ, hT⟩ := hcut
    have O6 := Lib.hid hrow
    have Q6 := Lib.hid hQ
    have T6 := Lib.hid hT
    clear hrow hQ hT K5 T5 CC1
    go_upto_region 9 with (first
      | (go_at_call 21; (with_reducible refine (CU.out _).mono ?_); rintro e y3 ⟨rfl, hb7⟩)
      | (go_at_call 16; (with_reducible refine (CC2.out _ _ _ (O6.out.next hb7)).mono ?_); rintro e y4 ⟨ma, mcap, rfl, hmc, hmr, hb8⟩))
    have B8 := Lib.hid (bw_trans hb7 hb8)
    have O8 := Lib.hid (O6.out.next B8.out)
    have Q8 := Lib.hid (Q6.out.next B8.out)
    have T8 := Lib.hid (bw_trans T6.out B8.out)
    clear hb7 hb8 hmr hmc B8 O6 Q6 T6 CC2
    go_upto_region 12 with (first
      | (go_at_call 20; (with_reducible refine (CN2.out _).mono ?_); rintro e y5 ⟨rfl, hb9⟩)
      | (go_at_call 8; (with_reducible refine (CP2.out _).mono ?_); rintro e y6 ⟨rfl, hb10⟩)
      | (go_at_call 14; (with_reducible refine (CS.out _).mono ?_); rintro e y7 ⟨rfl, hb11⟩)
      | (refine wpList_ptst rfl _ _ rfl y7.heap.size rfl S1 zeroP rfl (ptblk_new _ y7 zeroP) ?_))
    obtain ⟨V7, p7, HV7, Hp7, k7, B7, hs7⟩ := fill_is y7 S1
    refine wp_to (W := V7) (by exact HV7.out.symm) ?_
    rw [Hp7.out]
    have B9 := Lib.hid (bw_trans (bw_trans (bw_trans hb9 hb10) hb11) (by rw [Hp7.out]; exact B7))
    have Q9 := Lib.hid (Q8.out.next B9.out)
    have O9 := Lib.hid (O8.out.next B9.out)
    have T9 := Lib.hid (bw_trans T8.out B9.out)
    have K7 := Lib.hid k7
    clear B7 k7 hb9 hb10 hb11 HV7 B9 Q8 O8 T8 CN2 CP2 CS
    go_upto_region 13 with (first
      | (with_reducible refine wpList_pt rfl _ rfl p2 rfl Q2 Q9.out ?_)
      | (refine wpList_ptst rfl _ _ rfl V7.heap.size rfl Q2 zeroP rfl (ptblk_new _ V7 zeroP) ?_))
    obtain ⟨V8, p8, HV8, Hp8, k8, B8, hs8⟩ := fill_is V7 Q2
    refine wp_to (W := V8) (by exact HV8.out.symm) ?_
    rw [Hp8.out]
    have B8' : Below V7.heap.size V7 V8 := by rw [Hp8.out]; exact B8
    have K8 := Lib.hid k8
    have Q10 := Lib.hid (Q9.out.next B8')
    have O10 := Lib.hid (O9.out.next B8')
    have T10 := Lib.hid (bw_trans T9.out B8')
    have K7b := Lib.hid (K7.out.next B8')
    have hp2l := Q9.out.lt
    have hp7l := K7.out.lt
    have hp8e := Hp8.out
    have hp8w : w.heap.size ≤ p8 := by have := T9.out.size; omega
    obtain ⟨g, o, rfl, hg, hc⟩ := O9.out.at_ 0 C1 rfl
    have hgr := range_next hc hg B8'
    have hn1 : ¬ p2 = p8 := by omega
    have hn2 : ¬ p7 = p8 := by omega
    have hn3 : ¬ g = p8 := by omega
    have f8 := K8.out.free
    have c8 := K8.out.c_info
    go_upto_region 14 with (fail)
    obtain ⟨V9, HV9⟩ : ∃ V, Hid (V8.setCell ⟨p8, 56, none⟩ (.int .i64 0) = V) := ⟨_, Lib.hid rfl⟩
    have K9 := Lib.hid (show PtBlk 28 V9 p8 O2 by rw [← HV9.out]; exact K8.out.s_info 0)
    have Q11 := Lib.hid (show PtBlk 28 V9 p2 Q2 by rw [← HV9.out]; exact Q10.out.far 56 _ hn1)
    have K11 := Lib.hid (show PtBlk 28 V9 p7 S1 by rw [← HV9.out]; exact K7b.out.far 56 _ hn2)
    have T11 := Lib.hid (show Below w.heap.size w V9 by rw [← HV9.out]; exact T10.out.setCell (p := ⟨p8, 56, none⟩) hp8w _)
    have hrow : ∀ c v, (cellsT C1).toList[c]? = some v → V9.cell? ⟨g, o + c, none⟩ = some v := fun c v hv => by
      rw [← HV9.out]
      have h1 := hgr c v hv
      rw [show o + 0 * 61 + c = o + c by omega] at h1
      exact (World.cell?_setCell_other V8 ⟨p8, 56, none⟩ ⟨g, o + c, none⟩ _ (fun e => hn3 (congrArg Addr.block e).symm)).trans h1
    clear B8 B8' k8 HV8 Q9 O9 T9 K7 hgr hc K8 Q10 O10 T10 K7b hp8e hp8w hp2l hp7l
    refine wp_to (W := V9) (by exact HV9.out.symm) ?_
    clear HV9 f8 c8
    have q1 := Q11.out.c_source
    have q2 := Q11.out.c_info
    have q3 := Q11.out.c_proposed
    have q4 := Q11.out.c_oper
    have q5 := Q11.out.c_heardRstp
    rw [q2_facts.1] at q1
    rw [q2_facts.2.1] at q2
    rw [q2_facts.2.2.1] at q3
    rw [q2_facts.2.2.2.1] at q4
    rw [q2_facts.2.2.2.2] at q5
    have s1 := K11.out.c_source
    rw [s1_facts] at s1
    have r1 : V9.cell? ⟨g, o + 23, none⟩ = some (.int .i64 1) := (hrow 23 (.int .i64 C1.selected) rfl).trans (by rw [c1_facts.1])
    have r2 : V9.cell? ⟨g, o + 24, none⟩ = some (.bool true) := (hrow 24 (.bool C1.ready) rfl).trans (by rw [c1_facts.2.1])
    have r3 : V9.cell? ⟨g, o + 25, none⟩ = some (.bool false) := (hrow 25 (.bool C1.update) rfl).trans (by rw [c1_facts.2.2.1])
    have r4 : V9.cell? ⟨g, o + 18, none⟩ = some (.int .i64 1) := (hrow 18 (.int .i64 C1.given.age) rfl).trans (by rw [c1_facts.2.2.2.1])
    have r5 : V9.cell? ⟨g, o + 14, none⟩ = some (.int .u64 1) := (hrow 14 (.int .u64 C1.offer.root) rfl).trans (by rw [c1_facts.2.2.2.2.1])
    have r6 : V9.cell? ⟨g, o + 15, none⟩ = some (.int .u64 4) := (hrow 15 (.int .u64 C1.offer.cost) rfl).trans (by rw [c1_facts.2.2.2.2.2.1])
    have r7 : V9.cell? ⟨g, o + 16, none⟩ = some (.int .u64 9) := (hrow 16 (.int .u64 C1.offer.bridge) rfl).trans (by rw [c1_facts.2.2.2.2.2.2.1])
    have r8 : V9.cell? ⟨g, o + 17, none⟩ = some (.int .u64 1) := (hrow 17 (.int .u64 C1.offer.port) rfl).trans (by rw [c1_facts.2.2.2.2.2.2.2])
    have hfld : ∀ V, (Instr.field 28 (.agg (cellsT A2)) 5).run Try.prog V = .ok (.int .i64 1) V := fun V => by kernel_rfl
    clear hrow Q11 K11 hn1 hn2 hn3 hg
    go_wp2_with (first
      | (refine wpList_ptg (by kernel_rfl) _ rfl p8 rfl O2 K9.out ?_)
      | (with_reducible refine wp_load_row 28 _ rfl p8 rfl 28 (cellsT O2) (0, 0) _ K9.out rfl rfl infoSP ?_)
      | (go_at_call 12; (with_reducible refine (CA.out _).mono ?_); rintro e z1 ⟨rfl, hz1⟩)
      | (go_at_call 21; (with_reducible refine (CU.out _).mono ?_); rintro e z2 ⟨rfl, hz2⟩)
      | (go_at_call 22; (with_reducible refine (CR.out _).mono ?_); rintro e z3 ⟨rfl, hz3⟩))
    go_ret
    exact ⟨rfl, bw_trans (bw_trans (bw_trans T11.out hz1) hz2) hz3⟩
end Go.Proofs.Ytbiggckddoeghaa
