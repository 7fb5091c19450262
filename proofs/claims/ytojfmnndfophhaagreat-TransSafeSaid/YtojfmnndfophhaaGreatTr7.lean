/-
  Layer 12: what awake asks, at literals; Edge; awake.
  Layer 12: awake.
-/
import Derived.Test.YtojfmnndfophhaaGreatTr6
import Derived.Test.YtojfmnndfophhaaGreatInY
namespace Go.Proofs.YtojfmnndfophhaaGreat
set_option linter.unusedVariables false
set_option linter.unusedSimpArgs false
open Go.RowKit Vm Rm Bm Im

def E1 : Pt := powerP (newP 1 4 true) true
def E2 : Pt := chooseAt 9 U9 [E1] 0 E1
def E3 : Pt := settleP E2
def R9 : Pt := (restP U9 [E3]).1.getD 0 zeroP
def M9 : Nat := (restP U9 [E3]).2
theorem choose_e : chooseP 9 U9 [E1] = ([E2], true) := by
  have h : mayB 9 U9 [E1] = true := by decide
  rw [choose_may h]
  rfl
theorem e1_pok : PtOk E1 := ⟨⟨by decide, by decide⟩, ⟨by decide, by decide⟩, ⟨by decide, by decide⟩, ⟨⟨by decide, by decide⟩, ⟨by decide, by decide⟩, ⟨by decide, by decide⟩, ⟨by decide, by decide⟩⟩, ⟨by decide, by decide⟩⟩
theorem e1_all : ∀ p ∈ [E1], PtOk p := fun p hp => by simp at hp; subst hp; exact e1_pok
set_option maxRecDepth 100000 in
theorem m9_facts : 3 ≤ M9 ∧ M9 < 20 := by decide +kernel
set_option maxRecDepth 100000 in
theorem r9_one : (restP U9 [E3]).1 = [R9] := by decide +kernel
set_option maxRecDepth 100000 in
theorem r9_facts : R9.role = 2 ∧ R9.forwarding = true ∧ R9.learning = true := by decide +kernel
set_option maxRecDepth 100000 in
theorem r9_move : moveP U9 [R9] 0 = ([R9], false) := by decide +kernel
set_option maxRecDepth 100000 in
theorem r9_move1 : moveP U9 [R9] 1 = ([R9], false) := by decide +kernel
set_option maxRecDepth 100000 in
theorem r9_pass : passP U9 [R9] = ([R9], false) := by decide +kernel
theorem rest_e : restP U9 [E3] = ([R9], M9) := Prod.ext r9_one rfl

set_option maxRecDepth 20000 in
set_option maxHeartbeats 4000000 in
theorem edge_w (w : World) :
    Calls Tryz.prog 8 #[] w fun e w' => e = .returned (.agg (cellsT E3)) ∧ Below w.heap.size w w' := by
  obtain ⟨N1, hN1⟩ : ∃ N, newP 1 4 true = N := ⟨_, rfl⟩
  have CN1 := Lib.hid (fun w' => new_w 1 4 true N1 w' (Lib.hid hN1))
  have CP1 := Lib.hid (fun w' => power_w N1 E1 true w' (Lib.hid (by rw [← hN1]; rfl)))
  have CU := Lib.hid (fun w' => usual_w 9 w')
  have CC1 := Lib.hid (fun (w' : World) (a' : Option Addr) (cap' : Nat) (h : PRow w' a' [E1]) => show Calls Tryz.prog 18 #[brv 9 0 20 2 15, .slice a' 1 cap'] w' (fun e w'' => Out w' w'' 1 [E2] true e) from choose_w 9 0 20 2 15 a' cap' [E1] [E2] true w' ⟨by decide, by decide⟩ h e1_all (by decide) choose_e)
  have CS := Lib.hid (fun w' => settle11_w E2 E3 w' (Lib.hid rfl))
  obtain ⟨W, nb, HW, HN, k0, kB⟩ := oneP_is w zeroP
  have K0 := Lib.hid k0
  have KB := Lib.hid (show Below w.heap.size w W from HN.out ▸ kB)
  have hnl := k0.lt

  clear hN1 k0 kB
  go_enter Tryz.func8, Tryz.ntmps8
  go_upto_region 1 with (fail)
  refine wp_to (W := W) (by exact HW.out.symm) ?_
  rw [HN.out]
  go_upto_region 2 with (first
    | (go_at_call 17; (with_reducible refine (CN1.out _).mono ?_); rintro e w1 ⟨rfl, hb1⟩)
    | (go_at_call 16; (with_reducible refine (CP1.out _).mono ?_); rintro e w2 ⟨rfl, hb2⟩)
    | (refine wpList_ptst rfl _ _ rfl w2.heap.size rfl E1 zeroP rfl (ptblk_new _ w2 zeroP) ?_))
  obtain ⟨V1, p2, HV1, Hp1, k1, B1, hs1⟩ := fill_is w2 E1
  refine wp_to (W := V1) (by exact HV1.out.symm) ?_
  rw [Hp1.out]
  have B12 : Below W.heap.size W V1 := bw_trans (bw_trans hb1 hb2) (by rw [Hp1.out]; exact B1)
  have K5 := Lib.hid k1
  have T5 := Lib.hid (bw_trans KB.out B12)
  have Z5 := Lib.hid (K0.out.next B12)
  have hnv : nb < V1.heap.size := Z5.out.lt
  clear B1 k1 hb1 hb2 CN1 CP1 B12 K0 KB HW HV1 Hp1
  simp only [Act.put]
  go_cut [2, 3] (fun u3 u4 wx => ∃ (a' : Option Addr) (cap' : Nat), u3 = .slice a' 1 cap' ∧ u4 = .bool true ∧ PRow wx a' [E2] ∧ PtBlk 34 wx nb zeroP ∧ Below w.heap.size w wx)
  case first =>
    refine wp_region_held_drew (S := fun V => PtBlk 34 V p2 E1) (by kernel_rfl) (show PtBlk 34 V1.drew p2 E1 from K5.out) (fun hHeld => ?_)
    refine wpAnyH_take (i := 1) (v := .agg (cellsT E1)) rfl (by kernel_rfl) (by kernel_rfl) (by kernel_rfl) (fun _ _ _ h => h) (yieldsIf_run (by rfl) 34 _ rfl ⟨p2, 0, none⟩ rfl _ (fun V h => h.loadAt)) hHeld ?_
    try simp only [Act.put, List.getElem_toArray, List.getElem_cons_succ, List.getElem_cons_zero, List.setIfInBounds_toArray, List.set_cons_zero, List.set_cons_succ]
    refine wpAnyH_ready (rs := [0, 2]) (by kernel_rfl) (by simp) ?_
    refine AllReadyH.cons rfl (fun K hK => ?_) (AllReadyH.cons rfl (fun K hK => ?_) AllReadyH.nil)
    · go_simp
      (with_reducible refine (CU.out _).mono ?_)
      rintro e y0 ⟨rfl, hb5⟩
      have QY := Lib.hid (show PtBlk 34 y0 p2 E1 from (show PtBlk 34 V1.drew p2 E1 from K5.out).next hb5)
      have ZY := Lib.hid (show PtBlk 34 y0 nb zeroP from (show PtBlk 34 V1.drew nb zeroP from Z5.out).next hb5)
      have TY := Lib.hid (bw_trans T5.out.drew hb5)
      clear hHeld hb5
      go_simp
      refine hK.out _ _ QY.out (fun hHeld => ?_)
      clear hK
      try simp only [Act.put, List.getElem_toArray, List.getElem_cons_succ, List.getElem_cons_zero, List.setIfInBounds_toArray, List.set_cons_zero, List.set_cons_succ]
      refine wpAnyH_ready (rs := [2]) (by kernel_rfl) (by simp) ?_
      refine AllReadyH.cons rfl (fun K hK => ?_) AllReadyH.nil
      rw [if_pos (by rfl)]
      refine wp_row1 _ rfl E1 rfl ?_
      have QR := Lib.hid (QY.out.next (below_box y0 (.cells (cellsT E1) 34)))
      have ZR := Lib.hid (ZY.out.next (below_box y0 (.cells (cellsT E1) 34)))
      have TR := Lib.hid (bw_alloc TY.out (.cells (cellsT E1) 34))
      have OR := Lib.hid (one_row (heap_alloc_new y0 (.cells (cellsT E1) 34)))
      refine hK.out _ _ QR.out (fun hHeld => ?_)
      clear hK
      try simp only [Act.put, List.getElem_toArray, List.getElem_cons_succ, List.getElem_cons_zero, List.setIfInBounds_toArray, List.set_cons_zero, List.set_cons_succ]
      refine wpAnyH_ready (rs := [3]) (by kernel_rfl) (by simp) ?_
      refine AllReadyH.cons rfl (fun K hK => ?_) AllReadyH.nil
      go_simp
      (with_reducible refine (CC1.out _ _ _ OR.out).mono ?_)
      rintro e y1 ⟨a', cap', rfl, hcap, hrow, hb6⟩
      have O6 := Lib.hid hrow
      have Q6 := Lib.hid (QR.out.next hb6)
      have Z6 := Lib.hid (ZR.out.next hb6)
      have T6 := Lib.hid (bw_trans TR.out hb6)
      clear hHeld hrow hb6
      go_simp
      refine hK.out _ _ Q6.out (fun hHeld => ?_)
      clear hK
      try simp only [Act.put, List.getElem_toArray, List.getElem_cons_succ, List.getElem_cons_zero, List.setIfInBounds_toArray, List.set_cons_zero, List.set_cons_succ]
      refine wpAnyH_take (i := 4) (v := .tuple #[.slice a' 1 cap', .bool true]) rfl (by kernel_rfl) (by kernel_rfl) (by kernel_rfl) (fun _ _ _ h => h) (yieldsIf_move (by rfl) _ rfl _ rfl) hHeld ?_
      try simp only [Act.put, List.getElem_toArray, List.getElem_cons_succ, List.getElem_cons_zero, List.setIfInBounds_toArray, List.set_cons_zero, List.set_cons_succ]
      refine wpAnyH_take (i := 5) (v := .slice a' 1 cap') rfl (by kernel_rfl) (by kernel_rfl) (by kernel_rfl) (fun _ _ _ h => h) (Or.inl ⟨by rfl, fun V h => by go_simp⟩) hHeld ?_
      try simp only [Act.put, List.getElem_toArray, List.getElem_cons_succ, List.getElem_cons_zero, List.setIfInBounds_toArray, List.set_cons_zero, List.set_cons_succ]
      refine wpAnyH_take (i := 6) (v := .bool true) rfl (by kernel_rfl) (by kernel_rfl) (by kernel_rfl) (fun _ _ _ h => h) (Or.inl ⟨by rfl, fun V h => by go_simp⟩) hHeld ?_
      try simp only [Act.put, List.getElem_toArray, List.getElem_cons_succ, List.getElem_cons_zero, List.setIfInBounds_toArray, List.set_cons_zero, List.set_cons_succ]
      refine wpAnyH_take (i := 7) (v := .slice a' 1 cap') rfl (by kernel_rfl) (by kernel_rfl) (by kernel_rfl) (fun _ _ _ h => h) (Or.inl ⟨by rfl, fun V h => by go_simp⟩) hHeld ?_
      try simp only [Act.put, List.getElem_toArray, List.getElem_cons_succ, List.getElem_cons_zero, List.setIfInBounds_toArray, List.set_cons_zero, List.set_cons_succ]
      refine wpAnyH_take (i := 8) (v := .bool true) rfl (by kernel_rfl) (by kernel_rfl) (by kernel_rfl) (fun _ _ _ h => h) (Or.inl ⟨by rfl, fun V h => by go_simp⟩) hHeld ?_
      try simp only [Act.put, List.getElem_toArray, List.getElem_cons_succ, List.getElem_cons_zero, List.setIfInBounds_toArray, List.set_cons_zero, List.set_cons_succ]
      refine wpAnyH_done (by kernel_rfl) ?_ _
      clear hHeld
      go_wp2_with fail
      go_meet
      exact ⟨a', cap', rfl, rfl, O6.out, Z6.out, T6.out⟩
    · rw [if_pos (by rfl)]
      refine wp_row1 _ rfl E1 rfl ?_
      have QY := Lib.hid ((show PtBlk 34 V1.drew p2 E1 from K5.out).next (below_box V1.drew (.cells (cellsT E1) 34)))
      have ZY := Lib.hid ((show PtBlk 34 V1.drew nb zeroP from Z5.out).next (below_box V1.drew (.cells (cellsT E1) 34)))
      have TY := Lib.hid (bw_alloc T5.out.drew (.cells (cellsT E1) 34))
      have OY := Lib.hid (show PRow _ (some ⟨V1.heap.size, 0, none⟩) [E1] from one_row (heap_alloc_new V1.drew (.cells (cellsT E1) 34)))
      clear hHeld
      refine hK.out _ _ QY.out (fun hHeld => ?_)
      clear hK
      try simp only [Act.put, List.getElem_toArray, List.getElem_cons_succ, List.getElem_cons_zero, List.setIfInBounds_toArray, List.set_cons_zero, List.set_cons_succ]
      refine wpAnyH_ready (rs := [0]) (by kernel_rfl) (by simp) ?_
      refine AllReadyH.cons rfl (fun K hK => ?_) AllReadyH.nil
      go_simp
      (with_reducible refine (CU.out _).mono ?_)
      rintro e y0 ⟨rfl, hb5⟩
      have QR := Lib.hid (QY.out.next hb5)
      have ZR := Lib.hid (ZY.out.next hb5)
      have TR := Lib.hid (bw_trans TY.out hb5)
      have OR := Lib.hid (OY.out.next hb5)
      clear hHeld hb5
      go_simp
      refine hK.out _ _ QR.out (fun hHeld => ?_)
      clear hK
      try simp only [Act.put, List.getElem_toArray, List.getElem_cons_succ, List.getElem_cons_zero, List.setIfInBounds_toArray, List.set_cons_zero, List.set_cons_succ]
      refine wpAnyH_ready (rs := [3]) (by kernel_rfl) (by simp) ?_
      refine AllReadyH.cons rfl (fun K hK => ?_) AllReadyH.nil
      go_simp
      (with_reducible refine (CC1.out _ _ _ OR.out).mono ?_)
      rintro e y1 ⟨a', cap', rfl, hcap, hrow, hb6⟩
      have O6 := Lib.hid hrow
      have Q6 := Lib.hid (QR.out.next hb6)
      have Z6 := Lib.hid (ZR.out.next hb6)
      have T6 := Lib.hid (bw_trans TR.out hb6)
      clear hHeld hrow hb6
      go_simp
      refine hK.out _ _ Q6.out (fun hHeld => ?_)
      clear hK
      try simp only [Act.put, List.getElem_toArray, List.getElem_cons_succ, List.getElem_cons_zero, List.setIfInBounds_toArray, List.set_cons_zero, List.set_cons_succ]
      refine wpAnyH_take (i := 4) (v := .tuple #[.slice a' 1 cap', .bool true]) rfl (by kernel_rfl) (by kernel_rfl) (by kernel_rfl) (fun _ _ _ h => h) (yieldsIf_move (by rfl) _ rfl _ rfl) hHeld ?_
      try simp only [Act.put, List.getElem_toArray, List.getElem_cons_succ, List.getElem_cons_zero, List.setIfInBounds_toArray, List.set_cons_zero, List.set_cons_succ]
      refine wpAnyH_take (i := 5) (v := .slice a' 1 cap') rfl (by kernel_rfl) (by kernel_rfl) (by kernel_rfl) (fun _ _ _ h => h) (Or.inl ⟨by rfl, fun V h => by go_simp⟩) hHeld ?_
      try simp only [Act.put, List.getElem_toArray, List.getElem_cons_succ, List.getElem_cons_zero, List.setIfInBounds_toArray, List.set_cons_zero, List.set_cons_succ]
      refine wpAnyH_take (i := 6) (v := .bool true) rfl (by kernel_rfl) (by kernel_rfl) (by kernel_rfl) (fun _ _ _ h => h) (Or.inl ⟨by rfl, fun V h => by go_simp⟩) hHeld ?_
      try simp only [Act.put, List.getElem_toArray, List.getElem_cons_succ, List.getElem_cons_zero, List.setIfInBounds_toArray, List.set_cons_zero, List.set_cons_succ]
      refine wpAnyH_take (i := 7) (v := .slice a' 1 cap') rfl (by kernel_rfl) (by kernel_rfl) (by kernel_rfl) (fun _ _ _ h => h) (Or.inl ⟨by rfl, fun V h => by go_simp⟩) hHeld ?_
      try simp only [Act.put, List.getElem_toArray, List.getElem_cons_succ, List.getElem_cons_zero, List.setIfInBounds_toArray, List.set_cons_zero, List.set_cons_succ]
      refine wpAnyH_take (i := 8) (v := .bool true) rfl (by kernel_rfl) (by kernel_rfl) (by kernel_rfl) (fun _ _ _ h => h) (Or.inl ⟨by rfl, fun V h => by go_simp⟩) hHeld ?_
      try simp only [Act.put, List.getElem_toArray, List.getElem_cons_succ, List.getElem_cons_zero, List.setIfInBounds_toArray, List.set_cons_zero, List.set_cons_succ]
      refine wpAnyH_done (by kernel_rfl) ?_ _
      clear hHeld
      go_wp2_with fail
      go_meet
      exact ⟨a', cap', rfl, rfl, O6.out, Z6.out, T6.out⟩
  case rest =>
    obtain ⟨a', cap', rfl, rfl, hrow, hz, hB⟩ := hcut
    obtain ⟨g, o, rfl, hg, hcs⟩ := hrow.at_ 0 E2 rfl
    have Z7 := Lib.hid hz
    have T7 := Lib.hid hB
    have hcs' : wc.rangeAt g o (cellsT E2).toList := by rw [Nat.zero_mul, Nat.add_zero] at hcs; exact hcs
    clear hrow hz hB CU CC1 hcs K5 T5 Z5
    go_wp2_with (first
      | (with_reducible refine wpList_mid rfl _ rfl _ _ rfl E2 hcs' ?_)
      | (go_at_call 19; (with_reducible refine (CS.out _).mono ?_); rintro e w9 ⟨rfl, hb9⟩; have Z9 := Lib.hid (Z7.out.next hb9); have T9 := Lib.hid (bw_trans T7.out hb9); clear hb9 hcs')
      | (with_reducible refine wpList_ptst rfl _ _ rfl nb rfl E3 zeroP rfl Z9.out ?_))
    have K9 := Z9.out.row E3
    exact bodyPost_ret (v := .agg (cellsT E3)) (results_cell_row rfl _ _ nb 34 (cellsT E3) (0, 0) _ rfl K9 rfl rfl infoSP) rfl ⟨rfl, below_row T9.out (by have := HN.out; omega) _⟩
end Go.Proofs.YtojfmnndfophhaaGreat

namespace Go.Proofs.YtojfmnndfophhaaGreat
set_option linter.unusedVariables false
set_option linter.unusedSimpArgs false
open Go.RowKit Vm Rm Bm Im

def S9 : Pt := { zeroP with learn := true, forward := true }
def S8 : Pt := stateP S9
def S7 : Pt := stateP S8
theorem s8_facts : S8.learning = true ∧ S8.forwarding = false ∧ S7.forwarding = true := by decide +kernel
theorem m9_is : ∃ m : Nat, M9 = m ∧ 3 ≤ m ∧ m < 20 := ⟨_, rfl, m9_facts.1, m9_facts.2⟩
theorem brv_loadAt {w : World} {b : Nat} {i a m h d : Int} (H : BrBlk w b i a m h d) : (Instr.loadAt 26 (.pointer (some ⟨b, 0, none⟩))).run Tryz.prog w = .ok (brv i a m h d) w := loadAt_row H rfl rfl (by kernel_rfl)

set_option maxRecDepth 20000 in
set_option maxHeartbeats 4000000 in
theorem awake12_any (w : World) :
    Calls Tryz.prog 4 #[] w fun e w' => e = .returned (.bool true) ∧ Below w.heap.size w w' := by
  have CU := Lib.hid (fun w' => usual_w 9 w')
  have CE := Lib.hid (fun w' => edge_w w')
  have CR := Lib.hid (fun (w' : World) (a' : Option Addr) (h : PRow w' a' [E3]) => show Calls Tryz.prog 7 #[brv 9 0 20 2 15, .slice a' 1 1] w' (fun e w'' => OutN w' w'' 1 [R9] M9 e) from rest_w 9 U9 a' 1 [E3] [R9] M9 w' h (by decide) (by decide) rest_e)
  have CM0 := Lib.hid (fun (w' : World) (a' : Option Addr) (cap' : Nat) (h : PRow w' a' [R9]) => show Calls Tryz.prog 9 #[brv 9 0 20 2 15, .slice a' 1 cap', .int .i64 0] w' (fun e w'' => Out w' w'' 1 [R9] false e) from move_w 9 U9 a' cap' 0 [R9] [R9] false w' h (by decide) r9_move)
  have CM1 := Lib.hid (fun (w' : World) (a' : Option Addr) (cap' : Nat) (h : PRow w' a' [R9]) => show Calls Tryz.prog 9 #[brv 9 0 20 2 15, .slice a' 1 cap', .int .i64 1] w' (fun e w'' => Out w' w'' 1 [R9] false e) from move_w 9 U9 a' cap' 1 [R9] [R9] false w' h (by decide) r9_move1)
  have CP := Lib.hid (fun (w' : World) (a' : Option Addr) (cap' : Nat) (h : PRow w' a' [R9]) => show Calls Tryz.prog 5 #[brv 9 0 20 2 15, .slice a' 1 cap'] w' (fun e w'' => Out w' w'' 1 [R9] false e) from pass_w 9 U9 a' cap' [R9] [R9] false w' h (by decide) r9_pass)
  have CS1 := Lib.hid (fun w' => state_w S9 S8 w' (Lib.hid rfl))
  have CS2 := Lib.hid (fun w' => state_w S8 S7 w' (Lib.hid rfl))
  go_enter Tryz.func4, Tryz.ntmps4
  go_upto_region 2 with (go_at_call 6; (with_reducible refine (CU.out _).mono ?_); rintro e w1 ⟨rfl, hb1⟩)
  obtain ⟨V1, hV1⟩ : ∃ V, w1.alloc (.cells #[.int .u64 9, .int .i64 0, .int .i64 20, .int .i64 2, .int .i64 15] 26) = V := ⟨_, rfl⟩
  obtain ⟨bb, hbb⟩ : ∃ b, w1.heap.size = b := ⟨_, rfl⟩
  refine wp_to (W := V1) (by exact hV1.symm) ?_
  have K1 := Lib.hid (show BrBlk V1 bb 9 0 20 2 15 by rw [← hV1, ← hbb]; exact heap_alloc_new w1 _)
  have T1 := Lib.hid (show Below w.heap.size w V1 by rw [← hV1]; exact bw_alloc hb1 _)
  rw [hbb]
  clear hV1 hbb hb1 CU
  try simp only [Act.put]
  go_cut [2, 3] (fun u2 u3 wx => ∃ (a' : Option Addr) (cap' : Nat), u2 = .slice a' 1 cap' ∧ u3 = .int .i64 ((M9 : Nat) : Int) ∧ PRow wx a' [R9] ∧ BrBlk wx bb 9 0 20 2 15 ∧ Below w.heap.size w wx)
  case first =>
    refine wp_region_held_drew (S := fun V => BrBlk V bb 9 0 20 2 15) (by kernel_rfl) (show BrBlk V1.drew bb 9 0 20 2 15 from K1.out) (fun hHeld => ?_)
    refine wpAnyH_take (i := 0) (v := brv 9 0 20 2 15) rfl (by kernel_rfl) (by kernel_rfl) (by kernel_rfl) (fun _ _ _ h => h) (yieldsIf_run (by rfl) 26 _ rfl ⟨bb, 0, none⟩ rfl _ (fun V h => brv_loadAt h)) hHeld ?_
    try simp only [Act.put, List.getElem_toArray, List.getElem_cons_succ, List.getElem_cons_zero, List.setIfInBounds_toArray, List.set_cons_zero, List.set_cons_succ]
    refine wpAnyH_ready (rs := [1]) (by kernel_rfl) (by simp) ?_
    refine AllReadyH.cons rfl (fun K hK => ?_) AllReadyH.nil
    go_simp
    (with_reducible refine (CE.out _).mono ?_)
    rintro e y0 ⟨rfl, hb5⟩
    have QY := Lib.hid (show BrBlk y0 bb 9 0 20 2 15 from (show BrBlk V1.drew bb 9 0 20 2 15 from K1.out).next hb5)
    have TY := Lib.hid (bw_trans T1.out.drew hb5)
    clear hHeld hb5
    go_simp
    refine hK.out _ _ QY.out (fun hHeld => ?_)
    clear hK
    try simp only [Act.put, List.getElem_toArray, List.getElem_cons_succ, List.getElem_cons_zero, List.setIfInBounds_toArray, List.set_cons_zero, List.set_cons_succ]
    refine wpAnyH_ready (rs := [2]) (by kernel_rfl) (by simp) ?_
    refine AllReadyH.cons rfl (fun K hK => ?_) AllReadyH.nil
    rw [if_pos (by rfl)]
    refine wp_row1 _ rfl E3 rfl ?_
    have QR := Lib.hid (QY.out.next (below_box y0 (.cells (cellsT E3) 34)))
    have TR := Lib.hid (bw_alloc TY.out (.cells (cellsT E3) 34))
    have OR := Lib.hid (one_row (heap_alloc_new y0 (.cells (cellsT E3) 34)))
    refine hK.out _ _ QR.out (fun hHeld => ?_)
    clear hK
    try simp only [Act.put, List.getElem_toArray, List.getElem_cons_succ, List.getElem_cons_zero, List.setIfInBounds_toArray, List.set_cons_zero, List.set_cons_succ]
    refine wpAnyH_ready (rs := [3]) (by kernel_rfl) (by simp) ?_
    refine AllReadyH.cons rfl (fun K hK => ?_) AllReadyH.nil
    go_simp
    (with_reducible refine (CR.out _ _ OR.out).mono ?_)
    rintro e y1 ⟨a', cap', rfl, hcap, hrow, hb6⟩
    have O6 := Lib.hid hrow
    have Q6 := Lib.hid (QR.out.next hb6)
    have T6 := Lib.hid (bw_trans TR.out hb6)
    clear hHeld hrow hb6
    go_simp
    refine hK.out _ _ Q6.out (fun hHeld => ?_)
    clear hK
    try simp only [Act.put, List.getElem_toArray, List.getElem_cons_succ, List.getElem_cons_zero, List.setIfInBounds_toArray, List.set_cons_zero, List.set_cons_succ]
    refine wpAnyH_take (i := 4) (v := .tuple #[.slice a' 1 cap', .int .i64 ((M9 : Nat) : Int)]) rfl (by kernel_rfl) (by kernel_rfl) (by kernel_rfl) (fun _ _ _ h => h) (yieldsIf_move (by rfl) _ rfl _ rfl) hHeld ?_
    try simp only [Act.put, List.getElem_toArray, List.getElem_cons_succ, List.getElem_cons_zero, List.setIfInBounds_toArray, List.set_cons_zero, List.set_cons_succ]
    refine wpAnyH_take (i := 5) (v := .slice a' 1 cap') rfl (by kernel_rfl) (by kernel_rfl) (by kernel_rfl) (fun _ _ _ h => h) (Or.inl ⟨by rfl, fun V h => by go_simp⟩) hHeld ?_
    try simp only [Act.put, List.getElem_toArray, List.getElem_cons_succ, List.getElem_cons_zero, List.setIfInBounds_toArray, List.set_cons_zero, List.set_cons_succ]
    refine wpAnyH_take (i := 6) (v := .int .i64 ((M9 : Nat) : Int)) rfl (by kernel_rfl) (by kernel_rfl) (by kernel_rfl) (fun _ _ _ h => h) (Or.inl ⟨by rfl, fun V h => by go_simp⟩) hHeld ?_
    try simp only [Act.put, List.getElem_toArray, List.getElem_cons_succ, List.getElem_cons_zero, List.setIfInBounds_toArray, List.set_cons_zero, List.set_cons_succ]
    refine wpAnyH_take (i := 7) (v := .slice a' 1 cap') rfl (by kernel_rfl) (by kernel_rfl) (by kernel_rfl) (fun _ _ _ h => h) (Or.inl ⟨by rfl, fun V h => by go_simp⟩) hHeld ?_
    try simp only [Act.put, List.getElem_toArray, List.getElem_cons_succ, List.getElem_cons_zero, List.setIfInBounds_toArray, List.set_cons_zero, List.set_cons_succ]
    refine wpAnyH_take (i := 8) (v := .int .i64 ((M9 : Nat) : Int)) rfl (by kernel_rfl) (by kernel_rfl) (by kernel_rfl) (fun _ _ _ h => h) (Or.inl ⟨by rfl, fun V h => by go_simp⟩) hHeld ?_
    try simp only [Act.put, List.getElem_toArray, List.getElem_cons_succ, List.getElem_cons_zero, List.setIfInBounds_toArray, List.set_cons_zero, List.set_cons_succ]
    refine wpAnyH_done (by kernel_rfl) ?_ _
    clear hHeld
    go_wp2_with fail
    go_meet
    exact ⟨a', cap', rfl, rfl, O6.out, Q6.out, T6.out⟩
  case rest =>
    obtain ⟨a', cap', rfl, rfl, hrow, hk, hB⟩ := hcut
    have O7 := Lib.hid hrow
    have Q7 := Lib.hid hk
    have T7 := Lib.hid hB
    obtain ⟨k0, k1, k2, k3, k4⟩ := hk.cells
    clear hrow hk hB CE CR K1 T1
    unfold brv at *
    go_upto_region 6 with (go_at_call 9; (with_reducible refine (CM0.out _ _ _ O7.out).mono ?_); rintro e x1 ⟨a1, c1, rfl, hc1, hr1, hb1⟩)
    have O8 := Lib.hid (O7.out.next hb1)
    have Q8 := Lib.hid (Q7.out.next hb1)
    have T8 := Lib.hid (bw_trans T7.out hb1)
    clear hr1 hb1 k0 k1 k2 k3 k4 hc1
    obtain ⟨k0, k1, k2, k3, k4⟩ := Q8.out.cells
    go_upto_region 7 with (go_at_call 9; (with_reducible refine (CM1.out _ _ _ O8.out).mono ?_); rintro e x2 ⟨a2, c2, rfl, hc2, hr2, hb2⟩)
    have O9 := Lib.hid (O8.out.next hb2)
    have Q9 := Lib.hid (Q8.out.next hb2)
    have T9 := Lib.hid (bw_trans T8.out hb2)
    clear hr2 hb2 k0 k1 k2 k3 k4 hc2
    obtain ⟨k0, k1, k2, k3, k4⟩ := Q9.out.cells
    go_upto_region 8 with (go_at_call 5; (with_reducible refine (CP.out _ _ _ O9.out).mono ?_); rintro e x3 ⟨a3, c3, rfl, hc3, hr3, hb3⟩)
    have O10 := Lib.hid (O9.out.next hb3)
    have T10 := Lib.hid (bw_trans T9.out hb3)
    clear hr3 hb3 k0 k1 k2 k3 k4 hc3 Q7 Q8 Q9 O7 O8 O9 T7 T8 T9 CM0 CM1 CP
    go_upto_region 9 with (first
      | (with_reducible refine wpList_built rfl 34 _ rfl (cellsT S9) (by kernel_rfl) ?_)
      | (go_at_call 10; (with_reducible refine (CS1.out _).mono ?_); rintro e x4 ⟨rfl, hb4⟩)
      | (refine wpList_ptst rfl _ _ rfl x4.heap.size rfl S8 zeroP rfl (ptblk_new _ x4 zeroP) ?_))
    obtain ⟨V8, p8, HV8, Hp8, k8, B8, hs8⟩ := fill_is x4 S8
    refine wp_to (W := V8) (by exact HV8.out.symm) ?_
    rw [Hp8.out]
    have B8' : Below x3.heap.size x3 V8 := bw_trans hb4 (by rw [Hp8.out]; exact B8)
    have K8 := Lib.hid k8
    have T11 := Lib.hid (bw_trans T10.out B8')
    obtain ⟨g, o, rfl, hg, hc⟩ := (O10.out.next B8').at_ 0 R9 rfl
    have hrow : ∀ c v, (cellsT R9).toList[c]? = some v → V8.cell? ⟨g, o + c, none⟩ = some v := fun c v hv => by
      have h1 := hc c v hv
      rwa [show o + 0 * 61 + c = o + c by omega] at h1
    have r1 : V8.cell? ⟨g, o + 22, none⟩ = some (.int .i64 2) := (hrow 22 (.int .i64 R9.role) rfl).trans (by rw [r9_facts.1])
    have r2 : V8.cell? ⟨g, o + 30, none⟩ = some (.bool true) := (hrow 30 (.bool R9.forwarding) rfl).trans (by rw [r9_facts.2.1])
    have r3 : V8.cell? ⟨g, o + 28, none⟩ = some (.bool true) := (hrow 28 (.bool R9.learning) rfl).trans (by rw [r9_facts.2.2])
    have s1 := K8.out.c_learning
    have s2 := K8.out.c_forwarding
    rw [s8_facts.1] at s1
    rw [s8_facts.2.1] at s2
    obtain ⟨m, hm, hm1, hm2⟩ := m9_is
    rw [hm]
    have hm1' : ((m : Nat) : Int) ≥ 3 := by omega
    have hm2' : ((m : Nat) : Int) < 20 := by omega
    have hfld : ∀ V, (Instr.field 34 (.agg (cellsT S7)) 18).run Tryz.prog V = .ok (.bool true) V := fun V => by kernel_rfl
    clear hrow hc hb4 B8 B8' HV8 k8 T10 O10 hm
    go_wp2_with (first
      | (refine wpList_ptg (by kernel_rfl) _ rfl p8 rfl S8 K8.out ?_)
      | (with_reducible refine wp_load_row 34 _ rfl p8 rfl 34 (cellsT S8) (0, 0) _ K8.out rfl rfl infoSP ?_)
      | (go_at_call 10; (with_reducible refine (CS2.out _).mono ?_); rintro e z1 ⟨rfl, hz1⟩))
    go_ret
    exact ⟨rfl, bw_trans T11.out hz1⟩
end Go.Proofs.YtojfmnndfophhaaGreat
