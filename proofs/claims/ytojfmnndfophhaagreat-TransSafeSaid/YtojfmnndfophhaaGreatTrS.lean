/-
  Layer 12: TransSafe.
-/
import Derived.Test.YtojfmnndfophhaaGreatTr7
namespace Go.Proofs.YtojfmnndfophhaaGreat
set_option linter.unusedVariables false
set_option linter.unusedSimpArgs false
open Go.RowKit Vm Rm Bm Im

theorem anyH_to {P : Program} {md : Region.Mode} {ops : Array Oper} {Q : Exit → Act → World → Prop} {S : World → Prop} {fuel : Nat} {l : Array Bool} {a : Act} {w W : World} (e : W = w) (h : wpAnyH P md ops Q S fuel l a W) : wpAnyH P md ops Q S fuel l a w := e ▸ h
theorem setRow_other (w : World) {g c : Nat} (cs : Array Value) (hne : c ≠ g) : (w.setRow g cs).heap[c]? = w.heap[c]? := by
  unfold World.setRow
  simp only [Array.getElem?_modify]
  rw [if_neg (fun e => hne e.symm)]
def SfInv (n : Nat) (W : World) (v : Value) (wr : World) : Prop := ∃ k : Nat, k ≤ n ∧ v = .int .i64 (k : Nat) ∧ Below W.heap.size W wr

set_option maxRecDepth 20000 in
set_option maxHeartbeats 4000000 in
theorem safe_any (i : Int) (t : Tm) (ad : Option Addr) (cap : Nat) (l : List Pt) (w : World) (hr : PRow w ad l) :
    Calls Tryz.prog 3 #[brv i t.age t.max t.hello t.delay, .slice ad l.length cap] w fun e w' => e = .returned (.bool true) ∧ Below w.heap.size w w' := by
  have K0 := show BrBlk (w.alloc (.cells (bcl i t.age t.max t.hello t.delay) 26)) w.heap.size i t.age t.max t.hello t.delay from heap_alloc_new w _
  have B0 := Lib.hid (below_box w (.cells (bcl i t.age t.max t.hello t.delay) 26))
  have CW := Lib.hid (fun w' => awake12_any w')
  have HK := Lib.hid K0
  clear K0
  obtain ⟨n, hn⟩ : ∃ n, l.length = n := ⟨_, rfl⟩
  have HN := Lib.hid hn
  have HR := Lib.hid hr
  rw [hn]
  clear hr hn
  unfold brv
  unfold bcl at *
  by_cases h20 : n > 20
  · have hi20 : (n : Int) > 20 := by omega
    go_enter Tryz.func3, Tryz.ntmps3
    go_wp2_with (go_at_call 4; (with_reducible refine (CW.out _).mono ?_); rintro e w1 ⟨rfl, hb1⟩)
    go_ret
    exact ⟨rfl, bw_trans B0.out hb1⟩
  · have hi20 : ¬ (n : Int) > 20 := by omega
    obtain ⟨L, hL⟩ : ∃ L, (passP t l).1 = L := ⟨_, rfl⟩
    have hLn : L.length = n := by rw [← hL, pass_len]; exact HN.out
    have HLN := Lib.hid hLn
    have HSAFE := Lib.hid (fun (k : Nat) (q : Pt) (hq : l[k]? = some q) => hL ▸ pass_safe (t := t) hq)
    have CP := Lib.hid (fun (w' : World) (h : PRow w' ad l) => show Calls Tryz.prog 5 #[brv i t.age t.max t.hello t.delay, .slice ad n cap] w' (fun e w'' => Out w' w'' n L (passP t l).2 e) from by
      have h0 := HN.out
      have := pass_w i t ad cap l L (passP t l).2 w' h (by omega) (by rw [← hL])
      rwa [h0] at this)
    unfold brv at CP
    clear hL hLn
    obtain ⟨BB, hBB⟩ : ∃ B, (passP t l).2 = B := ⟨_, rfl⟩
    rw [hBB] at CP
    clear hBB
    go_enter Tryz.func3, Tryz.ntmps3
    go_upto_region 5 with (go_at_call 4; (with_reducible refine (CW.out _).mono ?_); rintro e w1 ⟨rfl, hb1⟩)
    have B1 := Lib.hid (bw_trans B0.out hb1)
    obtain ⟨k0, k1, k2, k3, k4⟩ := (HK.out.next hb1).cells
    have HC := Lib.hid (CP.out w1 (HR.out.next B1.out))
    clear hb1 CW HK B0 CP
    go_wp2_with (go_at_call 5; (with_reducible refine HC.out.mono ?_); rintro e W ⟨a', cap', rfl, hcap, hrow, hb2⟩)
    have HX := Lib.hid hrow
    have B2 := Lib.hid (bw_trans B1.out hb2)
    clear hrow hb2 B1 HC k0 k1 k2 k3 k4
    go_loopw [7] (fun v wr => SfInv n W v wr) (fun v _ => n - (intOf v).toNat)
    case atStart => exact ⟨0, Nat.zero_le _, rfl, Below.refl _ _⟩
    case round =>
      obtain ⟨k, hk, rfl, hG⟩ := hrel
      have HG := Lib.hid hG
      have HGW := Lib.hid (bw_trans B2.out hG)
      clear hG
      by_cases hkl : k < n
      · obtain ⟨q, hq⟩ := at_some (l := l) (k := k) (by rw [HN.out]; exact hkl)
        obtain ⟨p, hp, hkp, hsf⟩ := HSAFE.out k q hq
        obtain ⟨g1, o1, rfl, hg1, hcs⟩ := (HX.out.next HG.out).at_ k p hp
        obtain ⟨g2, o2, rfl, hg2, hcs2⟩ := (HR.out.next HGW.out).at_ k q hq
        have HKP := Lib.hid hkp
        have HSF := Lib.hid hsf
        have hki : (k : Int) < n := by omega
        have hk0 : (0 : Int) ≤ k := by omega
        clear hq hp hkp hsf
        go_upto_region 11 with (fail)
        go_cut [8, 9] (fun u8 u9 wx => ∃ pb qb : Nat, u8 = .pointer (some ⟨pb, 0, none⟩) ∧ u9 = .pointer (some ⟨qb, 0, none⟩) ∧ PtBlk 34 wx pb p ∧ PtBlk 34 wx qb q ∧ Below wr.heap.size wr wx)
        case first =>
          refine wp_region_held_drew (S := fun V => V.rangeAt g1 (o1 + k * 61) (cellsT p).toList ∧ V.rangeAt g2 (o2 + k * 61) (cellsT q).toList) (by kernel_rfl) ⟨range_drawn hcs, range_drawn hcs2⟩ (fun hHeld => ?_)
          try simp only [Act.put]
          refine wpAnyH_take (i := 0) (v := .slice (some ⟨g1, o1, none⟩) n cap') rfl (by kernel_rfl) (by kernel_rfl) (by kernel_rfl) (fun _ _ _ h => h) (yieldsIf_move (by rfl) _ rfl _ rfl) hHeld ?_
          try simp only [Act.put, List.getElem_toArray, List.getElem_cons_succ, List.getElem_cons_zero, List.setIfInBounds_toArray, List.set_cons_zero, List.set_cons_succ]
          refine wpAnyH_take (i := 1) (v := .int .i64 ((k : Nat) : Int)) rfl (by kernel_rfl) (by kernel_rfl) (by kernel_rfl) (fun _ _ _ h => h) (yieldsIf_move (by rfl) _ rfl _ rfl) hHeld ?_
          try simp only [Act.put, List.getElem_toArray, List.getElem_cons_succ, List.getElem_cons_zero, List.setIfInBounds_toArray, List.set_cons_zero, List.set_cons_succ]
          refine wpAnyH_take (i := 2) (v := .pointer (some ⟨g1, o1 + k * 61, none⟩)) rfl (by kernel_rfl) (by kernel_rfl) (by kernel_rfl) (fun _ _ _ h => h) (Or.inl ⟨by rfl, fun V h => by go_simp⟩) hHeld ?_
          try simp only [Act.put, List.getElem_toArray, List.getElem_cons_succ, List.getElem_cons_zero, List.setIfInBounds_toArray, List.set_cons_zero, List.set_cons_succ]
          refine wpAnyH_take (i := 3) (v := .agg (cellsT p)) rfl (by kernel_rfl) (by kernel_rfl) (by kernel_rfl) (fun _ _ _ h => h) (yieldsIf_run (by rfl) 34 _ rfl ⟨g1, o1 + k * 61, none⟩ rfl _ (fun V h => loadMidP h.1)) hHeld ?_
          try simp only [Act.put, List.getElem_toArray, List.getElem_cons_succ, List.getElem_cons_zero, List.setIfInBounds_toArray, List.set_cons_zero, List.set_cons_succ]
          refine wpAnyH_take (i := 4) (v := .slice (some ⟨g2, o2, none⟩) n cap) rfl (by kernel_rfl) (by kernel_rfl) (by kernel_rfl) (fun _ _ _ h => h) (yieldsIf_move (by rfl) _ rfl _ rfl) hHeld ?_
          try simp only [Act.put, List.getElem_toArray, List.getElem_cons_succ, List.getElem_cons_zero, List.setIfInBounds_toArray, List.set_cons_zero, List.set_cons_succ]
          refine wpAnyH_take (i := 5) (v := .int .i64 ((k : Nat) : Int)) rfl (by kernel_rfl) (by kernel_rfl) (by kernel_rfl) (fun _ _ _ h => h) (yieldsIf_move (by rfl) _ rfl _ rfl) hHeld ?_
          try simp only [Act.put, List.getElem_toArray, List.getElem_cons_succ, List.getElem_cons_zero, List.setIfInBounds_toArray, List.set_cons_zero, List.set_cons_succ]
          refine wpAnyH_take (i := 6) (v := .pointer (some ⟨g2, o2 + k * 61, none⟩)) rfl (by kernel_rfl) (by kernel_rfl) (by kernel_rfl) (fun _ _ _ h => h) (Or.inl ⟨by rfl, fun V h => by go_simp⟩) hHeld ?_
          try simp only [Act.put, List.getElem_toArray, List.getElem_cons_succ, List.getElem_cons_zero, List.setIfInBounds_toArray, List.set_cons_zero, List.set_cons_succ]
          refine wpAnyH_take (i := 7) (v := .agg (cellsT q)) rfl (by kernel_rfl) (by kernel_rfl) (by kernel_rfl) (fun _ _ _ h => h) (yieldsIf_run (by rfl) 34 _ rfl ⟨g2, o2 + k * 61, none⟩ rfl _ (fun V h => loadMidP h.2)) hHeld ?_
          try simp only [Act.put, List.getElem_toArray, List.getElem_cons_succ, List.getElem_cons_zero, List.setIfInBounds_toArray, List.set_cons_zero, List.set_cons_succ]
          refine wpAnyH_ready (rs := [8, 9]) (by kernel_rfl) (by simp) ?_
          refine AllReadyH.cons rfl (fun K hK => ?_) (AllReadyH.cons rfl (fun K hK => ?_) AllReadyH.nil)
          · go_simp
            have ba := bw_alloc (Below.refl wr.heap.size wr).drew (.cells (cellsT zeroP) 34)
            clear hHeld
            refine hK.out _ _ ⟨range_next hcs hg1 ba, range_next hcs2 hg2 ba⟩ (fun hHeld => ?_)
            clear hK
            try simp only [Act.put, List.getElem_toArray, List.getElem_cons_succ, List.getElem_cons_zero, List.setIfInBounds_toArray, List.set_cons_zero, List.set_cons_succ]
            refine wpAnyH_ready (rs := [9]) (by kernel_rfl) (by simp) ?_
            refine AllReadyH.cons rfl (fun K hK => ?_) AllReadyH.nil
            go_simp
            have bb := bw_alloc ba (.cells (cellsT zeroP) 34)
            clear hHeld
            refine hK.out _ _ ⟨range_next hcs hg1 bb, range_next hcs2 hg2 bb⟩ (fun hHeld => ?_)
            clear hK
            try simp only [Act.put, List.getElem_toArray, List.getElem_cons_succ, List.getElem_cons_zero, List.setIfInBounds_toArray, List.set_cons_zero, List.set_cons_succ]
            obtain ⟨V0, hV0⟩ : ∃ V, (wr.drew.alloc (.cells (cellsT zeroP) 34)).alloc (.cells (cellsT zeroP) 34) = V := ⟨_, rfl⟩
            have z1 : PtBlk 34 V0 wr.heap.size zeroP := hV0 ▸ heap_alloc2_old wr.drew _ _
            have z2 : PtBlk 34 V0 (wr.heap.size + 1) zeroP := hV0 ▸ heap_alloc2_new wr.drew _ _
            have bV0 : Below wr.heap.size wr V0 := hV0 ▸ bb
            refine anyH_to (W := V0) (by exact hV0.symm) ?_
            clear hV0 ba bb hHeld
            obtain ⟨r, hrr⟩ : ∃ r, wr.heap.size = r := ⟨_, rfl⟩
            have HRR := Lib.hid hrr
            rw [hrr] at z1 z2 ⊢
            clear hrr
            refine wpAnyH_ready (rs := [10]) (by kernel_rfl) (by simp) ?_
            refine AllReadyH.cons rfl (fun K hK => ?_) AllReadyH.nil
            have st := z1.stores p
            have sz := cellsT_size p
            go_simp
            have b1 := below_row bV0 (g := r) (by have := HRR.out; omega) (cellsT p)
            have y1 := z1.row p
            have y2 : PtBlk 34 (V0.setRow r (cellsT p)) (r + 1) zeroP := (setRow_other V0 (cellsT p) (by omega)).trans z2
            refine hK.out _ _ ⟨range_next hcs hg1 b1, range_next hcs2 hg2 b1⟩ (fun hHeld => ?_)
            clear hK
            try simp only [Act.put, List.getElem_toArray, List.getElem_cons_succ, List.getElem_cons_zero, List.setIfInBounds_toArray, List.set_cons_zero, List.set_cons_succ]
            clear hHeld st sz
            obtain ⟨V1, hV1⟩ : ∃ V, V0.setRow r (cellsT p) = V := ⟨_, rfl⟩
            refine anyH_to (W := V1) (by exact hV1.symm) ?_
            rw [hV1] at b1 y1 y2
            clear hV1 z1 z2 bV0
            refine wpAnyH_ready (rs := [11]) (by kernel_rfl) (by simp) ?_
            refine AllReadyH.cons rfl (fun K hK => ?_) AllReadyH.nil
            have st := y2.stores q
            have sz := cellsT_size q
            go_simp
            have b2 := below_row b1 (g := (r + 1)) (by have := HRR.out; omega) (cellsT q)
            have x2 := y2.row q
            have x1 : PtBlk 34 (V1.setRow (r + 1) (cellsT q)) r p := (setRow_other V1 (cellsT q) (by omega)).trans y1
            refine hK.out _ _ ⟨range_next hcs hg1 b2, range_next hcs2 hg2 b2⟩ (fun hHeld => ?_)
            clear hK
            try simp only [Act.put, List.getElem_toArray, List.getElem_cons_succ, List.getElem_cons_zero, List.setIfInBounds_toArray, List.set_cons_zero, List.set_cons_succ]
            clear hHeld st sz
            refine wpAnyH_done (by kernel_rfl) ?_ _
            go_wp2_with fail
            go_meet
            exact ⟨_, _, rfl, rfl, x1, x2, b2⟩
          · go_simp
            have ba := bw_alloc (Below.refl wr.heap.size wr).drew (.cells (cellsT zeroP) 34)
            clear hHeld
            refine hK.out _ _ ⟨range_next hcs hg1 ba, range_next hcs2 hg2 ba⟩ (fun hHeld => ?_)
            clear hK
            try simp only [Act.put, List.getElem_toArray, List.getElem_cons_succ, List.getElem_cons_zero, List.setIfInBounds_toArray, List.set_cons_zero, List.set_cons_succ]
            refine wpAnyH_ready (rs := [8]) (by kernel_rfl) (by simp) ?_
            refine AllReadyH.cons rfl (fun K hK => ?_) AllReadyH.nil
            go_simp
            have bb := bw_alloc ba (.cells (cellsT zeroP) 34)
            clear hHeld
            refine hK.out _ _ ⟨range_next hcs hg1 bb, range_next hcs2 hg2 bb⟩ (fun hHeld => ?_)
            clear hK
            try simp only [Act.put, List.getElem_toArray, List.getElem_cons_succ, List.getElem_cons_zero, List.setIfInBounds_toArray, List.set_cons_zero, List.set_cons_succ]
            obtain ⟨V0, hV0⟩ : ∃ V, (wr.drew.alloc (.cells (cellsT zeroP) 34)).alloc (.cells (cellsT zeroP) 34) = V := ⟨_, rfl⟩
            have z1 : PtBlk 34 V0 wr.heap.size zeroP := hV0 ▸ heap_alloc2_old wr.drew _ _
            have z2 : PtBlk 34 V0 (wr.heap.size + 1) zeroP := hV0 ▸ heap_alloc2_new wr.drew _ _
            have bV0 : Below wr.heap.size wr V0 := hV0 ▸ bb
            refine anyH_to (W := V0) (by exact hV0.symm) ?_
            clear hV0 ba bb hHeld
            obtain ⟨r, hrr⟩ : ∃ r, wr.heap.size = r := ⟨_, rfl⟩
            have HRR := Lib.hid hrr
            rw [hrr] at z1 z2 ⊢
            clear hrr
            refine wpAnyH_ready (rs := [10]) (by kernel_rfl) (by simp) ?_
            refine AllReadyH.cons rfl (fun K hK => ?_) AllReadyH.nil
            have st := z2.stores p
            have sz := cellsT_size p
            go_simp
            have b1 := below_row bV0 (g := (r + 1)) (by have := HRR.out; omega) (cellsT p)
            have y1 := z2.row p
            have y2 : PtBlk 34 (V0.setRow (r + 1) (cellsT p)) r zeroP := (setRow_other V0 (cellsT p) (by omega)).trans z1
            refine hK.out _ _ ⟨range_next hcs hg1 b1, range_next hcs2 hg2 b1⟩ (fun hHeld => ?_)
            clear hK
            try simp only [Act.put, List.getElem_toArray, List.getElem_cons_succ, List.getElem_cons_zero, List.setIfInBounds_toArray, List.set_cons_zero, List.set_cons_succ]
            clear hHeld st sz
            obtain ⟨V1, hV1⟩ : ∃ V, V0.setRow (r + 1) (cellsT p) = V := ⟨_, rfl⟩
            refine anyH_to (W := V1) (by exact hV1.symm) ?_
            rw [hV1] at b1 y1 y2
            clear hV1 z1 z2 bV0
            refine wpAnyH_ready (rs := [11]) (by kernel_rfl) (by simp) ?_
            refine AllReadyH.cons rfl (fun K hK => ?_) AllReadyH.nil
            have st := y2.stores q
            have sz := cellsT_size q
            go_simp
            have b2 := below_row b1 (g := r) (by have := HRR.out; omega) (cellsT q)
            have x2 := y2.row q
            have x1 : PtBlk 34 (V1.setRow r (cellsT q)) (r + 1) p := (setRow_other V1 (cellsT q) (by omega)).trans y1
            refine hK.out _ _ ⟨range_next hcs hg1 b2, range_next hcs2 hg2 b2⟩ (fun hHeld => ?_)
            clear hK
            try simp only [Act.put, List.getElem_toArray, List.getElem_cons_succ, List.getElem_cons_zero, List.setIfInBounds_toArray, List.set_cons_zero, List.set_cons_succ]
            clear hHeld st sz
            refine wpAnyH_done (by kernel_rfl) ?_ _
            go_wp2_with fail
            go_meet
            exact ⟨_, _, rfl, rfl, x1, x2, b2⟩
        case rest =>
          obtain ⟨pb, qb, rfl, rfl, hpb, hqb, hB⟩ := hcut
          have KP := Lib.hid hpb
          have KQ := Lib.hid hqb
          have HB := Lib.hid (bw_trans HG.out hB)
          have p1 := hpb.c_learn
          have p2 := hpb.c_learning
          have p3 := hpb.c_forward
          have p4 := hpb.c_forwarding
          clear hpb hqb hB hcs hcs2 hg1 hg2
          go_upto_region 12 with (fail)
          go_cut [68] (fun v wx => v = .bool false ∧ wx = wc)
          case first =>
            have hs := HSF.out
            unfold safeB at hs
            obtain ⟨a, ha⟩ : ∃ a, p.learn = a := ⟨_, rfl⟩
            obtain ⟨b, hb⟩ : ∃ b, p.learning = b := ⟨_, rfl⟩
            obtain ⟨c, hc⟩ : ∃ c, p.forward = c := ⟨_, rfl⟩
            obtain ⟨d, hd⟩ : ∃ d, p.forwarding = d := ⟨_, rfl⟩
            rw [ha, hb, hc, hd] at hs
            rw [ha] at p1
            rw [hb] at p2
            rw [hc] at p3
            rw [hd] at p4
            clear ha hb hc hd
            cases a <;> cases b <;> cases c <;> cases d
            all_goals first | (exact absurd hs (by decide)) | skip
            all_goals clear hs
            all_goals go_wp2_with fail
            all_goals go_meet
            all_goals exact ⟨rfl, rfl⟩
          case rest =>
            obtain ⟨rfl, rfl⟩ := hcut
            have hk2 := HKP.out
            have a0 := KP.out.c_id
            have a1 := KP.out.c_cost
            have a2 := KP.out.c_on
            have a3 := KP.out.c_source
            obtain ⟨p6, p7, p8, p9, p10, p11, p12, p13⟩ := KP.out.rds.1
            have a4 := KP.out.c_selected
            obtain ⟨p14, p15, p16, p17, _, _, _, _⟩ := KP.out.rds.2
            have a5 := KP.out.c_update
            have a6 := KP.out.c_ready
            have a7 := KP.out.c_reselect
            have a8 := KP.out.c_oper
            have a9 := KP.out.c_txCount
            have a10 := KP.out.c_role
            rw [hk2.id] at a0
            rw [hk2.cost] at a1
            rw [hk2.on] at a2
            rw [hk2.source] at a3
            rw [hk2.vec] at p6 p7 p8 p9
            rw [hk2.times] at p10 p11 p12 p13
            rw [hk2.selected] at a4
            rw [hk2.offer] at p14 p15 p16 p17
            rw [hk2.update] at a5
            rw [hk2.ready] at a6
            rw [hk2.reselect] at a7
            rw [hk2.oper] at a8
            rw [hk2.txCount] at a9
            have b0 := KQ.out.c_id
            have b1 := KQ.out.c_cost
            have b2 := KQ.out.c_on
            have b3 := KQ.out.c_source
            obtain ⟨q6, q7, q8, q9, q10, q11, q12, q13⟩ := KQ.out.rds.1
            have b4 := KQ.out.c_selected
            obtain ⟨q14, q15, q16, q17, _, _, _, _⟩ := KQ.out.rds.2
            have b5 := KQ.out.c_update
            have b6 := KQ.out.c_ready
            have b7 := KQ.out.c_reselect
            have b8 := KQ.out.c_oper
            have b9 := KQ.out.c_txCount
            have b10 := KQ.out.c_role
            have hV : ∀ w, Sem.run Tryz.prog (binOp .neq 32 (.agg #[.int .u64 q.vec.root, .int .u64 q.vec.cost, .int .u64 q.vec.bridge, .int .u64 q.vec.port]) (.agg #[.int .u64 q.vec.root, .int .u64 q.vec.cost, .int .u64 q.vec.bridge, .int .u64 q.vec.port])) w = .ok (.bool false) w := fun w => (run_vcNe q.vec.root q.vec.cost q.vec.bridge q.vec.port q.vec.root q.vec.cost q.vec.bridge q.vec.port w).trans (by simp)
            have hO : ∀ w, Sem.run Tryz.prog (binOp .neq 32 (.agg #[.int .u64 q.offer.root, .int .u64 q.offer.cost, .int .u64 q.offer.bridge, .int .u64 q.offer.port]) (.agg #[.int .u64 q.offer.root, .int .u64 q.offer.cost, .int .u64 q.offer.bridge, .int .u64 q.offer.port])) w = .ok (.bool false) w := fun w => (run_vcNe q.offer.root q.offer.cost q.offer.bridge q.offer.port q.offer.root q.offer.cost q.offer.bridge q.offer.port w).trans (by simp)
            have hM : ∀ w, Sem.run Tryz.prog (binOp .neq 24 (.agg #[.int .i64 q.times.age, .int .i64 q.times.max, .int .i64 q.times.hello, .int .i64 q.times.delay]) (.agg #[.int .i64 q.times.age, .int .i64 q.times.max, .int .i64 q.times.hello, .int .i64 q.times.delay])) w = .ok (.bool false) w := fun w => (run_tmNe q.times.age q.times.max q.times.hello q.times.delay q.times.age q.times.max q.times.hello q.times.delay w).trans (by simp)
            go_upto_region 14 with (fail)
            simp only [List.append]
            go_upto_region 16 with (fail)
            clear a0 a1 a2 a3 a5 a6 a7 a8 a9 b0 b1 b2 b3 b5 b6 b7 b8 b9 hV hO hM p6 p7 p8 p9 p10 p11 p12 p13 p14 p15 p16 p17 q6 q7 q8 q9 q10 q11 q12 q13 q14 q15 q16 q17 p1 p2 p3 p4
            by_cases e : p.role = q.role
            · have d : (p.role != q.role) = false := by simp [e]
              clear e hk2
              go_wp2_with fail
              exact ⟨⟨k + 1, by omega, by go_num, HB.out⟩, by simp [intOf]; omega⟩
            · have d : (p.role != q.role) = true := by simpa using e
              have e2 : p.role = q.selected := by
                rcases hk2.role with h | h
                · exact absurd h e
                · exact h
              have d2 : (p.role != q.selected) = false := by simp [e2]
              clear e hk2 e2
              go_wp2_with fail
              exact ⟨⟨k + 1, by omega, by go_num, HB.out⟩, by simp [intOf]; omega⟩
      · obtain rfl : k = n := by omega
        go_wp2
        go_ret
        exact ⟨rfl, HGW.out⟩
theorem transSafe_any (i a m h d : Int) (ad : Option Addr) (cap : Nat) (l : List Pt) (w : World) (hi : Vm.u64B i) (hr : PRow w ad l) (hok : ∀ p ∈ l, PtOk p) :
    Calls Tryz.prog 3 #[brv i a m h d, .slice ad l.length cap] w fun e w' => e = .returned (.bool true) ∧ Below w.heap.size w w' := safe_any i ⟨a, m, h, d⟩ ad cap l w hr
end Go.Proofs.YtojfmnndfophhaaGreat
