/-
  Layer 13: ChangeTells.
-/
import Derived.Test.YtlfmjinllffifaaChK
namespace Go.Proofs.Ytlfmjinllffifaa
set_option linter.unusedVariables false
set_option linter.unusedSimpArgs false
open Go.RowKit Vm Rm Bm Im

structure Kch0 (q p : Pt) : Prop where
  role : p.role = q.role
  learn : p.learn = q.learn
  forward : p.forward = q.forward
  learning : p.learning = q.learning
  forwarding : p.forwarding = q.forwarding
  vec : p.vec = q.vec
  source : p.source = q.source
def CtInv (n : Nat) (W : World) (v : Value) (wr : World) : Prop := ∃ k : Nat, k ≤ n ∧ v = .int .i64 (k : Nat) ∧ Below W.heap.size W wr

set_option maxRecDepth 20000 in
set_option maxHeartbeats 4000000 in
theorem tells_early_w (i : Int) (t : Tm) (ad : Option Addr) (cap : Nat) (l : List Pt) (at' : Int) (w : World) (hno : 20 < l.length ∨ at' < 0 ∨ (l.length : Int) ≤ at' ∨ rightBr t = false) :
    Calls Try.prog 4 #[brv i t.age t.max t.hello t.delay, .slice ad l.length cap, .int .i64 at'] w fun e w' => e = .returned (.bool true) ∧ Below w.heap.size w w' := by
  have HK := Lib.hid (show BrBlk (w.alloc (.cells (bcl i t.age t.max t.hello t.delay) 26)) w.heap.size i t.age t.max t.hello t.delay from heap_alloc_new w _)
  have B0 := Lib.hid (below_box w (.cells (bcl i t.age t.max t.hello t.delay) 26))
  have CW := Lib.hid (fun w' => awake13_any w')
  obtain ⟨n, hn⟩ : ∃ n, l.length = n := ⟨_, rfl⟩
  rw [hn] at hno ⊢
  clear hn
  unfold brv
  unfold bcl at *
  by_cases h1 : 20 < n
  · have i1 : (n : Int) > 20 := by omega
    clear hno
    go_enter Try.func4, Try.ntmps4
    go_wp2_with (go_at_call 5; (with_reducible refine (CW.out _).mono ?_); rintro e w1 ⟨rfl, hb1⟩; have B1 := Lib.hid (bw_trans B0.out hb1); have KB1 := Lib.hid (HK.out.next hb1); obtain ⟨k0, k1, k2, k3, k4⟩ := KB1.out.cells; clear hb1)
    go_ret
    exact ⟨rfl, B1.out⟩
  have i1 : ¬ (n : Int) > 20 := by omega
  by_cases h2 : at' < 0
  · clear hno
    go_enter Try.func4, Try.ntmps4
    go_wp2_with (go_at_call 5; (with_reducible refine (CW.out _).mono ?_); rintro e w1 ⟨rfl, hb1⟩; have B1 := Lib.hid (bw_trans B0.out hb1); have KB1 := Lib.hid (HK.out.next hb1); obtain ⟨k0, k1, k2, k3, k4⟩ := KB1.out.cells; clear hb1)
    go_ret
    exact ⟨rfl, B1.out⟩
  have i2 : 0 ≤ at' := by omega
  by_cases h3 : (n : Int) ≤ at'
  · have i3 : at' ≥ (n : Int) := h3
    clear hno
    go_enter Try.func4, Try.ntmps4
    go_wp2_with (go_at_call 5; (with_reducible refine (CW.out _).mono ?_); rintro e w1 ⟨rfl, hb1⟩; have B1 := Lib.hid (bw_trans B0.out hb1); have KB1 := Lib.hid (HK.out.next hb1); obtain ⟨k0, k1, k2, k3, k4⟩ := KB1.out.cells; clear hb1)
    go_ret
    exact ⟨rfl, B1.out⟩
  have i3 : at' < (n : Int) := by omega
  have hb : rightBr t = false := by
    rcases hno with h | h | h | h
    · exact absurd h h1
    · exact absurd h h2
    · exact absurd h h3
    · exact h
  have CR := Lib.hid (fun w' => brRight_w i t.age t.max t.hello t.delay false w' (Lib.hid hb))
  clear hno hb
  go_enter Try.func4, Try.ntmps4
  go_wp2_with (first
    | (go_at_call 5; (with_reducible refine (CW.out _).mono ?_); rintro e w1 ⟨rfl, hb1⟩; have B1 := Lib.hid (bw_trans B0.out hb1); have KB1 := Lib.hid (HK.out.next hb1); obtain ⟨k0, k1, k2, k3, k4⟩ := KB1.out.cells; clear hb1)
    | (go_at_call 13; (with_reducible refine (CR.out _).mono ?_); rintro e w2 ⟨rfl, hb2⟩))
  go_ret
  exact ⟨rfl, bw_trans B1.out hb2⟩

set_option maxRecDepth 20000 in
set_option maxHeartbeats 4000000 in
theorem tells_ok_w (i : Int) (t : Tm) (ad : Option Addr) (cap : Nat) (l : List Pt) (kk : Nat) (w : World) (hr : PRow w ad l) (h20 : l.length ≤ 20) (hk : kk < l.length) (hb : rightBr t = true) :
    Calls Try.prog 4 #[brv i t.age t.max t.hello t.delay, .slice ad l.length cap, .int .i64 ((kk : Nat) : Int)] w fun e w' => e = .returned (.bool true) ∧ Below w.heap.size w w' := by
  have HK := Lib.hid (show BrBlk (w.alloc (.cells (bcl i t.age t.max t.hello t.delay) 26)) w.heap.size i t.age t.max t.hello t.delay from heap_alloc_new w _)
  have B0 := Lib.hid (below_box w (.cells (bcl i t.age t.max t.hello t.delay) 26))
  have CW := Lib.hid (fun w' => awake13_any w')
  obtain ⟨n, hn⟩ : ∃ n, l.length = n := ⟨_, rfl⟩
  have HN := Lib.hid hn
  have HR := Lib.hid hr
  obtain ⟨L, hL⟩ : ∃ L, (stepP t l kk).1 = L := ⟨_, rfl⟩
  obtain ⟨BB, hBB⟩ : ∃ B, (stepP t l kk).2 = B := ⟨_, rfl⟩
  have HLN := Lib.hid (show L.length = n by rw [← hL, stepP_len]; exact hn)
  obtain ⟨p, hp⟩ := at_some (l := l) (k := kk) hk
  have HSTEP := Lib.hid (fun (j : Nat) (q : Pt) (hq : l[j]? = some q) => hL ▸ step_at hb hp hq)
  have CS := Lib.hid (fun (w' : World) (h : PRow w' ad l) => show Calls Try.prog 6 #[brv i t.age t.max t.hello t.delay, .slice ad n cap, .int .i64 ((kk : Nat) : Int)] w' (fun e w'' => Out w' w'' n L BB e) from by
    have := step13_w i t ad cap ((kk : Nat) : Int) l L BB w' h (by omega) (by unfold stepI; rw [if_pos (by omega), Int.toNat_natCast]; exact Prod.ext hL hBB)
    rwa [hn] at this)
  have CR := Lib.hid (fun w' => brRight_w i t.age t.max t.hello t.delay true w' (Lib.hid hb))
  have HP := Lib.hid hp
  rw [hn] at h20 hk ⊢
  clear hr hn hL hBB hb hp
  unfold brv at *
  unfold bcl at *
  have i1 : ¬ (n : Int) > 20 := by omega
  have i2 : (0 : Int) ≤ kk := by omega
  have i3 : (kk : Int) < n := by omega
  go_enter Try.func4, Try.ntmps4
  go_upto_region 5 with (first
    | (go_at_call 5; (with_reducible refine (CW.out _).mono ?_); rintro e w1 ⟨rfl, hb1⟩; have B1 := Lib.hid (bw_trans B0.out hb1); have KB1 := Lib.hid (HK.out.next hb1); obtain ⟨k0, k1, k2, k3, k4⟩ := KB1.out.cells; clear hb1)
    | (go_at_call 13; (with_reducible refine (CR.out _).mono ?_); rintro e w2 ⟨rfl, hb2⟩))
  have B2 := Lib.hid (bw_trans B1.out hb2)
  clear k0 k1 k2 k3 k4
  obtain ⟨k0, k1, k2, k3, k4⟩ := (KB1.out.next hb2).cells
  have HC := Lib.hid (CS.out w2 (HR.out.next B2.out))
  clear hb2 CW CR HK B0 B1 CS KB1
  go_upto_region 8 with (go_at_call 6; (with_reducible refine HC.out.mono ?_); rintro e W ⟨a', cap', rfl, hcap, hrow, hb3⟩)
  have HXR := Lib.hid hrow
  have B3 := Lib.hid (bw_trans B2.out hb3)
  obtain ⟨g0, o0, e0, hg0, hc0⟩ := (HR.out.next B3.out).at_ kk p HP.out
  subst e0
  clear hrow hb3 HC k0 k1 k2 k3 k4 B2
  have hmid : W.rangeAt g0 (o0 + kk * 61) (cellsT p).toList := hc0
  go_upto_region 9 with (first
    | (with_reducible refine wpList_mid rfl _ rfl _ _ rfl p hmid ?_)
    | (refine wpList_ptst rfl _ _ rfl W.heap.size rfl p zeroP rfl (ptblk_new _ W zeroP) ?_))
  obtain ⟨V, pb, HV, Hp, k5, B5, hs5⟩ := fillP_is W p
  refine wp_to (W := V) (by exact HV.out.symm) ?_
  rw [Hp.out]
  have B4 := Lib.hid (bw_trans B3.out (by rw [Hp.out]; exact B5))
  have HXV := Lib.hid (HXR.out.next (by rw [Hp.out]; exact B5))
  have t1 := k5.c_change
  have t2 := k5.c_role
  have t3 := k5.c_oper
  have t4 := k5.c_heardTc
  have t5 := k5.c_heardTcn
  obtain ⟨MU, hMU⟩ : ∃ b, mustB13 p = b := ⟨_, rfl⟩
  clear k5 B5 hs5 HV Hp hmid hc0 hg0 HXR B3
  try simp only [Act.put]
  go_cut [10] (fun v wx => v = .bool MU ∧ wx = V)
  case first =>
    obtain ⟨z1, e1⟩ : ∃ z, decide (p.change = 2) = z := ⟨_, rfl⟩
    have d1 : (p.change == 2) = z1 := by rw [← e1]; rfl
    obtain ⟨z2, e2⟩ : ∃ z, decide (p.role = 1) = z := ⟨_, rfl⟩
    have d2 : (p.role == 1) = z2 := by rw [← e2]; rfl
    obtain ⟨z3, e3⟩ : ∃ z, decide (p.role = 2) = z := ⟨_, rfl⟩
    have d3 : (p.role == 2) = z3 := by rw [← e3]; rfl
    obtain ⟨a, ha⟩ : ∃ a, p.oper = a := ⟨_, rfl⟩
    obtain ⟨b, hb'⟩ : ∃ b, p.heardTc = b := ⟨_, rfl⟩
    obtain ⟨c, hc⟩ : ∃ c, p.heardTcn = c := ⟨_, rfl⟩
    have eM : MU = (z1 && ((z2 || z3) && (!a && (b || c)))) := by rw [← hMU]; unfold mustB13 inB; rw [e1, e2, e3, ha, hb', hc]
    rw [ha] at t3
    rw [hb'] at t4
    rw [hc] at t5
    clear e1 e2 e3 ha hb' hc hMU
    cases z1
    · as_aux_lemma =>
        go_wp2_with fail
        all_goals go_meet
        all_goals exact ⟨by rw [eM]; rfl, rfl⟩
    · cases z2 <;> cases a <;> cases b
      all_goals as_aux_lemma =>
        go_wp2_with fail
        all_goals go_meet
        all_goals exact ⟨by rw [eM]; simp_all, rfl⟩
  case rest =>
  obtain ⟨rfl, rfl⟩ := hcut
  have HMU := Lib.hid hMU
  clear hMU t1 t2 t3 t4 t5
  go_wp2_with fail
  go_loopw [11] (fun v wr => CtInv n wc v wr) (fun v _ => n - (intOf v).toNat)
  case atStart => exact ⟨0, Nat.zero_le _, rfl, Below.refl _ _⟩
  case round =>
    obtain ⟨j, hj, rfl, hG⟩ := hrel
    have HG := Lib.hid hG
    have HGW := Lib.hid (bw_trans B4.out hG)
    clear hG
    by_cases hjl : j < n
    · obtain ⟨q, hq⟩ := at_some (l := l) (k := j) (by rw [HN.out]; exact hjl)
      obtain ⟨r, hrr, hown, hoth⟩ := HSTEP.out j q hq
      obtain ⟨g1, o1, e1, hg1, hc1⟩ := (HR.out.next HGW.out).at_ j q hq
      obtain ⟨g2, o2, e2, hg2, hc2⟩ := (HXV.out.next HG.out).at_ j r hrr
      cases e1
      subst e2
      have hji : (j : Int) < n := by omega
      have hj0 : (0 : Int) ≤ j := by omega
      have HOWN := Lib.hid hown
      have HOTH := Lib.hid hoth
      clear hq hrr hown hoth
      go_upto_region 14 with (first
        | (with_reducible refine wpList_mid rfl _ rfl _ _ rfl q hc1 ?_)
        | (refine wpList_ptst rfl _ _ rfl wr.heap.size rfl q zeroP rfl (ptblk_new _ wr zeroP) ?_))
      obtain ⟨V1, qb, HV1, Hq, k5, B5, hs5⟩ := fillP_is wr q
      refine wp_to (W := V1) (by exact HV1.out.symm) ?_
      rw [Hq.out]
      have B6 : Below wr.heap.size wr V1 := by rw [Hq.out]; exact B5
      have hc2' := range_next hc2 hg2 B6
      have KQ := Lib.hid k5
      have HB6 := Lib.hid B6
      have HQ8 := Lib.hid Hq.out
      clear k5 B5 HV1 Hq hc2 hc1 hg1
      go_upto_region 15 with (first
        | (with_reducible refine wpList_mid rfl _ rfl _ _ rfl r hc2' ?_)
        | (refine wpList_ptst rfl _ _ rfl V1.heap.size rfl r zeroP rfl (ptblk_new _ V1 zeroP) ?_))
      obtain ⟨V2, rb, HV2, Hr, k6, B7, hs6⟩ := fillP_is V1 r
      refine wp_to (W := V2) (by exact HV2.out.symm) ?_
      rw [Hr.out]
      have B8 : Below V1.heap.size V1 V2 := by rw [Hr.out]; exact B7
      have KR := Lib.hid k6
      have KQ2 := Lib.hid (KQ.out.next B8)
      have B9 := Lib.hid (bw_trans HG.out (bw_trans HB6.out B8))
      have hne : qb ≠ rb := by have := KQ.out.lt; have := Hr.out; omega
      have HQ9 := Lib.hid (show wc.heap.size ≤ qb by have := HQ8.out; have := HG.out.size; omega)
      clear k6 B7 B8 HV2 Hr hc2' hg2 KQ HB6 hs5 hs6
      have a1 := KQ2.out.c_role
      have a2 := KQ2.out.c_learn
      have a3 := KQ2.out.c_forward
      have a4 := KQ2.out.c_learning
      have a5 := KQ2.out.c_forwarding
      obtain ⟨q6, q7, q8, q9, _, _, _, _⟩ := KQ2.out.rds.1
      have a6 := KQ2.out.c_source
      have a7 := KQ2.out.c_tcProp
      have b1 := KR.out.c_role
      have b2 := KR.out.c_learn
      have b3 := KR.out.c_forward
      have b4 := KR.out.c_learning
      have b5 := KR.out.c_forwarding
      obtain ⟨r6, r7, r8, r9, _, _, _, _⟩ := KR.out.rds.1
      have b6 := KR.out.c_source
      have b7 := KR.out.c_tcProp
      have HKC : Kch0 q r := by
        by_cases e : j = kk
        · have h := HOWN.out e
          exact ⟨h.role, h.learn, h.forward, h.learning, h.forwarding, h.vec, h.source⟩
        · obtain ⟨T, hT, _⟩ := HOTH.out e
          rw [hT]
          exact ⟨rfl, rfl, rfl, rfl, rfl, rfl, rfl⟩
      rw [HKC.role] at b1
      rw [HKC.learn] at b2
      rw [HKC.forward] at b3
      rw [HKC.learning] at b4
      rw [HKC.forwarding] at b5
      rw [HKC.vec] at r6 r7 r8 r9
      rw [HKC.source] at b6
      have hV : ∀ w, Sem.run Try.prog (binOp .neq 45 (.agg #[.int .u64 q.vec.root, .int .u64 q.vec.cost, .int .u64 q.vec.bridge, .int .u64 q.vec.port]) (.agg #[.int .u64 q.vec.root, .int .u64 q.vec.cost, .int .u64 q.vec.bridge, .int .u64 q.vec.port])) w = .ok (.bool false) w := fun w => (run_vcNe q.vec.root q.vec.cost q.vec.bridge q.vec.port q.vec.root q.vec.cost q.vec.bridge q.vec.port w).trans (by simp)
      go_upto_region 17 with (fail)
      clear a1 a2 a3 a4 a5 a6 b1 b2 b3 b4 b5 b6 q6 q7 q8 q9 r6 r7 r8 r9 hV HKC
      by_cases hjk : j = kk
      · have d : ((j : Int) == (kk : Int)) = true := by rw [hjk]; simp
        have hk9 := HOWN.out hjk
        cases hrt : r.tcProp with
        | false =>
          rw [hrt] at b7
          go_wp2_with fail
          exact ⟨⟨j + 1, by omega, by go_num, B9.out⟩, by simp [intOf]; omega⟩
        | true =>
          rw [hrt] at b7
          rw [hk9.tcProp hrt] at a7
          go_wp2_with fail
          exact ⟨⟨j + 1, by omega, by go_num, B9.out⟩, by simp [intOf]; omega⟩
      · have d : ((j : Int) == (kk : Int)) = false := by simp; omega
        obtain ⟨T, hT, hTm⟩ := HOTH.out hjk
        have hrt : r.tcProp = (q.tcProp || T) := by rw [hT]
        have hMT : MU = true → T = true := fun e => hTm (HMU.out.trans e)
        have hTT : ({ q with tcProp := r.tcProp } : Pt) = r := by rw [hrt]; exact hT.symm
        have nS := run_ptSame r
        have f7 := KQ2.out.free
        clear hT hTm HOWN HOTH
        cases T with
        | false =>
          cases hq1 : q.tcProp with
          | false =>
            obtain rfl : MU = false := by
              cases MU with
              | false => rfl
              | true => exact absurd (hMT rfl) (by decide)
            clear hMT
            as_aux_lemma =>
              have hr1 : r.tcProp = false := by rw [hrt, hq1]; rfl
              rw [hq1] at a7
              rw [hr1] at b7 hTT
              obtain ⟨V3, hV3⟩ : ∃ V, V2.setCell ⟨qb, 44, none⟩ (.bool false) = V := ⟨_, rfl⟩
              have KQ3 := Lib.hid (show PtBlk 47 V3 qb r by rw [← hV3, ← hTT]; exact KQ2.out.s_tcProp false)
              have KR3 := Lib.hid (show PtBlk 47 V3 rb r by rw [← hV3]; exact KR.out.far 44 _ (fun e => hne e.symm))
              have B10 := Lib.hid (show Below wc.heap.size wc V3 by rw [← hV3]; exact B9.out.setCell (p := ⟨qb, 44, none⟩) HQ9.out _)
              have HV3 := Lib.hid hV3
              clear hV3 hTT hr1 hrt hq1
              go_upto_region 23 with (fail)
              refine wp_to (W := V3) (by exact HV3.out.symm) ?_
              go_wp2_with (first
                | (with_reducible refine wpList_pt rfl _ rfl qb rfl r KQ3.out ?_)
                | (with_reducible refine wpList_pt rfl _ rfl rb rfl r KR3.out ?_))
              exact ⟨⟨j + 1, by omega, by go_num, B10.out⟩, by simp [intOf]; omega⟩
          | true =>
            clear hMT
            cases MU with
            | false =>
              as_aux_lemma =>
                have hr1 : r.tcProp = true := by rw [hrt, hq1]; rfl
                rw [hq1] at a7
                rw [hr1] at b7 hTT
                obtain ⟨V3, hV3⟩ : ∃ V, V2.setCell ⟨qb, 44, none⟩ (.bool true) = V := ⟨_, rfl⟩
                have KQ3 := Lib.hid (show PtBlk 47 V3 qb r by rw [← hV3, ← hTT]; exact KQ2.out.s_tcProp true)
                have KR3 := Lib.hid (show PtBlk 47 V3 rb r by rw [← hV3]; exact KR.out.far 44 _ (fun e => hne e.symm))
                have B10 := Lib.hid (show Below wc.heap.size wc V3 by rw [← hV3]; exact B9.out.setCell (p := ⟨qb, 44, none⟩) HQ9.out _)
                have HV3 := Lib.hid hV3
                clear hV3 hTT hr1 hrt hq1
                go_upto_region 23 with (fail)
                refine wp_to (W := V3) (by exact HV3.out.symm) ?_
                go_wp2_with (first
                  | (with_reducible refine wpList_pt rfl _ rfl qb rfl r KQ3.out ?_)
                  | (with_reducible refine wpList_pt rfl _ rfl rb rfl r KR3.out ?_))
                exact ⟨⟨j + 1, by omega, by go_num, B10.out⟩, by simp [intOf]; omega⟩
            | true =>
              as_aux_lemma =>
                have hr1 : r.tcProp = true := by rw [hrt, hq1]; rfl
                rw [hq1] at a7
                rw [hr1] at b7 hTT
                obtain ⟨V3, hV3⟩ : ∃ V, V2.setCell ⟨qb, 44, none⟩ (.bool true) = V := ⟨_, rfl⟩
                have KQ3 := Lib.hid (show PtBlk 47 V3 qb r by rw [← hV3, ← hTT]; exact KQ2.out.s_tcProp true)
                have KR3 := Lib.hid (show PtBlk 47 V3 rb r by rw [← hV3]; exact KR.out.far 44 _ (fun e => hne e.symm))
                have B10 := Lib.hid (show Below wc.heap.size wc V3 by rw [← hV3]; exact B9.out.setCell (p := ⟨qb, 44, none⟩) HQ9.out _)
                have HV3 := Lib.hid hV3
                clear hV3 hTT hr1 hrt hq1
                go_upto_region 23 with (fail)
                refine wp_to (W := V3) (by exact HV3.out.symm) ?_
                go_wp2_with (first
                  | (with_reducible refine wpList_pt rfl _ rfl qb rfl r KQ3.out ?_)
                  | (with_reducible refine wpList_pt rfl _ rfl rb rfl r KR3.out ?_))
                exact ⟨⟨j + 1, by omega, by go_num, B10.out⟩, by simp [intOf]; omega⟩
        | true =>
          cases hq1 : q.tcProp with
          | false =>
            clear hMT
            cases MU with
            | false =>
              as_aux_lemma =>
                have hr1 : r.tcProp = true := by rw [hrt, hq1]; rfl
                rw [hq1] at a7
                rw [hr1] at b7 hTT
                obtain ⟨V3, hV3⟩ : ∃ V, V2.setCell ⟨qb, 44, none⟩ (.bool true) = V := ⟨_, rfl⟩
                have KQ3 := Lib.hid (show PtBlk 47 V3 qb r by rw [← hV3, ← hTT]; exact KQ2.out.s_tcProp true)
                have KR3 := Lib.hid (show PtBlk 47 V3 rb r by rw [← hV3]; exact KR.out.far 44 _ (fun e => hne e.symm))
                have B10 := Lib.hid (show Below wc.heap.size wc V3 by rw [← hV3]; exact B9.out.setCell (p := ⟨qb, 44, none⟩) HQ9.out _)
                have HV3 := Lib.hid hV3
                clear hV3 hTT hr1 hrt hq1
                go_upto_region 23 with (fail)
                refine wp_to (W := V3) (by exact HV3.out.symm) ?_
                go_wp2_with (first
                  | (with_reducible refine wpList_pt rfl _ rfl qb rfl r KQ3.out ?_)
                  | (with_reducible refine wpList_pt rfl _ rfl rb rfl r KR3.out ?_))
                exact ⟨⟨j + 1, by omega, by go_num, B10.out⟩, by simp [intOf]; omega⟩
            | true =>
              as_aux_lemma =>
                have hr1 : r.tcProp = true := by rw [hrt, hq1]; rfl
                rw [hq1] at a7
                rw [hr1] at b7 hTT
                obtain ⟨V3, hV3⟩ : ∃ V, V2.setCell ⟨qb, 44, none⟩ (.bool true) = V := ⟨_, rfl⟩
                have KQ3 := Lib.hid (show PtBlk 47 V3 qb r by rw [← hV3, ← hTT]; exact KQ2.out.s_tcProp true)
                have KR3 := Lib.hid (show PtBlk 47 V3 rb r by rw [← hV3]; exact KR.out.far 44 _ (fun e => hne e.symm))
                have B10 := Lib.hid (show Below wc.heap.size wc V3 by rw [← hV3]; exact B9.out.setCell (p := ⟨qb, 44, none⟩) HQ9.out _)
                have HV3 := Lib.hid hV3
                clear hV3 hTT hr1 hrt hq1
                go_upto_region 23 with (fail)
                refine wp_to (W := V3) (by exact HV3.out.symm) ?_
                go_wp2_with (first
                  | (with_reducible refine wpList_pt rfl _ rfl qb rfl r KQ3.out ?_)
                  | (with_reducible refine wpList_pt rfl _ rfl rb rfl r KR3.out ?_))
                exact ⟨⟨j + 1, by omega, by go_num, B10.out⟩, by simp [intOf]; omega⟩
          | true =>
            clear hMT
            cases MU with
            | false =>
              as_aux_lemma =>
                have hr1 : r.tcProp = true := by rw [hrt, hq1]; rfl
                rw [hq1] at a7
                rw [hr1] at b7 hTT
                obtain ⟨V3, hV3⟩ : ∃ V, V2.setCell ⟨qb, 44, none⟩ (.bool true) = V := ⟨_, rfl⟩
                have KQ3 := Lib.hid (show PtBlk 47 V3 qb r by rw [← hV3, ← hTT]; exact KQ2.out.s_tcProp true)
                have KR3 := Lib.hid (show PtBlk 47 V3 rb r by rw [← hV3]; exact KR.out.far 44 _ (fun e => hne e.symm))
                have B10 := Lib.hid (show Below wc.heap.size wc V3 by rw [← hV3]; exact B9.out.setCell (p := ⟨qb, 44, none⟩) HQ9.out _)
                have HV3 := Lib.hid hV3
                clear hV3 hTT hr1 hrt hq1
                go_upto_region 23 with (fail)
                refine wp_to (W := V3) (by exact HV3.out.symm) ?_
                go_wp2_with (first
                  | (with_reducible refine wpList_pt rfl _ rfl qb rfl r KQ3.out ?_)
                  | (with_reducible refine wpList_pt rfl _ rfl rb rfl r KR3.out ?_))
                exact ⟨⟨j + 1, by omega, by go_num, B10.out⟩, by simp [intOf]; omega⟩
            | true =>
              as_aux_lemma =>
                have hr1 : r.tcProp = true := by rw [hrt, hq1]; rfl
                rw [hq1] at a7
                rw [hr1] at b7 hTT
                obtain ⟨V3, hV3⟩ : ∃ V, V2.setCell ⟨qb, 44, none⟩ (.bool true) = V := ⟨_, rfl⟩
                have KQ3 := Lib.hid (show PtBlk 47 V3 qb r by rw [← hV3, ← hTT]; exact KQ2.out.s_tcProp true)
                have KR3 := Lib.hid (show PtBlk 47 V3 rb r by rw [← hV3]; exact KR.out.far 44 _ (fun e => hne e.symm))
                have B10 := Lib.hid (show Below wc.heap.size wc V3 by rw [← hV3]; exact B9.out.setCell (p := ⟨qb, 44, none⟩) HQ9.out _)
                have HV3 := Lib.hid hV3
                clear hV3 hTT hr1 hrt hq1
                go_upto_region 23 with (fail)
                refine wp_to (W := V3) (by exact HV3.out.symm) ?_
                go_wp2_with (first
                  | (with_reducible refine wpList_pt rfl _ rfl qb rfl r KQ3.out ?_)
                  | (with_reducible refine wpList_pt rfl _ rfl rb rfl r KR3.out ?_))
                exact ⟨⟨j + 1, by omega, by go_num, B10.out⟩, by simp [intOf]; omega⟩
    · obtain rfl : j = n := by omega
      go_wp2
      go_ret
      exact ⟨rfl, HGW.out⟩
theorem changeTells_any (i a m h d : Int) (ad : Option Addr) (cap : Nat) (l : List Pt) (at' : Int) (w : World) (hi : Vm.u64B i) (hr : PRow w ad l) (hok : ∀ p ∈ l, PtOk p) :
    Calls Try.prog 4 #[brv i a m h d, .slice ad l.length cap, .int .i64 at'] w fun e w' => e = .returned (.bool true) ∧ Below w.heap.size w w' := by
  by_cases h1 : 20 < l.length
  · exact tells_early_w i ⟨a, m, h, d⟩ ad cap l at' w (.inl h1)
  by_cases h2 : at' < 0
  · exact tells_early_w i ⟨a, m, h, d⟩ ad cap l at' w (.inr (.inl h2))
  by_cases h3 : (l.length : Int) ≤ at'
  · exact tells_early_w i ⟨a, m, h, d⟩ ad cap l at' w (.inr (.inr (.inl h3)))
  cases hb : rightBr ⟨a, m, h, d⟩ with
  | false => exact tells_early_w i ⟨a, m, h, d⟩ ad cap l at' w (.inr (.inr (.inr hb)))
  | true =>
    have e : ((at'.toNat : Nat) : Int) = at' := by omega
    have := tells_ok_w i ⟨a, m, h, d⟩ ad cap l at'.toNat w hr (by omega) (by omega) hb
    rwa [e] at this
end Go.Proofs.Ytlfmjinllffifaa
