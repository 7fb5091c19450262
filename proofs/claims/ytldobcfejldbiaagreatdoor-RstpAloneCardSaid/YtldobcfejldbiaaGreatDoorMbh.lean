/-
  Layer 15: New, Tick, Ports, Rounds, Forgotten.
-/
import Derived.Test.YtldobcfejldbiaaGreatDoorMay
import Derived.Test.YtldobcfejldbiaaGreatDoorMab
namespace Go.Proofs.YtldobcfejldbiaaGreatDoor
set_option linter.unusedVariables false
set_option linter.unusedSimpArgs false
open Go.RowKit Go.Maps Vm Rm Bm Im

theorem may_new (br : Int) (t : Tm) (S : List Su) : mayB br t (S.map suP) = newB t S := by
  unfold mayB newB
  have e1 : (S.map suP).any Pt.reselect = decide (0 < S.length) := by
    cases S with
    | nil => rfl
    | cons s S => simp [suP, firstPt]
  have e2 : infosP (S.map suP) = S.map suI := by
    unfold infosP
    rw [List.map_map]
    rfl
  rw [e1, e2]
theorem new_few {t : Tm} {S : List Su} (h : newB t S = true) : 1 ≤ S.length ∧ S.length ≤ 16 := by
  obtain ⟨h1, _, h3⟩ := new_parts h
  unfold rightR at h3
  simp only [Bool.and_eq_true, decide_eq_true_eq, List.length_map] at h3
  exact ⟨h1, h3.1.1⟩
theorem new_many {t : Tm} {S : List Su} (h : 16 < S.length) : newB t S = false := by
  cases hn : newB t S with
  | false => rfl
  | true => have := (new_few hn).2; omega

set_option maxRecDepth 20000 in
set_option maxHeartbeats 4000000 in
theorem new15_w (i : Int) (t : Tm) (a : Option Addr) (cap : Nat) (S : List Su) (w : World) (hr : SuRow w a S) (hbr : Vm.u64B i) (hS : ∀ s ∈ S, Vm.u64B s.id ∧ Vm.u64B s.cost) (hl : S.length ≤ 1000) :
    Calls Tryz.prog 8 #[brv i t.age t.max t.hello t.delay, .slice a S.length cap] w fun e w' =>
      (newB t S = false ∧ e = .returned (.tuple #[.pointer none, .int .i64 2]) ∧ Below w.heap.size w w') ∨
      (newB t S = true ∧ ∃ xb g cap' mb, e = .returned (.tuple #[.pointer (some ⟨xb, 0, none⟩), .int .i64 0]) ∧ w.heap.size ≤ xb ∧ w.heap.size ≤ g ∧ w.heap.size ≤ mb ∧ IsX w' xb g cap' mb i t 1 (newX i t S) ∧ Below w.heap.size w w') := by
  have B0 := Lib.hid (below_box w (.cells (bcl i t.age t.max t.hello t.delay) 26))
  have K0 := Lib.hid (show BrBlk (w.alloc (.cells (bcl i t.age t.max t.hello t.delay) 26)) w.heap.size i t.age t.max t.hello t.delay from heap_alloc_new w _)
  obtain ⟨n, hn⟩ : ∃ n, S.length = n := ⟨_, rfl⟩
  have HN := Lib.hid hn
  by_cases h16 : n ≤ 16
  · have CE := Lib.hid (eachS_w 29 suP (fun _ _ => by kernel_rfl) a cap S _ (hr.next B0.out) (by omega) (fun j s _ w' _ => newPort_w s.id s.cost s.edge w'))
    rw [hn] at CE ⊢
    have hok : ∀ p ∈ S.map suP, PtOk p := by
      intro p hp
      obtain ⟨s, hs, rfl⟩ := List.mem_map.1 hp
      obtain ⟨h1, h2⟩ := hS s hs
      have z : inI64 0 := by unfold inI64; omega
      exact ⟨⟨z, z, z, z, z, z, z, z, z⟩, h1, h2, z, zero_ok, z⟩
    have CC := Lib.hid (fun w' a' cap' (hr' : PRow w' a' (S.map suP)) => show Calls Tryz.prog 30 #[brv i t.age t.max t.hello t.delay, .slice a' n cap'] w' (fun e w'' => Out w' w'' n (chooseP i t (S.map suP)).1 (newB t S) e) from by
      have e : (chooseP i t (S.map suP)).2 = newB t S := by
        rw [← may_new i t S]
        cases hm : mayB i t (S.map suP) with
        | false => rw [choose_not hm]
        | true => rw [choose_may hm]
      have := choose_w i t.age t.max t.hello t.delay a' cap' (S.map suP) (chooseP i t (S.map suP)).1 (newB t S) w' hbr hr' hok (by rw [List.length_map]; omega) (by rw [← e])
      rw [List.length_map, hn] at this
      exact this)
    have hni : ¬ (n : Int) > 16 := by omega
    have HS := Lib.hid hS
    unfold brv at *
    unfold bcl at *
    clear hr hn hok hS
    go_enter Tryz.func8, Tryz.ntmps8
    go_wp2_with fail
    (with_reducible refine CE.out.mono ?_)
    rintro e w1 ⟨a1, cap1, rfl, hcap1, hrow1, hb1⟩
    have K1 := Lib.hid (K0.out.next hb1)
    have R1 := Lib.hid hrow1
    have B1 := Lib.hid (bw_trans B0.out hb1)
    obtain ⟨k0, k1, k2, k3, k4⟩ := K1.out.cells
    clear hb1 hrow1 CE
    go_wp2_with fail
    (with_reducible refine (CC.out _ _ _ R1.out).mono ?_)
    rintro e w2 ⟨a2, cap2, rfl, hcap2, hrow2, hb2⟩
    have K2 := Lib.hid (K1.out.next hb2)
    have R2 := Lib.hid (R1.out.next hb2)
    have B2 := Lib.hid (bw_trans B1.out hb2)
    clear hb2 hrow2 CC k0 k1 k2 k3 k4
    obtain ⟨k0, k1, k2, k3, k4⟩ := K2.out.cells
    cases hnb : newB t S with
    | false =>
      have HNB := Lib.hid hnb
      clear hnb
      go_wp2_with fail
      go_ret2
      exact .inl ⟨HNB.out, rfl, B2.out⟩
    | true =>
      have HNB := Lib.hid hnb
      have hfw := new_few hnb
      have M0 := fm_made w2
      have b3 := below_box w2 (.map #[] 0)
      have s3 := size_box w2 (.map #[] 0)
      have K3 := Lib.hid (K2.out.next b3)
      obtain ⟨V, hV⟩ : ∃ V, (w2.alloc (.map #[] 0)).alloc (.cells (xcl i t a1 n cap1 w2.heap.size 0) 95) = V := ⟨_, rfl⟩
      have b4 := below_box (w2.alloc (.map #[] 0)) (.cells (xcl i t a1 n cap1 w2.heap.size 0) 95)
      have X4 : XBlk V (w2.heap.size + 1) i t a1 n cap1 w2.heap.size 0 := by
        have := heap_alloc_new (w2.alloc (.map #[] 0)) (.cells (xcl i t a1 n cap1 w2.heap.size 0) 95)
        rw [hV, s3] at this
        exact this
      rw [hV] at b4
      have M4 := M0.next b4
      have R4 := (R2.out.next b3).next b4
      have hgood := good_new hnb (fun s hs => (HS.out s hs).2.1)
      have hfok : FOk ((S.map suP).map Pt.id) [] := ⟨List.Pairwise.nil, by simp⟩
      have CR := Lib.hid (run15_w (w2.heap.size + 1) i t a1 n cap1 w2.heap.size 0 ⟨S.map suP, [], 0⟩ V X4 R4 (by show (S.map suP).length = n; rw [List.length_map]; exact HN.out) (by have := HN.out; omega) h16 M4 hfok hbr hgood (by show 0 ≤ _; omega) (by omega))
      have BV := Lib.hid (show Below w.heap.size w V from bw_trans B2.out (bw_trans b3 b4))
      have HV := Lib.hid hV
      have S3 := Lib.hid s3
      have SV := Lib.hid (show V.heap.size = w2.heap.size + 2 by rw [← hV]; simp)
      clear M0 b3 b4 X4 M4 R4 hgood hfok hV s3 hnb k0 k1 k2 k3 k4
      obtain ⟨k0, k1, k2, k3, k4⟩ := K2.out.cells
      have hmm := @run_makeMap Tryz.prog
      go_upto_region 7 with (fail)
      have kA := K3.out.cells
      obtain ⟨j0, j1, j2, j3, j4⟩ := kA
      go_upto_region 8 with (with_reducible refine wpList_built rfl 95 _ rfl (xcl i t a1 n cap1 w2.heap.size 0) (by kernel_rfl) ?_)
      refine wp_to (W := V) (by exact HV.out.symm) ?_
      clear k0 k1 k2 k3 k4 j0 j1 j2 j3 j4 hmm
      go_wp2_with fail
      (with_reducible refine CR.out.mono ?_)
      rintro e w5 ⟨rfl, g, cap', hg, hx, hk⟩
      have HX := Lib.hid hx
      have HK := Lib.hid hk
      clear hx hk
      go_wp2_with fail
      go_ret2
      exact .inr ⟨HNB.out, w2.heap.size + 1, g, cap', w2.heap.size, rfl, by have := B2.out.size; omega, by have := BV.out.size; omega, B2.out.size, HX.out, HK.out.below BV.out (by have := B2.out.size; omega) B2.out.size BV.out.size⟩
  · have hni : (n : Int) > 16 := by omega
    have e := new_many (t := t) (S := S) (by have := HN.out; omega)
    have HE := Lib.hid e
    rw [hn]
    unfold brv at *
    unfold bcl at *
    clear hr hn hS e
    go_enter Tryz.func8, Tryz.ntmps8
    go_wp2_with fail
    go_ret2
    exact .inl ⟨HE.out, rfl, B0.out⟩

set_option maxRecDepth 20000 in
set_option maxHeartbeats 2000000 in
theorem tick15_w (xb g cap mb k : Nat) (i : Int) (t : Tm) (x : Rs) (w : World) (h : IsX w xb g cap mb i t k x) (hbr : Vm.u64B i) (hk : k ≤ 1000) :
    Calls Tryz.prog 15 #[.pointer (some ⟨xb, 0, none⟩)] w fun e w' => e = .returned (.tuple #[]) ∧ Act15 w w' xb g mb i t k (tickX i t x) := by
  obtain ⟨hne1, hne2, hne3⟩ := h.ne
  have CD := Lib.hid (doAll_w 47 tickP (fun _ _ => by kernel_rfl) xb i t (some ⟨g, 0, none⟩) x.l.length cap mb ((x.r : Nat) : Int) x.l w h.blk h.row.row rfl (by have := h.len2; omega) (fun j p hp w' _ => by
    obtain ⟨t1, t2, t3, t4, t5, t6, t7, t8, t9⟩ := (h.good.ptok hp).1
    exact tick10_w p w' ⟨t1, t2, t3, t4, t5, t6, t7, t8, t9⟩))
  have CR := Lib.hid (fun w' a' cap' (hx' : XBlk w' xb i t a' x.l.length cap' mb ((x.r : Nat) : Int)) (hr' : PRow w' a' (x.l.map tickP)) (hf' : IsFm w' mb x.f) => run15_w xb i t a' x.l.length cap' mb k { x with l := x.l.map tickP } w' hx' hr' (by show (x.l.map tickP).length = _; rw [List.length_map]) h.len1 h.len2 hf' (by show FOk ((x.l.map tickP).map Pt.id) x.f; rw [List.map_map]; exact h.fok) hbr (good_tick h.good) h.rr hk)
  have HX := Lib.hid h
  clear h
  go_enter Tryz.func15, Tryz.ntmps15
  go_wp2_with fail
  (with_reducible refine CD.out.mono ?_)
  rintro e w1 ⟨rfl, a1, cap1, hcap1, hx1, hr1, hk1⟩
  have CRR := Lib.hid (CR.out w1 a1 cap1 hx1 hr1 (HX.out.fm.kp hk1 (fun e => hne1 e.symm)))
  have K1 := Lib.hid hk1
  clear hx1 hr1 hk1 CR CD
  go_wp2_with fail
  (with_reducible refine CRR.out.mono ?_)
  rintro e w2 ⟨rfl, g', cap', hg', hx', hk'⟩
  have HX' := Lib.hid hx'
  have HK' := Lib.hid hk'
  clear hx' hk'
  go_wp2_with fail
  go_end0
  exact ⟨rfl, g', cap', .inr (Nat.le_trans K1.out.size hg'), HX'.out, K3.of2 ((K2.ofx K1.out).trans HK'.out)⟩

set_option maxHeartbeats 1000000 in
theorem ports15_w (xb g cap mb k : Nat) (i : Int) (t : Tm) (x : Rs) (w : World) (h : IsX w xb g cap mb i t k x) :
    Calls Tryz.prog 23 #[.pointer (some ⟨xb, 0, none⟩)] w fun e w' => ∃ (g' cap' : Nat), e = .returned (.slice (some ⟨g', 0, none⟩) x.l.length cap') ∧ x.l.length ≤ cap' ∧ w.heap.size ≤ g' ∧ WRow w' g' x.l ∧ Below w.heap.size w w' := by
  have CC := Lib.hid (clone_w (some ⟨g, 0, none⟩) cap x.l w h.row.row (by have := h.len2; omega))
  have hl := h.len1
  obtain ⟨k0, k1, k2, k3, k4, k5, k6, k7⟩ := h.blk.cells
  clear h
  go_enter Tryz.func23, Tryz.ntmps23
  go_wp2_with fail
  (with_reducible refine CC.out.mono ?_)
  rintro e w1 ⟨a', cap', rfl, hcap, hown, hb⟩
  obtain ⟨g', rfl, hg', hw'⟩ : ∃ g', a' = some ⟨g', 0, none⟩ ∧ w.heap.size ≤ g' ∧ WRow w1 g' x.l := by
    rcases hown with ⟨_, e⟩ | h
    · rw [e] at hl; simp at hl
    · exact h
  have HB := Lib.hid hb
  have HW := Lib.hid hw'
  have HC := Lib.hid hcap
  clear hb hw' hown hcap k0 k1 k2 k3 k4 k5 k6 k7
  go_wp2_with fail
  go_ret
  exact ⟨g', cap', rfl, HC.out, hg', HW.out, HB.out⟩

set_option maxHeartbeats 1000000 in
theorem rounds15_w (xb g cap mb k : Nat) (i : Int) (t : Tm) (x : Rs) (w : World) (h : IsX w xb g cap mb i t k x) :
    Calls Tryz.prog 24 #[.pointer (some ⟨xb, 0, none⟩)] w fun e w' => e = .returned (.int .i64 ((x.r : Nat) : Int)) ∧ w' = w := by
  obtain ⟨k0, k1, k2, k3, k4, k5, k6, k7⟩ := h.blk.cells
  have CL := Lib.hid (load64_w xb 7 ((x.r : Nat) : Int) w k7)
  clear h
  go_enter Tryz.func24, Tryz.ntmps24
  go_wp2_with fail
  (with_reducible refine CL.out.mono ?_)
  rintro e w1 ⟨rfl, rfl⟩
  go_wp2_with fail
  go_ret
  exact ⟨rfl, rfl⟩

set_option maxRecDepth 20000 in
set_option maxHeartbeats 2000000 in
theorem forgotten15_w (xb g cap mb k : Nat) (i : Int) (t : Tm) (x : Rs) (w : World) (h : IsX w xb g cap mb i t k x) :
    Calls Tryz.prog 21 #[.pointer (some ⟨xb, 0, none⟩)] w fun e w' => (∃ (a : Option Addr) (dcap : Nat), e = .returned (.slice a x.f.length dcap) ∧ x.f.length ≤ dcap ∧ URow w' a x.f) ∧ Act15 w w' xb g mb i t k { x with f := [] } := by
  obtain ⟨hne1, hne2, hne3⟩ := h.ne
  have hml := h.fm.lt
  have CK := Lib.hid (keysU_c (some mb) w)
  have b1 := below_box w (.cells #[.map (some mb)] 88)
  have s1 := size_box w (.cells #[.map (some mb)] 88)
  have hc1 : (w.alloc (.cells #[.map (some mb)] 88)).cell? ⟨w.heap.size, 0, none⟩ = some (.map (some mb)) := (cell_of_row _ _ 0 _ _ _ (heap_alloc_new w (.cells #[.map (some mb)] 88))).trans rfl
  have CS := Lib.hid (sortedU_w w.heap.size mb x.f _ (by rw [s1]; exact Nat.lt_succ_self _) hc1 (h.fm.next b1))
  have HX := Lib.hid h
  have B1 := Lib.hid b1
  obtain ⟨k0, k1, k2, k3, k4, k5, k6, k7⟩ := h.blk.cells
  clear h b1 hc1 s1
  go_enter Tryz.func21, Tryz.ntmps21
  go_wp2_with fail
  (with_reducible refine CK.out.mono ?_)
  rintro e w1 ⟨rfl, rfl⟩
  go_wp2_with fail
  (with_reducible refine CS.out.mono ?_)
  rintro e w2 ⟨a, dcap, rfl, hdc, hur, hb2⟩
  have X2 := Lib.hid ((HX.out.next B1.out).next hb2)
  have B2 := Lib.hid (bw_trans B1.out hb2)
  have U2 := Lib.hid hur
  have hcl := fun ty => fm_cleared X2.out.fm ty
  have HD := Lib.hid hdc
  clear hb2 hur hdc k0 k1 k2 k3 k4 k5 k6 k7
  obtain ⟨k0, k1, k2, k3, k4, k5, k6, k7⟩ := X2.out.blk.cells
  obtain ⟨w3, hrun, hm3, ht3⟩ := hcl 0
  go_wp2_with fail
  have hkm := kp_turned ht3
  have hx3 : IsX w3 xb g cap mb i t k { x with f := [] } := ⟨X2.out.blk.kp hkm hne1, X2.out.row.kp hkm hne3, X2.out.cap, hm3, ⟨List.Pairwise.nil, by simp⟩, X2.out.good, X2.out.len1, X2.out.len2, X2.out.rr⟩
  have hu3 : URow w3 a x.f := ⟨fun j n hn => by
    obtain ⟨g', o, e, hg, hc⟩ := U2.out.at_ j n hn
    have hne : g' ≠ mb := by
      rintro rfl
      obtain ⟨D, nn, _, ⟨es, clock, hb, _⟩, _⟩ := X2.out.fm.own
      unfold World.cell? at hc
      simp only [hb] at hc
      cases hc
    exact ⟨g', o, e, Nat.lt_of_lt_of_le hg hkm.size, by rw [← hc]; simp only [World.cell?, hkm.block g' hg hne]⟩⟩
  have HX3 := Lib.hid hx3
  have HU3 := Lib.hid hu3
  have HKM := Lib.hid hkm
  clear hx3 hu3 hkm hm3 ht3 hrun hcl k0 k1 k2 k3 k4 k5 k6 k7
  go_ret
  exact ⟨⟨a, dcap, rfl, HD.out, HU3.out⟩, g, cap, .inl rfl, HX3.out.more, (K3.of B2.out).trans (K3.of2 (K2.ofm HKM.out))⟩
end Go.Proofs.YtldobcfejldbiaaGreatDoor
