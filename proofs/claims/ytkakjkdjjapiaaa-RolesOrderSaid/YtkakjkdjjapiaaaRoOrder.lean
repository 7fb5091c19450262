/-
  The walk of RolesOrder.
-/
import Derived.Test.YtkakjkdjjapiaaaRoT
namespace Go.Proofs.Ytkakjkdjjapiaaa
set_option linter.unusedVariables false
set_option linter.unusedSimpArgs false
open Go.RowKit Vm Rm

theorem deaf_ok {x : Inf} (h : InfOk x) : InfOk (deafR x) := by
  obtain ⟨h1, h2, ⟨h3, h4⟩, _⟩ := h
  have z : u64B 0 := ⟨by decide, by decide⟩
  refine ⟨h1, h2, ?_, ⟨z, z, z, z⟩⟩
  show inI64 (min x.source 2)
  unfold inI64
  omega
theorem ap_kept {v u : Value} (h : ∀ x, v.ownBlock = some x → u.ownBlock ≠ some x) : v.ownBlock = none ∨ v.ownBlock ≠ u.ownBlock := by
  cases hv : v.ownBlock with
  | none => exact .inl rfl
  | some x => exact .inr (fun e => h x hv e.symm)
theorem ap_kept' {v u : Value} (h : ∀ x, v.ownBlock = some x → u.ownBlock ≠ some x) : u.ownBlock = none ∨ u.ownBlock ≠ v.ownBlock := by
  cases hv : u.ownBlock with
  | none => exact .inl rfl
  | some x => exact .inr (fun e => h x e.symm hv)
/-- Behind j rounds: the last j, turned about, and deaf. -/
structure OrdAt (l : List Inf) (base : Nat) (w : World) (j : Nat) (t d : Value) (wr : World) : Prop where
  t_ : wr.ownsRow base 42 7 t j (cellsP (l.reverse.take j))
  d_ : wr.ownsRow base 42 7 d j (cellsP ((l.reverse.map deafR).take j))
  ap : ∀ x, t.ownBlock = some x → d.ownBlock ≠ some x
  low : Below w.heap.size w wr
  hi : base ≤ wr.heap.size
def OrdInv (l : List Inf) (n base : Nat) (w : World) (t d i : Value) (wr : World) : Prop :=
  ∃ j : Nat, j ≤ n ∧ i = .int .i64 ((n : Int) - 1 - (j : Nat)) ∧ OrdAt l base w j t d wr

theorem select_n (br : Int) (a : Option Addr) (n cap : Nat) (l : List Inf) (vr vc vb vp P : Int) (w : World) (hbr : u64B br) (h : IRow w a l) (hn : l.length = n) (hcap : n ≤ cap) (hR : Hid (rightR l = true)) (hV : Hid (rootV br l = ⟨vr, vc, vb, vp⟩)) (hP : Hid (portI (rootP br l) = P)) :
    Calls Try.prog 8 #[.int .u64 br, .slice a n cap] w fun e w' =>
      ∃ (ra oa : Option Addr) (rcap ocap : Nat), e = .returned (.tuple #[res vr vc vb vp P (.slice ra n rcap) (.slice oa n ocap), .int .i64 0]) ∧ NRow w' ra (rolesN br l n) ∧ Below w.heap.size w w' := by
  subst hn
  refine (select_ok br a cap l vr vc vb vp P w hbr h hcap hR hV hP).mono ?_
  rintro e w' ⟨ra, oa, rcap, ocap, h1, h2, _, h4⟩
  exact ⟨ra, oa, rcap, ocap, h1, h2, h4⟩
/-- The cells of the three results that the law asks. -/
abbrev OCells (w : World) (A B C : Nat) (vr vc vb vp br : Int) (sa sb sc : Value) : Prop :=
  (w.cell? ⟨A, 0, none⟩ = some (.int .u64 vr) ∧ w.cell? ⟨A, 1, none⟩ = some (.int .u64 vc) ∧ w.cell? ⟨A, 2, none⟩ = some (.int .u64 vb) ∧ w.cell? ⟨A, 3, none⟩ = some (.int .u64 vp) ∧ w.cell? ⟨A, 5, none⟩ = some sa) ∧
  (w.cell? ⟨B, 0, none⟩ = some (.int .u64 vr) ∧ w.cell? ⟨B, 1, none⟩ = some (.int .u64 vc) ∧ w.cell? ⟨B, 2, none⟩ = some (.int .u64 vb) ∧ w.cell? ⟨B, 3, none⟩ = some (.int .u64 vp) ∧ w.cell? ⟨B, 5, none⟩ = some sb) ∧
  (w.cell? ⟨C, 0, none⟩ = some (.int .u64 br) ∧ w.cell? ⟨C, 1, none⟩ = some (.int .u64 0) ∧ w.cell? ⟨C, 2, none⟩ = some (.int .u64 br) ∧ w.cell? ⟨C, 3, none⟩ = some (.int .u64 0) ∧ w.cell? ⟨C, 4, none⟩ = some (.int .i64 (-1)) ∧ w.cell? ⟨C, 5, none⟩ = some sc)

set_option maxRecDepth 20000 in
set_option maxHeartbeats 2000000 in
theorem order_any (br : Int) (a : Option Addr) (cap : Nat) (l : List Inf) (w : World) (hbr : u64B br) (hcap : l.length ≤ cap) (h : IRow w a l) :
    Calls Try.prog 5 #[.int .u64 br, .slice a l.length cap] w fun e w' => e = .returned (.bool true) ∧ Below w.heap.size w w' := by
  obtain ⟨n, hn⟩ : ∃ n, l.length = n := ⟨_, rfl⟩
  have HA := Lib.hid h
  have HN := Lib.hid hn
  have HBR := Lib.hid hbr
  by_cases h40 : 40 < n
  · rw [hn]
    clear h hn hbr hcap
    go_enter Try.func5, Try.ntmps5
    go_wp2_with (go_at_call 6; refine (awake_any _).mono ?_; rintro e w1 ⟨rfl, hb1⟩)
    go_ret
    exact ⟨rfl, hb1⟩
  obtain ⟨R, hR⟩ : ∃ R, rightR l = R := ⟨_, rfl⟩
  have HRR := Lib.hid hR
  cases R with
  | false =>
    have CR := Lib.hid (fun w' (hb : Below w.heap.size w w') => right_any a n cap l false w' (h.next hb) hn (by omega) (by omega) HRR)
    rw [hn]
    clear h hn hbr hR hcap
    go_enter Try.func5, Try.ntmps5
    go_wp2_with (go_at_call 6; refine (awake_any _).mono ?_; rintro e w1 ⟨rfl, hb1⟩)
    refine (CR.out _ hb1).mono ?_
    rintro e w2 ⟨rfl, hb2⟩
    go_wp2
    go_ret
    exact ⟨rfl, bw_trans hb1 hb2⟩
  | true =>
    have CR := Lib.hid (fun w' (hb : Below w.heap.size w w') => right_any a n cap l true w' (h.next hb) hn (by omega) (by omega) HRR)
    have HCAP := Lib.hid hcap
    rw [hn] at hcap ⊢
    clear h hn hbr hR hcap
    go_enter Try.func5, Try.ntmps5
    go_wp2_with (go_at_call 6; refine (awake_any _).mono ?_; rintro e w1 ⟨rfl, hb1⟩)
    refine (CR.out _ hb1).mono ?_
    rintro e w2 ⟨rfl, hb2⟩
    have HB2 := Lib.hid (bw_trans hb1 hb2)
    clear hb1 hb2 CR
    go_wp2_with fail
    go_loopw [5, 6, 7] (fun t d i wr => OrdInv l n w2.heap.size w t d i wr) (fun _ _ i _ => (intOf i + 1).toNat)
    case atStart => exact ⟨0, Nat.zero_le _, by go_num, World.ownsRow_nil _ _ _ _, World.ownsRow_nil _ _ _ _, fun x h => by simp [Value.ownBlock] at h, HB2.out, Nat.le_refl _⟩
    case round =>
      obtain ⟨base, hbase⟩ : ∃ base, base = w2.heap.size := ⟨_, rfl⟩
      obtain ⟨j, hj, rfl, hI⟩ := hrel
      rw [← hbase] at hI
      by_cases hjn : j < n
      · obtain ⟨K, hK⟩ : ∃ K, n - 1 - j = K := ⟨_, rfl⟩
        have hKI : (n : Int) - 1 - (j : Nat) = (K : Int) := by omega
        rw [hKI]
        have hKn : (K : Int) < n := by omega
        obtain ⟨⟨xi, xc, xs, ⟨r, q, b, p⟩⟩, hx⟩ := at_some (l := l) (k := K) (by rw [HN.out]; omega)
        have hrx : l.reverse[j]? = some ⟨xi, xc, xs, ⟨r, q, b, p⟩⟩ := by
          rw [List.getElem?_reverse (by rw [HN.out]; exact hjn), HN.out, hK]; exact hx
        have hrd : (l.reverse.map deafR)[j]? = some (deafR ⟨xi, xc, xs, ⟨r, q, b, p⟩⟩) := by rw [List.getElem?_map, hrx]; rfl
        have HT := Lib.hid (take_next' hrx)
        have HD := Lib.hid (take_next' hrd)
        obtain ⟨g, o, rfl, hgr, x7⟩ := (HA.out.next hI.low).at_ K _ hx
        have X7 := Lib.hid x7
        obtain ⟨q0, q1, q2, q3, q4, q5, q6⟩ := x7
        simp only at q0 q1 q2 q3 q4 q5 q6
        have HI := Lib.hid hI
        have HBA := Lib.hid hbase
        have hKI2 := Lib.hid hKI
        obtain ⟨i0, hi, hz0, hz1, hz2⟩ := info_parts infoP
        have HX := Lib.hid hx
        clear hI hx hrx hrd hbase hKI hK
        go_upto_region 10 with (at_builtin; refine wpList_append_lies _ (by rfl) _ _ _ (by rfl) base 42 i0 (iv 0 0 0 0 0 0 0) 7 56 Try.underlying23 hi hz0 hz1 hz2 rfl (by decide) _ j _ (by rfl) (HI.out.t_.alloc _) ⟨wr.heap.size, 0, none⟩ 1 1 [.int .u64 xi, .int .u64 xc, .int .i64 xs, .int .u64 r, .int .u64 q, .int .u64 b, .int .u64 p] (by rfl) rfl (World.news_of_block (heap_alloc_new wr _)) (fun u hu => by simp at hu; rcases hu with rfl | rfl | rfl | rfl | rfl | rfl | rfl <;> rfl) (by decide) (by unfold maxLen; omega) (by omega) (by simp; have := HI.out.hi; omega) wr.heap.size.succ (by simp) ?_; intro g1 cap1 y1 hown1 hgrow hat hlt)
        have bA := below_box wr (.cells #[.int .u64 xi, .int .u64 xc, .int .i64 xs, .int .u64 r, .int .u64 q, .int .u64 b, .int .u64 p] 42)
        have O1 := Lib.hid (show y1.ownsRow base 42 7 (.slice (some ⟨g1, 0, none⟩) (j + 1) cap1) (j + 1) (cellsP (l.reverse.take (j + 1))) by rw [HT.out, cellsP_add]; exact hown1)
        have D1 := Lib.hid ((HI.out.d_.alloc (.cells #[.int .u64 xi, .int .u64 xc, .int .i64 xs, .int .u64 r, .int .u64 q, .int .u64 b, .int .u64 p] 42)).kept hgrow (ap_kept' HI.out.ap))
        have P1 := Lib.hid (show ∀ x, (Value.slice (some ⟨g1, 0, none⟩) (j + 1) cap1).ownBlock = some x → u6.ownBlock ≠ some x by
          intro x hx hd
          have e : g1 = x := by simpa [Value.ownBlock] using hx
          subst e
          rcases hat with ha | ha
          · exact HI.out.ap g1 ha hd
          · have := (HI.out.d_.lt g1 hd).2; omega)
        have B1 := Lib.hid ((HI.out.low.alloc HI.out.low.size (.cells #[.int .u64 xi, .int .u64 xc, .int .i64 xs, .int .u64 r, .int .u64 q, .int .u64 b, .int .u64 p] 42)).grown hgrow (by simp; have := HI.out.low.size; omega) (fun x hx => by have := (HI.out.t_.lt x hx).1; have := HB2.out.size; rw [HBA.out] at *; omega))
        have Z1 : base ≤ y1.heap.size := by have := hgrow.size; have := HI.out.hi; simp at *; omega
        have HLT := Lib.hid hlt
        clear bA hown1 hgrow hat hlt q0 q1 q2 q3 q4 q5 q6 hgr X7
        obtain ⟨g', o', e', hgr, q0, q1, q2, q3, q4, q5, q6⟩ := (HA.out.next B1.out).at_ K _ HX.out
        obtain ⟨rfl, rfl⟩ : g = g' ∧ o = o' := by cases e'; exact ⟨rfl, rfl⟩
        simp only at q0 q1 q2 q3 q4 q5 q6
        clear e'
        go_upto_region 13 with (fail)
        have hmin : (if 2 < xs then 2 else xs) = min xs 2 := by split <;> omega
        rw [hmin]
        obtain ⟨S, hS⟩ : ∃ S, min xs 2 = S := ⟨_, rfl⟩
        rw [hS]
        have hdx : deafR ⟨xi, xc, xs, ⟨r, q, b, p⟩⟩ = ⟨xi, xc, S, ⟨0, 0, 0, 0⟩⟩ := by rw [← hS]; rfl
        rw [hdx] at HD
        have D2 := Lib.hid (D1.out.alloc (.cells #[.int .u64 xi, .int .u64 xc, .int .i64 S, .int .u64 0, .int .u64 0, .int .u64 0, .int .u64 0] 42))
        have O2 := Lib.hid (O1.out.alloc (.cells #[.int .u64 xi, .int .u64 xc, .int .i64 S, .int .u64 0, .int .u64 0, .int .u64 0, .int .u64 0] 42))
        have B2 := Lib.hid (B1.out.alloc B1.out.size (.cells #[.int .u64 xi, .int .u64 xc, .int .i64 S, .int .u64 0, .int .u64 0, .int .u64 0, .int .u64 0] 42))
        have hK := iblk_new 42 y1 xi xc S 0 0 0 0
        obtain ⟨pb, hpb⟩ : ∃ pb, pb = y1.heap.size := ⟨_, rfl⟩
        obtain ⟨Y, hY⟩ : ∃ Y, Y = y1.alloc (.cells #[.int .u64 xi, .int .u64 xc, .int .i64 S, .int .u64 0, .int .u64 0, .int .u64 0, .int .u64 0] 42) := ⟨_, rfl⟩
        have ZY : y1.heap.size + 1 = Y.heap.size := by rw [hY, size_box]
        rw [← hY, ← hpb] at hK
        rw [← hY] at D2 O2 B2
        rw [← hY, ← hpb]
        have Z2 : base ≤ Y.heap.size := by omega
        have L2 : g1 < Y.heap.size := by have := HLT.out; omega
        clear hmin hS hdx hY hpb ZY q0 q1 q2 q3 q4 q5 q6 hgr
        obtain ⟨m0, m1, m2, m3, m4, m5, m6⟩ := hK.cells
        have hlk := hK.lt
        go_wp2_with (at_builtin; refine wpList_append_lies _ (by rfl) _ _ _ (by rfl) base 42 i0 (iv 0 0 0 0 0 0 0) 7 56 Try.underlying23 hi hz0 hz1 hz2 rfl (by decide) _ j _ (by rfl) (D2.out.alloc _) ⟨Y.heap.size, 0, none⟩ 1 1 [.int .u64 xi, .int .u64 xc, .int .i64 S, .int .u64 0, .int .u64 0, .int .u64 0, .int .u64 0] (by rfl) rfl (World.news_of_block (heap_alloc_new Y _)) (fun u hu => by simp at hu; rcases hu with rfl | rfl | rfl | rfl | rfl | rfl | rfl <;> rfl) (by decide) (by unfold maxLen; omega) (by omega) (by simp; omega) Y.heap.size.succ (by simp) ?_; intro g2 cap2 y2 hown2 hgrow2 hat2 hlt2)
        refine ⟨⟨j + 1, by omega, ?_, ?_⟩, by simp [intOf] <;> omega⟩
        · have := hKI2.out
          congr 1
          omega
        · rw [← HBA.out]
          refine ⟨?_, ?_, ?_, ?_, ?_⟩
          · exact (O2.out.alloc _).kept hgrow2 (ap_kept P1.out)
          · rw [HD.out, cellsP_add]; exact hown2
          · intro x hx hd
            have e1 : g1 = x := by simpa [Value.ownBlock] using hx
            have e2 : g2 = x := by simpa [Value.ownBlock] using hd
            subst e1
            rcases hat2 with ha | ha
            · exact P1.out g1 rfl (by rw [ha, e2])
            · omega
          · refine (B2.out.alloc B2.out.size _).grown hgrow2 (by simp; have := B2.out.size; omega) (fun x hx => by have := (D2.out.lt x hx).1; have := HB2.out.size; rw [HBA.out] at *; omega)
          · have := hgrow2.size; simp at *; omega
      · obtain rfl : j = n := by omega
        have hm1 : (j : Int) - 1 - (j : Nat) = -1 := by omega
        rw [hm1]
        have hTn : l.reverse.length = j := by rw [List.length_reverse]; exact HN.out
        have hDn : (l.reverse.map deafR).length = j := by rw [List.length_map]; exact hTn
        have hTl : (l.reverse.take j) = l.reverse := take_all hTn
        have hDl : ((l.reverse.map deafR).take j) = l.reverse.map deafR := take_all hDn
        have ht := hI.t_
        have hd := hI.d_
        rw [hTl] at ht
        rw [hDl] at hd
        obtain ⟨ta, tcap, hta, htc, hti⟩ := irow_owned (l := l.reverse) (by rw [hTn]; exact ht) (fun x hx => HA.out.rng x (List.mem_reverse.1 hx))
        obtain ⟨da, dcap, hda, hdc, hdi⟩ := irow_owned (l := l.reverse.map deafR) (by rw [hDn]; exact hd) (fun x hx => by obtain ⟨y, hy, rfl⟩ := List.mem_map.1 hx; exact deaf_ok (HA.out.rng y (List.mem_reverse.1 hy)))
        have HTI := Lib.hid hti
        have HDI := Lib.hid hdi
        have HLO := Lib.hid hI.low
        rw [hTn] at hta htc
        rw [hDn] at hda hdc
        subst hta hda
        have hrt : rightR l.reverse = true := turned_right HRR.out
        have hrd : rightR (l.reverse.map deafR) = true := deaf_right hrt
        have HRT := Lib.hid hrt
        have HRD := Lib.hid hrd
        have HTN := Lib.hid hTn
        have HDN := Lib.hid hDn
        obtain ⟨⟨vr, vc, vb, vp⟩, hv⟩ : ∃ v, rootV br l = v := ⟨_, rfl⟩
        obtain ⟨P, hP⟩ : ∃ P, portI (rootP br l) = P := ⟨_, rfl⟩
        obtain ⟨P2, hP2⟩ : ∃ P, portI (rootP br l.reverse) = P := ⟨_, rfl⟩
        have HV := Lib.hid hv
        have HP := Lib.hid hP
        have HP2 := Lib.hid hP2
        have HV2 := Lib.hid ((root_turned br l).trans hv)
        have HV3 : Hid (rootV br (l.reverse.map deafR) = ⟨br, 0, br, 0⟩) := Lib.hid (deaf_root br l.reverse)
        have HP3 : Hid (portI (rootP br (l.reverse.map deafR)) = -1) := Lib.hid (by rw [deaf_port]; rfl)
        clear ht hd hti hdi hI hTl hDl hbase hrt hrd hTn hDn hv hP hP2
        have hpw := select_n br a j cap l vr vc vb vp P wr HBR.out (HA.out.next HLO.out) HN.out (by have := HCAP.out; rw [HN.out] at this; exact this) HRR HV HP
        go_wp2_with fail
        refine hpw.mono ?_
        clear hpw
        rintro e w3 ⟨ra, oa, rca, oca, rfl, hna, hb3⟩
        have b3 := bw_alloc hb3 (.cells #[.int .u64 vr, .int .u64 vc, .int .u64 vb, .int .u64 vp, .int .i64 P, .slice ra j rca, .slice oa j oca] 32)
        have RA := rblk_new w3 vr vc vb vp P (.slice ra j rca) (.slice oa j oca)
        replace hna := hna.next (below_box w3 (.cells #[.int .u64 vr, .int .u64 vc, .int .u64 vb, .int .u64 vp, .int .i64 P, .slice ra j rca, .slice oa j oca] 32))
        obtain ⟨A, hAb⟩ : ∃ A, A = w3.heap.size := ⟨_, rfl⟩
        obtain ⟨W3, hW3⟩ : ∃ W3, W3 = w3.alloc (.cells #[.int .u64 vr, .int .u64 vc, .int .u64 vb, .int .u64 vp, .int .i64 P, .slice ra j rca, .slice oa j oca] 32) := ⟨_, rfl⟩
        go_wp2_with fail
        rw [← hW3] at b3 RA hna
        rw [← hAb] at RA
        rw [← hW3, ← hAb]
        clear hW3 hAb hb3
        have hpw := select_n br ta j tcap l.reverse vr vc vb vp P2 W3 HBR.out (HTI.out.next b3) HTN.out htc HRT HV2 HP2
        refine hpw.mono ?_
        clear hpw
        rintro e w4 ⟨rb, ob, rcb, ocb, rfl, hnb, hb4⟩
        have b4 := bw_alloc hb4 (.cells #[.int .u64 vr, .int .u64 vc, .int .u64 vb, .int .u64 vp, .int .i64 P2, .slice rb j rcb, .slice ob j ocb] 32)
        have RB := rblk_new w4 vr vc vb vp P2 (.slice rb j rcb) (.slice ob j ocb)
        replace hnb := hnb.next (below_box w4 (.cells #[.int .u64 vr, .int .u64 vc, .int .u64 vb, .int .u64 vp, .int .i64 P2, .slice rb j rcb, .slice ob j ocb] 32))
        replace hna := hna.next b4
        replace RA := RA.next b4
        have b5 := bw_trans b3 b4
        obtain ⟨B, hBb⟩ : ∃ B, B = w4.heap.size := ⟨_, rfl⟩
        obtain ⟨W4, hW4⟩ : ∃ W4, W4 = w4.alloc (.cells #[.int .u64 vr, .int .u64 vc, .int .u64 vb, .int .u64 vp, .int .i64 P2, .slice rb j rcb, .slice ob j ocb] 32) := ⟨_, rfl⟩
        go_wp2_with fail
        rw [← hW4] at b5 RA RB hna hnb
        rw [← hBb] at RB
        rw [← hW4, ← hBb]
        clear hW4 hBb hb4 b3 b4
        have hpw := select_n br da j dcap (l.reverse.map deafR) br 0 br 0 (-1) W4 HBR.out (HDI.out.next b5) HDN.out hdc HRD HV3 HP3
        refine hpw.mono ?_
        clear hpw
        rintro e w5 ⟨rc, oc, rcc, occ, rfl, hnc, hb6⟩
        have b6 := bw_alloc hb6 (.cells #[.int .u64 br, .int .u64 0, .int .u64 br, .int .u64 0, .int .i64 (-1), .slice rc j rcc, .slice oc j occ] 32)
        have RC := rblk_new w5 br 0 br 0 (-1) (.slice rc j rcc) (.slice oc j occ)
        replace hnc := hnc.next (below_box w5 (.cells #[.int .u64 br, .int .u64 0, .int .u64 br, .int .u64 0, .int .i64 (-1), .slice rc j rcc, .slice oc j occ] 32))
        replace hna := hna.next b6
        replace hnb := hnb.next b6
        replace RA := RA.next b6
        replace RB := RB.next b6
        have b7 := bw_trans b5 b6
        obtain ⟨C, hCb⟩ : ∃ C, C = w5.heap.size := ⟨_, rfl⟩
        obtain ⟨W5, hW5⟩ : ∃ W5, W5 = w5.alloc (.cells #[.int .u64 br, .int .u64 0, .int .u64 br, .int .u64 0, .int .i64 (-1), .slice rc j rcc, .slice oc j occ] 32) := ⟨_, rfl⟩
        go_upto_region 17 with (fail)
        rw [← hW5] at b7 RA RB RC hna hnb hnc
        rw [← hCb] at RC
        rw [← hW5, ← hCb]
        clear hW5 hCb hb6 b5 b6
        have HNA := Lib.hid hna
        have HNB := Lib.hid hnb
        have HNC := Lib.hid hnc
        have HRA := Lib.hid RA
        have HRB := Lib.hid RB
        have HRC := Lib.hid RC
        have HB7 := Lib.hid (HLO.out.trans (b7.mono HLO.out.size))
        have la := RA.lt
        have lb := RB.lt
        have lc := RC.lt
        clear hna hnb hnc RA RB RC b7
        have KT := Lib.hid (fun (w' : World) (hb : Below W5.heap.size W5 w') => show OCells w' A B C vr vc vb vp br (.slice ra j rca) (.slice rb j rcb) (.slice rc j rcc) from by
          obtain ⟨a0, a1, a2, a3, a4, a5, a6⟩ := (HRA.out.next hb).cells
          obtain ⟨b0, b1, b2, b3, b4, b5, b6⟩ := (HRB.out.next hb).cells
          obtain ⟨c0, c1, c2, c3, c4, c5, c6⟩ := (HRC.out.next hb).cells
          exact ⟨⟨a0, a1, a2, a3, a5⟩, ⟨b0, b1, b2, b3, b5⟩, c0, c1, c2, c3, c4, c5⟩)
        have S0 := KT.out W5 (Below.refl _ _)
        obtain ⟨⟨s0, s1, s2, s3, s4⟩, ⟨t0, t1, t2, t3, t4⟩, u0, u1, u2, u3, u4, u5⟩ := id S0
        have hq1 := run_neSelf vr vc vb vp
        have hq2 := run_neSelf br 0 br 0
        have M0 := Lib.hid (mine_w br W5.drew)
        go_region_held3 (fun w' => OCells w' A B C vr vc vb vp br (.slice ra j rca) (.slice rb j rcb) (.slice rc j rcc)) (first | exact S0 | exact T0) (first
          | (go_at_call 14; (with_reducible refine M0.out.mono ?_); rintro e y0 ⟨rfl, hb0⟩; have b0 := ((Below.refl W5.heap.size W5).drew).trans hb0; have T0 := KT.out y0 b0))
        have HNA2 := Lib.hid (HNA.out.next b0)
        have HNB2 := Lib.hid (HNB.out.next b0)
        have HNC2 := Lib.hid (HNC.out.next b0)
        have HRA2 := Lib.hid (HRA.out.next b0)
        have HRB2 := Lib.hid (HRB.out.next b0)
        have HRC2 := Lib.hid (HRC.out.next b0)
        have HB8 := Lib.hid (HB7.out.trans (b0.mono HB7.out.size))
        clear KT S0 s0 s1 s2 s3 s4 t0 t1 t2 t3 t4 u0 u1 u2 u3 u4 u5 hq1 hq2 M0 hb0 b0 T0 la lb lc HNA HNB HNC HRA HRB HRC HB7 HTI HDI
        go_wp2_with fail
        go_loopw [15, 16] (fun i _ wr => ∃ m : Nat, m ≤ j ∧ i = .int .i64 (m : Nat) ∧ Below y0.heap.size y0 wr) (fun i _ _ => j - (intOf i).toNat)
        case atStart => exact ⟨0, Nat.zero_le _, rfl, Below.refl _ _⟩
        case round =>
          obtain ⟨m, hm, rfl, hG⟩ := hrel
          by_cases hmj : m < j
          · obtain ⟨⟨xi, xc, xs, ⟨r, q, b, p⟩⟩, hx⟩ := at_some (l := l) (k := m) (by rw [HN.out]; exact hmj)
            have hml : m < l.length := by rw [HN.out]; exact hmj
            obtain ⟨K, hK⟩ : ∃ K, j - 1 - m = K := ⟨_, rfl⟩
            have hKl : l.length - 1 - m = K := by rw [HN.out]; exact hK
            have hKI : (j : Int) - 1 - (m : Nat) = (K : Int) := by omega
            have hKj : K < j := by omega
            have hKji : (K : Int) < j := by omega
            have hmji : (m : Int) < j := by omega
            have hInf := right_each HRR.out (List.mem_of_getElem? hx)
            obtain ⟨ρ, hρ⟩ : ∃ ρ, roleAt br l m ⟨xi, xc, xs, ⟨r, q, b, p⟩⟩ = ρ := ⟨_, rfl⟩
            have hxb : l.reverse[K]? = some ⟨xi, xc, xs, ⟨r, q, b, p⟩⟩ := by rw [← hKl, at_turned hml]; exact hx
            have hρb : roleAt br l.reverse K ⟨xi, xc, xs, ⟨r, q, b, p⟩⟩ = ρ := by rw [← hKl, role_turned (right_apart HRR.out) hml]; exact hρ
            have hxc : (l.reverse.map deafR)[K]? = some (deafR ⟨xi, xc, xs, ⟨r, q, b, p⟩⟩) := by rw [List.getElem?_map, hxb]; rfl
            have hρc : roleAt br (l.reverse.map deafR) K (deafR ⟨xi, xc, xs, ⟨r, q, b, p⟩⟩) = if xs = 0 then 0 else 2 := by
              unfold roleAt
              rw [deaf_port, decide_eq_false nofun]
              exact deaf_role _ hInf
            obtain ⟨ga, oa', rfl, lga, c1⟩ := (HNA2.out.next hG).at_ m ρ (by rw [rolesN_at hx j (by rw [HN.out]; exact Nat.le_refl _) hmj, hρ])
            obtain ⟨gb, ob', rfl, lgb, c2⟩ := (HNB2.out.next hG).at_ K ρ (by rw [rolesN_at hxb j (by rw [HTN.out]; exact Nat.le_refl _) hKj, hρb])
            obtain ⟨gc, oc', rfl, lgc, c3⟩ := (HNC2.out.next hG).at_ K _ (by rw [rolesN_at hxc j (by rw [HDN.out]; exact Nat.le_refl _) hKj, hρc])
            obtain ⟨g, o, rfl, lx, x7⟩ := ((HA.out.next HB8.out).next hG).at_ m _ hx
            have x2 := x7.2.2.1
            simp only at x2
            have a5 := (HRA2.out.next hG).cells.2.2.2.2.2.1
            have b5 := (HRB2.out.next hG).cells.2.2.2.2.2.1
            have c5 := (HRC2.out.next hG).cells.2.2.2.2.2.1
            have la := (HRA2.out.next hG).lt
            have lb := (HRB2.out.next hG).lt
            have lc := (HRC2.out.next hG).lt
            clear hx hxb hxc hρ hρb hρc hInf x7 hKl hml hK
            by_cases z : xs = 0
            · rw [if_pos z] at c3
              subst z
              go_wp2_with fail
              go_quiet (fail)
              go_wp2_with fail
              exact ⟨⟨m + 1, by omega, by go_num, below_drewN hG _⟩, by simp [intOf]; omega⟩
            · rw [if_neg z] at c3
              have z1 : (xs == 0) = false := beq_eq_false_iff_ne.2 z
              have z2 : (xs != 0) = true := bne_iff_ne.2 z
              go_wp2_with fail
              go_quiet (fail)
              go_wp2_with fail
              exact ⟨⟨m + 1, by omega, by go_num, below_drewN hG _⟩, by simp [intOf]; omega⟩
          · obtain rfl : m = j := by omega
            go_wp2
            go_ret
            exact ⟨rfl, HB8.out.trans (hG.mono HB8.out.size)⟩
end Go.Proofs.Ytkakjkdjjapiaaa
