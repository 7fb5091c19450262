/-
  Layer 14: SendRight.
-/
import Derived.Test.YtngdilmgbgdkcaaDoorSeE
import Derived.Test.YtngdilmgbgdkcaaDoorInY
namespace Go.Proofs.YtngdilmgbgdkcaaDoor
set_option linter.unusedVariables false
set_option linter.unusedSimpArgs false
open Go.RowKit Vm Rm Bm Im

set_option maxRecDepth 20000 in
set_option maxHeartbeats 2000000 in
theorem small_w (p : Pt) (R : Bool) (w : World) (hR : Hid (smallB p = R)) :
    Calls Tryd.prog 6 #[.agg (cellsT p)] w fun e w' => e = .returned (.bool R) ∧ Below w.heap.size w w' := by
  have K0 := Lib.hid (ptblk_new 30 w p)
  have B0 := Lib.hid (below_box w (.cells (cellsT p) 30))
  have a0 := K0.out.c_given_age
  have a1 := K0.out.c_given_max
  have a2 := K0.out.c_given_hello
  have a3 := K0.out.c_given_delay
  rw [← hR.out]
  clear hR
  unfold smallB smI
  obtain ⟨y0, h0⟩ : ∃ x, p.given.age = x := ⟨_, rfl⟩
  obtain ⟨y1, h1⟩ : ∃ x, p.given.max = x := ⟨_, rfl⟩
  obtain ⟨y2, h2⟩ : ∃ x, p.given.hello = x := ⟨_, rfl⟩
  obtain ⟨y3, h3⟩ : ∃ x, p.given.delay = x := ⟨_, rfl⟩
  rw [h0] at a0
  rw [h1] at a1
  rw [h2] at a2
  rw [h3] at a3
  simp only [h0, h1, h2, h3]
  clear h0 h1 h2 h3 K0
  go_enter Tryd.func6, Tryd.ntmps6
  go_wp2
  all_goals go_ret
  all_goals refine ⟨ret_val ?_, bw_alloc B0.out _⟩
  all_goals (refine congrArg Value.bool ?_; rw [Bool.eq_iff_iff]; simp; try omega)

theorem tkok_of {p : Pt} (h : TkP p) : TkOk p := ⟨h.1, h.2.1, h.2.2.1, h.2.2.2.1, h.2.2.2.2.1, h.2.2.2.2.2.1, h.2.2.2.2.2.2.1, h.2.2.2.2.2.2.2.1, h.2.2.2.2.2.2.2.2⟩
theorem tkp_of {p : Pt} (h : TkOk p) : TkP p := ⟨h.fd, h.rr, h.rb, h.tc, h.edge, h.md, h.info, h.hello, h.txCount⟩
/-- Behind so many rounds. -/
def SrInv (t : Tm) (p : Pt) (N pb qb bb : Nat) (br : Int) (w : World) (u8 u10 : Value) (wr : World) : Prop :=
  ∃ (i s : Nat) (q : Pt), i ≤ N ∧ s ≤ i ∧ u10 = .int .i64 ((i : Nat) : Int) ∧ u8 = .int .i64 ((s : Nat) : Int) ∧ Ag t p q s ∧ PtBlk 30 wr pb p ∧ PtBlk 30 wr qb q ∧ BrBlk wr bb br t.age t.max t.hello t.delay ∧ TRoles wr ∧ Below w.heap.size w wr
def S6Inv (q : Pt) (qb bb : Nat) (br : Int) (t : Tm) (w : World) (u14 : Value) (wr : World) : Prop :=
  ∃ i : Nat, i ≤ 6 ∧ u14 = .int .i64 ((i : Nat) : Int) ∧ PtBlk 30 wr qb (Nat.rec q (fun _ x => tickP x) i) ∧ BrBlk wr bb br t.age t.max t.hello t.delay ∧ TRoles wr ∧ Below w.heap.size w wr
theorem small_sd {p q : Pt} (h : Sd p q) : smallB q = smallB p := by unfold smallB; rw [h.given]

set_option maxRecDepth 20000 in
set_option maxHeartbeats 8000000 in
theorem sendRight_any (br : Int) (t : Tm) (p : Pt) (often : Int) (w : World) (hT : TRoles w) (hk0 : TkP p) (ho0 : 0 ≤ often) (ho1 : often < 256) :
    Calls Tryd.prog 3 #[brv br t.age t.max t.hello t.delay, .agg (cellsT p), .int .u8 often] w fun e w' => e = .returned (.bool true) ∧ Below w.heap.size w w' := by
  obtain ⟨W0, bb, HW0, HB0, kb, kB0, kL0⟩ : ∃ (V : World) (b : Nat), Hid (w.alloc (.cells #[.int .u64 br, .int .i64 t.age, .int .i64 t.max, .int .i64 t.hello, .int .i64 t.delay] 26) = V) ∧ Hid (w.heap.size = b) ∧ BrBlk V b br t.age t.max t.hello t.delay ∧ Below w.heap.size w V ∧ V.heap.size = b + 1 := ⟨_, _, Lib.hid rfl, Lib.hid rfl, heap_alloc_new w _, below_box w _, size_box w _⟩
  obtain ⟨W1, pb, HW1, HB1, kp, kB1, kL1⟩ : ∃ (V : World) (b : Nat), Hid (W0.alloc (.cells (cellsT p) 30) = V) ∧ Hid (W0.heap.size = b) ∧ PtBlk 30 V b p ∧ Below W0.heap.size W0 V ∧ V.heap.size = b + 1 := ⟨_, _, Lib.hid rfl, Lib.hid rfl, ptblk_new 30 W0 p, below_box W0 _, size_box W0 _⟩
  have BB1 := Lib.hid (bw_trans kB0 kB1)
  have KB1 := Lib.hid (kb.next kB1)
  have KP1 := Lib.hid kp
  have TT1 := Lib.hid (hT.next BB1.out)
  have HTk := Lib.hid hk0
  have HPB := Lib.hid (show bb < pb by rw [← HB1.out, kL0]; omega)
  have CW := Lib.hid (awake14_any W1 TT1.out)
  obtain ⟨S, hS⟩ : ∃ S, smallB p = S := ⟨_, rfl⟩
  have CSm := Lib.hid (fun w' => small_w p S w' (Lib.hid hS))
  have HS := Lib.hid hS
  clear kb kp kB0 kB1 kL0 kL1 hT hS hk0
  unfold brv
  go_enter Tryd.func3, Tryd.ntmps3
  go_upto_region 1 with (fail)
  rw [HW0.out, HW1.out, HB0.out]
  obtain ⟨pb', hpb'⟩ : ∃ x, bb + 1 = x := ⟨_, rfl⟩
  obtain rfl : pb' = pb := by rw [← hpb', ← HB1.out, ← HB0.out, ← HW0.out, size_box]
  rw [hpb']
  clear hpb' HW0 HW1 HB0 HB1
  go_upto_region 3 with (go_at_call 5; (with_reducible refine CW.out.mono ?_); rintro e w2 ⟨rfl, hb2⟩)
  have KB2 := Lib.hid (KB1.out.next hb2)
  have KP2 := Lib.hid (KP1.out.next hb2)
  have TT2 := Lib.hid (TT1.out.next hb2)
  have BB2 := Lib.hid (bw_trans BB1.out hb2)
  clear hb2 KB1 KP1 TT1 BB1 CW
  have a0 := KP2.out.c_given_age
  have a1 := KP2.out.c_given_max
  have a2 := KP2.out.c_given_hello
  have a3 := KP2.out.c_given_delay
  obtain ⟨W3, tb, HW3, HB3, kt, kB3⟩ : ∃ (V : World) (b : Nat), Hid (w2.alloc (.cells #[.int .i64 p.given.age, .int .i64 p.given.max, .int .i64 p.given.hello, .int .i64 p.given.delay] 24) = V) ∧ Hid (w2.heap.size = b) ∧ V.heap[b]? = some (.cells #[.int .i64 p.given.age, .int .i64 p.given.max, .int .i64 p.given.hello, .int .i64 p.given.delay] 24 (0, 0)) ∧ Below w2.heap.size w2 V := ⟨_, _, Lib.hid rfl, Lib.hid rfl, heap_alloc_new w2 _, below_box w2 _⟩
  have t0 : W3.cell? ⟨tb, 0, none⟩ = some (.int .i64 p.given.age) := (cell_of_row W3 tb 0 _ _ _ kt).trans rfl
  have t1 : W3.cell? ⟨tb, 1, none⟩ = some (.int .i64 p.given.max) := (cell_of_row W3 tb 1 _ _ _ kt).trans rfl
  have t2 : W3.cell? ⟨tb, 2, none⟩ = some (.int .i64 p.given.hello) := (cell_of_row W3 tb 2 _ _ _ kt).trans rfl
  have t3 : W3.cell? ⟨tb, 3, none⟩ = some (.int .i64 p.given.delay) := (cell_of_row W3 tb 3 _ _ _ kt).trans rfl
  have HTL := Lib.hid (Array.getElem?_eq_some_iff.1 kt).1
  have HT0 := Lib.hid t0
  have HT1 := Lib.hid t1
  have HT2 := Lib.hid t2
  have HT3 := Lib.hid t3
  have KB3 := Lib.hid (KB2.out.next kB3)
  have KP3 := Lib.hid (KP2.out.next kB3)
  have TT3 := Lib.hid (TT2.out.next kB3)
  have BB3 := Lib.hid (bw_trans BB2.out kB3)
  clear kt kB3 KB2 KP2 TT2 BB2 t0 t1 t2 t3
  go_upto_region 4 with (fail)
  refine wp_to (W := W3) (by exact HW3.out.symm) ?_
  rw [HB3.out]
  clear HW3 HB3 a0 a1 a2 a3
  obtain ⟨D, hD⟩ : ∃ D : Bool, D = true ↔ (S = false ∨ p.txCount < 0 ∨ 4294967295 < p.offer.cost ∨ 65535 < p.offer.port ∨ p.given.age < 0 ∨ p.given.max < 0 ∨ p.given.hello < 0 ∨ p.given.delay < 0) := ⟨decide _, decide_eq_true_iff⟩
  have HD := Lib.hid hD
  clear hD
  go_cut [61] (fun u wx => u = .bool D ∧ Below W3.heap.size W3 wx)
  case first =>
    cases hS : S
    all_goals rw [hS] at CSm HD
    all_goals
      go_wp2_with (first
        | (with_reducible refine wpList_pt rfl _ rfl pb' rfl p KP3.out ?_)
        | (go_at_call 6; (with_reducible refine (CSm.out _).mono ?_); rintro e w4 ⟨rfl, hb4⟩; have t0 := (hb4.cell (p := ⟨tb, 0, none⟩) HTL.out).trans HT0.out; have t1 := (hb4.cell (p := ⟨tb, 1, none⟩) HTL.out).trans HT1.out; have t2 := (hb4.cell (p := ⟨tb, 2, none⟩) HTL.out).trans HT2.out; have t3 := (hb4.cell (p := ⟨tb, 3, none⟩) HTL.out).trans HT3.out; have c1 := (KP3.out.next hb4).c_txCount; have c2 := (KP3.out.next hb4).c_offer_cost; have c3 := (KP3.out.next hb4).c_offer_port; have HB4 := Lib.hid hb4; clear hb4))
      all_goals go_meet
      all_goals refine ⟨congrArg Value.bool ?_, HB4.out⟩
      all_goals first
        | (symm; refine HD.out.2 ?_; first | exact .inl rfl | exact .inl trivial | (simp; done) | (simp; omega))
        | (symm; exact Bool.eq_iff_iff.2 (HD.out.trans (by simp [or_assoc])))
        | (symm; refine Bool.eq_false_iff.2 (fun e => ?_); have h := HD.out.1 e; first | omega | (simp at h; omega))
  case rest =>
  obtain ⟨rfl, hb4⟩ := hcut
  have KB4 := Lib.hid (KB3.out.next hb4)
  have KP4 := Lib.hid (KP3.out.next hb4)
  have TT4 := Lib.hid (TT3.out.next hb4)
  have BB4 := Lib.hid (bw_trans BB3.out hb4)
  clear hb4 KB3 KP3 TT3 BB3 HTL HT0 HT1 HT2 HT3 CSm
  cases D with
  | true =>
    go_wp2_with fail
    go_ret
    exact ⟨rfl, BB4.out⟩
  | false =>
    have hn : ¬ (S = false ∨ p.txCount < 0 ∨ 4294967295 < p.offer.cost ∨ 65535 < p.offer.port ∨ p.given.age < 0 ∨ p.given.max < 0 ∨ p.given.hello < 0 ∨ p.given.delay < 0) := fun e => absurd (HD.out.2 e) (by decide)
    have hSt : S = true := by cases hh : S; exact absurd (.inl hh) hn; rfl
    have HN := Lib.hid hn
    have HG0 := Lib.hid (show 0 ≤ p.given.age ∧ 0 ≤ p.given.max ∧ 0 ≤ p.given.hello ∧ 0 ≤ p.given.delay by omega)
    have HSM := Lib.hid (HS.out.trans hSt)
    clear hn hSt HS HD
    go_upto_region 8 with (first
      | (with_reducible refine wpList_pt rfl _ rfl pb' rfl p KP4.out ?_)
      | (refine wpList_ptst rfl _ _ rfl wc.heap.size rfl p zeroP rfl (ptblk_new _ wc zeroP) ?_))
    obtain ⟨W5, qb, HW5, HQ5, kq, kq1, kq2⟩ := fillS_is wc p
    refine wp_to (W := W5) (by exact HW5.out.symm) ?_
    rw [HQ5.out]
    have hb5 : Below wc.heap.size wc W5 := by rw [HQ5.out]; exact kq1
    have KB5 := Lib.hid (KB4.out.next hb5)
    have KP5 := Lib.hid (KP4.out.next hb5)
    have TT5 := Lib.hid (TT4.out.next hb5)
    have BB5 := Lib.hid (bw_trans BB4.out hb5)
    have KQ5 := Lib.hid kq
    have hpq : pb' < qb := by rw [← HQ5.out]; exact KP4.out.lt
    have hwq : w.heap.size ≤ qb := by rw [← HQ5.out]; exact BB4.out.size
    have hbq : bb < qb := Nat.lt_trans HPB.out hpq
    have HPQ := Lib.hid hpq
    have HWQ := Lib.hid hwq
    have HBQ := Lib.hid hbq
    clear hb5 kq kq1 kq2 KB4 KP4 TT4 BB4 HW5 HQ5 hpq hwq hbq
    obtain ⟨N, hN⟩ : ∃ N : Nat, often % 20 = (N : Int) := ⟨(often % 20).toNat, by omega⟩
    have hN20 : N < 20 := by omega
    have HN20 := Lib.hid hN20
    have hw1 : ∀ x, IntKind.i64.wrap (often % 20) = x ↔ (N : Int) = x := fun x => by rw [hN, IntKind.wrap_i64]; constructor <;> intro h <;> omega
    have hsend := Lib.hid (fun (q : Pt) (s : Nat) (h : Ag t p q s) (w' : World) (hT : TRoles w') => send14_w br t (newP1 q) (sendP t (newP1 q)).1 (sendP t (newP1 q)).2.1 (sendP t (newP1 q)).2.2 w' hT ((small_sd (h.keeps.trans (newP1_keeps q))).trans HSM.out) (by rw [(h.keeps.trans (newP1_keeps q)).given]; exact HG0.out) (newP1_tk (h.tk HTk.out)).2.2.2.2.2.2.2.2.1 rfl)
    have hsend2 := Lib.hid (fun (q : Pt) (s : Nat) (h : Ag t p q s) (w' : World) (hT : TRoles w') => send14_w br t (newP1 (tick6 q)) (sendP t (newP1 (tick6 q))).1 (sendP t (newP1 (tick6 q))).2.1 (sendP t (newP1 (tick6 q))).2.2 w' hT ((small_sd (h.keeps.trans ((tick6_keeps q).trans (newP1_keeps _)))).trans HSM.out) (by rw [(h.keeps.trans ((tick6_keeps q).trans (newP1_keeps _))).given]; exact HG0.out) (newP1_tk (tick6_tk (h.tk HTk.out))).2.2.2.2.2.2.2.2.1 rfl)
    clear hN20
    go_wp2_with fail
    go_loopw [8, 10] (fun u8 u10 wr => SrInv t p N pb' qb bb br w u8 u10 wr) (fun _ u10 _ => N - (intOf u10).toNat)
    case atStart => exact ⟨0, 0, p, Nat.zero_le _, Nat.zero_le _, rfl, rfl, ag_zero t p, KP5.out, KQ5.out, KB5.out, TT5.out, BB5.out⟩
    case round =>
      obtain ⟨i, s, q, hi, hsi, rfl, rfl, hA, hP, hQ, hB, hTT, hG⟩ := hrel
      have HA := Lib.hid hA
      have HP := Lib.hid hP
      have HQ := Lib.hid hQ
      have HB := Lib.hid hB
      have HTT := Lib.hid hTT
      have HG := Lib.hid hG
      clear hA hP hQ hB hTT hG
      by_cases hiN : i < N
      · have f0 := HQ.out.free 39
        have c0 := HQ.out.c_newInfo
        have hlt : (i : Int) < (N : Int) := by omega
        have hlt2 : decide ((i : Int) < IntKind.i64.wrap (often % 20)) = true := by rw [hN, IntKind.wrap_i64]; simp; omega
        obtain ⟨U1, hU1⟩ : ∃ U, wr.setCell ⟨qb, 39, none⟩ (.bool true) = U := ⟨_, rfl⟩
        have hne1 : pb' ≠ qb := Nat.ne_of_lt HPQ.out
        have hne2 : bb ≠ qb := Nat.ne_of_lt HBQ.out
        have h0q : 0 ≠ qb := by have := HBQ.out; omega
        have Q1 := Lib.hid (show PtBlk 30 U1 qb (newP1 q) by rw [← hU1]; exact HQ.out.s_newInfo true)
        have P1 := Lib.hid (show PtBlk 30 U1 pb' p by rw [← hU1]; exact HP.out.far 39 _ hne1)
        have B1 := Lib.hid (show BrBlk U1 bb br t.age t.max t.hello t.delay by rw [← hU1]; exact (Below.heap_setCell wr ⟨qb, 39, none⟩ _ bb hne2).trans HB.out)
        have T1 := Lib.hid (show TRoles U1 by rw [← hU1]; exact HTT.out.below ((Below.refl 1 wr).setCell (p := ⟨qb, 39, none⟩) (by show 1 ≤ qb; omega) _) Nat.one_pos)
        have G1 := Lib.hid (show Below w.heap.size w U1 by rw [← hU1]; exact HG.out.setCell (p := ⟨qb, 39, none⟩) HWQ.out _)
        have HU1 := Lib.hid hU1
        obtain ⟨X, hX⟩ : ∃ X, (sendP t (newP1 q)).1 = X := ⟨_, rfl⟩
        obtain ⟨M, hM⟩ : ∃ M, (sendP t (newP1 q)).2.1 = M := ⟨_, rfl⟩
        obtain ⟨ok, hok⟩ : ∃ ok, (sendP t (newP1 q)).2.2 = ok := ⟨_, rfl⟩
        have CS := Lib.hid (hsend.out q s HA.out U1 T1.out)
        rw [hX, hM, hok] at CS
        have AN := HA.out.next
        rw [hX, hok] at AN
        have HAN := Lib.hid AN
        have HX := Lib.hid hX
        have HM := Lib.hid hM
        have HOK := Lib.hid hok
        clear hU1 hne1 hne2 h0q hX hM hok AN hsend hsend2 HQ HP HB HTT HG
        unfold brv at CS
        go_upto_region 12 with (fail)
        refine wp_to (W := U1) (by exact HU1.out.symm) ?_
        obtain ⟨k0, k1, k2, k3, k4⟩ := B1.out.cells
        clear HU1 f0 c0
        go_upto_region 13 with (first
          | (with_reducible refine wpList_pt rfl _ rfl qb rfl (newP1 q) Q1.out ?_)
          | (go_at_call 7; (with_reducible refine CS.out.mono ?_); rintro e w6 ⟨rfl, hb6⟩)
          | (refine wpList_ptst rfl _ _ rfl w6.heap.size rfl X zeroP rfl ((ptblk_new _ w6 zeroP).next (below_box _ _)) ?_)
          | (refine wpList_bpst rfl _ _ rfl (w6.heap.size + 1) rfl M zeroM rfl (bzero6 w6 X) ?_))
        obtain ⟨W7, xb, HW7, HX7, kx, km, kB7⟩ := made2_is w6 X M
        refine wp_to (W := W7) (by exact HW7.out.symm) ?_
        rw [HX7.out]
        have hb7 : Below w6.heap.size w6 W7 := by rw [HX7.out]; exact kB7
        have hU7 := bw_trans hb6 hb7
        have hx6 : U1.heap.size ≤ xb := by rw [← HX7.out]; exact hb6.size
        have Q7 := Lib.hid (Q1.out.next hU7)
        have P7 := Lib.hid (P1.out.next hU7)
        have B7 := Lib.hid (B1.out.next hU7)
        have T7 := Lib.hid (T1.out.next hU7)
        have G7 := Lib.hid (bw_trans G1.out hU7)
        have KX7 := Lib.hid kx
        have KM7 := Lib.hid km
        have hqx : qb < xb := Nat.lt_of_lt_of_le Q1.out.lt hx6
        have HQX := Lib.hid hqx
        clear hb7 hU7 hx6 kx km kB7 hb6 HW7 HX7 Q1 P1 B1 T1 G1 CS hqx k0 k1 k2 k3 k4
        go_upto_region 14 with (first
          | (with_reducible refine wpList_pt rfl _ rfl xb rfl X KX7.out ?_)
          | (refine wpList_ptst rfl _ _ rfl qb rfl X (newP1 q) rfl Q7.out ?_))
        obtain ⟨W8, hW8⟩ : ∃ V, W7.setRow qb (cellsT X) = V := ⟨_, rfl⟩
        refine wp_to (W := W8) (by exact hW8.symm) ?_
        have Q8 := Lib.hid (show PtBlk 30 W8 qb X by rw [← hW8]; exact Q7.out.row X)
        have P8 := Lib.hid (show PtBlk 30 W8 pb' p by rw [← hW8]; exact (setRow_other _ _ _ _ (Nat.ne_of_lt HPQ.out)).trans P7.out)
        have B8 := Lib.hid (show BrBlk W8 bb br t.age t.max t.hello t.delay by rw [← hW8]; exact (setRow_other _ _ _ _ (Nat.ne_of_lt HBQ.out)).trans B7.out)
        have T8 := Lib.hid (show TRoles W8 by rw [← hW8]; exact T7.out.below (below_row (Below.refl 1 W7) (by have := HBQ.out; omega) _) Nat.one_pos)
        have M8 := Lib.hid (show BBlk 34 W8 (xb + 1) M by rw [← hW8]; exact (setRow_other _ _ _ _ (by have := HQX.out; omega)).trans KM7.out)
        have G8 := Lib.hid (show Below w.heap.size w W8 by rw [← hW8]; exact below_row G7.out HWQ.out _)
        clear hW8 Q7 P7 B7 T7 KX7 KM7 G7
        obtain ⟨m0, m1, m2, m3, m4, m5, m6, m7, m8, m9⟩ := M8.out.rd
        cases ok with
        | false =>
          rw [if_neg (by decide)] at HAN
          have hz : M = zeroM := by rw [← HM.out]; exact (send_no HOK.out).1
          rw [hz] at m0 m1 m2 m3 m4 m5 m6 m7 m8 m9
          unfold zeroM at m0 m1 m2 m3 m4 m5 m6 m7 m8 m9
          have hne := fun w => run_bpNe 0 0 0 0 0 0 0 0 0 0 0 0 0 0 0 0 0 0 0 0 w
          have e0 : bpEq ⟨0, 0, 0, 0, 0, 0, 0, 0, 0, 0⟩ ⟨0, 0, 0, 0, 0, 0, 0, 0, 0, 0⟩ = true := by decide
          simp only [e0, Bool.not_true] at hne
          unfold bv at hne
          clear hz e0
          go_wp2_with fail
          exact ⟨⟨i + 1, s, X, by omega, by omega, by go_num, rfl, HAN.out, P8.out, Q8.out, B8.out, T8.out, G8.out⟩, by simp [intOf]; omega⟩
        | true =>
          rw [if_pos rfl] at HAN
          obtain ⟨hcan, _, _, hmm⟩ := send_yes HOK.out
          have hsd := HA.out.keeps.trans (newP1_keeps q)
          have hsh := hsd.trans (hello_keeps t (newP1 q))
          have hkk := kind_keeps hsd
          have hkh := kind_keeps hsh
          rw [hkk, HM.out] at hmm
          have hk0 : ¬ kindP p = 0 := by
            unfold canB at hcan
            rw [Bool.and_eq_true, hkk] at hcan
            simpa using hcan.2
          have hN := HN.out
          obtain ⟨hh, hhh⟩ : ∃ hh, helloP t (newP1 q) = hh := ⟨_, rfl⟩
          rw [hhh] at hmm hsh hkh
          have hof := hsh.offer
          have hgv := hsh.given
          have hrl := hsh.role
          have hn20 := HN20.out
          have hri : ¬ kindP p = 2 → rightB (msgP hh) = true := fun h2 => msg_right (by rw [hkh]; exact hk0) (by rw [hkh]; exact h2) (by rw [hof]; omega) (by rw [hof]; omega) (by rw [hgv]; omega) (by rw [hgv]; omega) (by rw [hgv]; omega) (by rw [hgv]; omega)
          have hright : rightB M = true := by
            rw [hmm]
            split
            · exact notice_right
            · rename_i h2
              exact hri h2
          have hs20 : s < 20 := by omega
          have kne : ∀ (a b : Int), ¬ a = b → (a == b) = false := fun a b h => beq_eq_false_iff_ne.2 h
          have hV := fun w => (run_vcNe p.offer.root p.offer.cost p.offer.bridge p.offer.port p.offer.root p.offer.cost p.offer.bridge p.offer.port w)
          obtain ⟨A, hA'⟩ : ∃ x, (msgP hh).age = x := ⟨_, rfl⟩
          obtain ⟨Mx, hM'⟩ : ∃ x, (msgP hh).max = x := ⟨_, rfl⟩
          obtain ⟨He, hH'⟩ : ∃ x, (msgP hh).hello = x := ⟨_, rfl⟩
          obtain ⟨De, hD'⟩ : ∃ x, (msgP hh).delay = x := ⟨_, rfl⟩
          obtain ⟨Fl, hF'⟩ : ∃ x, (msgP hh).flags = x := ⟨_, rfl⟩
          have hlit : ¬ kindP p = 2 → M = ⟨kindP p, Fl, p.offer.root, p.offer.cost, p.offer.bridge, p.offer.port, A, Mx, He, De⟩ := fun h2 => by
            rw [hmm, if_neg h2, ← hA', ← hM', ← hH', ← hD', ← hF', ← hof, ← hkh]
            rfl
          have hFr : kindP p = 3 → roleF Fl = toldRole p.role := fun h3 => by
            rw [← hF', ← hrl]
            show roleF (flagsI hh (decide (kindP hh = 1))) = _
            rw [hkh, h3]
            exact flagsI_role hh
          clear hA' hM' hH' hD' hF' hri hof hgv hrl hcan hkk hkh hsd hsh hhh hN HX HM HOK HN HA
          by_cases h2 : kindP p = 2
          · rw [if_pos h2] at hmm
            have hM : M = ⟨2, 0, 0, 0, 0, 0, 0, 0, 0, 0⟩ := hmm
            have hR : rightB ⟨2, 0, 0, 0, 0, 0, 0, 0, 0, 0⟩ = true := by rw [← hM]; exact hright
            rw [hM] at M8
            clear hM hright
            have CR := Lib.hid (fun w' => show Calls Tryd.prog 8 #[bv 2 0 0 0 0 0 0 0 0 0] w' (fun e w'' => e = .returned (.bool true) ∧ Below w'.heap.size w' w'') from hR ▸ right_any 2 0 0 0 0 0 0 0 0 0 w')
            unfold bv at CR
            have SS := Lib.hid (fun (V : World) (h1 : BBlk 34 V (xb + 1) ⟨2, 0, 0, 0, 0, 0, 0, 0, 0, 0⟩) (h2 : PtBlk 30 V pb' p) => show V.cell? ⟨xb + 1, 0, none⟩ = some (.int .i64 2) ∧ V.cell? ⟨xb + 1, 1, none⟩ = some (.int .i64 0) ∧ V.cell? ⟨xb + 1, 2, none⟩ = some (.int .u64 0) ∧ V.cell? ⟨xb + 1, 3, none⟩ = some (.int .u64 0) ∧ V.cell? ⟨xb + 1, 4, none⟩ = some (.int .u64 0) ∧ V.cell? ⟨xb + 1, 5, none⟩ = some (.int .u64 0) ∧ V.cell? ⟨xb + 1, 6, none⟩ = some (.int .i64 0) ∧ V.cell? ⟨xb + 1, 7, none⟩ = some (.int .i64 0) ∧ V.cell? ⟨xb + 1, 8, none⟩ = some (.int .i64 0) ∧ V.cell? ⟨xb + 1, 9, none⟩ = some (.int .i64 0) ∧ V.cell? ⟨pb', 14, none⟩ = some (.int .u64 p.offer.root) ∧ V.cell? ⟨pb', 15, none⟩ = some (.int .u64 p.offer.cost) ∧ V.cell? ⟨pb', 16, none⟩ = some (.int .u64 p.offer.bridge) ∧ V.cell? ⟨pb', 17, none⟩ = some (.int .u64 p.offer.port) ∧ V.cell? ⟨pb', 22, none⟩ = some (.int .i64 p.role) from by obtain ⟨z0, z1, z2, z3, z4, z5, z6, z7, z8, z9⟩ := h1.rd; exact ⟨z0, z1, z2, z3, z4, z5, z6, z7, z8, z9, h2.c_offer_root, h2.c_offer_cost, h2.c_offer_bridge, h2.c_offer_port, h2.c_role⟩)
            have S0 := Lib.hid (SS.out W8.drew M8.out P8.out)
            obtain ⟨z0, z1, z2, z3, z4, z5, z6, z7, z8, z9, z10, z11, z12, z13, z14⟩ := SS.out W8 M8.out P8.out
            clear hmm hlit hFr h2 hk0
            clear m0 m1 m2 m3 m4 m5 m6 m7 m8 m9 hR
            go_upto_region 18 with (fail)
            refine wp_region_held_drew (S := fun V => BBlk 34 V (xb + 1) ⟨2, 0, 0, 0, 0, 0, 0, 0, 0, 0⟩ ∧ PtBlk 30 V pb' p) (by kernel_rfl) (show BBlk 34 W8.drew (xb + 1) ⟨2, 0, 0, 0, 0, 0, 0, 0, 0, 0⟩ ∧ PtBlk 30 W8.drew pb' p from ⟨M8.out, P8.out⟩) (fun hHeld => ?_)
            try simp only [Act.put, List.getElem_toArray, List.getElem_cons_succ, List.getElem_cons_zero, List.setIfInBounds_toArray, List.set_cons_zero, List.set_cons_succ]
            refine wpAnyH_take (i := 0) (v := .agg #[.int .i64 2, .int .i64 0, .int .u64 0, .int .u64 0, .int .u64 0, .int .u64 0, .int .i64 0, .int .i64 0, .int .i64 0, .int .i64 0]) rfl (by kernel_rfl) (by kernel_rfl) (by kernel_rfl) (fun _ _ _ h => h) (yieldsIf_run (by rfl) 34 _ rfl ⟨xb + 1, 0, none⟩ rfl _ (fun V h => loadAt_row h.1 rfl rfl (by kernel_rfl))) hHeld ?_
            try simp only [Act.put, List.getElem_toArray, List.getElem_cons_succ, List.getElem_cons_zero, List.setIfInBounds_toArray, List.set_cons_zero, List.set_cons_succ]
            refine wpAnyH_ready (rs := [1]) (by kernel_rfl) (by simp) ?_
            refine AllReadyH.cons rfl (fun K hK => ?_) AllReadyH.nil
            go_simp
            (with_reducible refine (CR.out _).mono ?_)
            rintro e z1 ⟨rfl, hz1⟩
            have YB := Lib.hid (show Below W8.heap.size W8 z1 from (Below.refl _ W8).drew.trans hz1)
            clear hHeld hz1
            go_simp
            refine hK.out _ _ ⟨M8.out.next YB.out, P8.out.next YB.out⟩ (fun hHeld => ?_)
            clear hK
            try simp only [Act.put, List.getElem_toArray, List.getElem_cons_succ, List.getElem_cons_zero, List.setIfInBounds_toArray, List.set_cons_zero, List.set_cons_succ]
            refine wpAnyH_take (i := 2) (v := .bool false) rfl (by kernel_rfl) (by kernel_rfl) (by kernel_rfl) (fun _ _ _ h => h) (Or.inl ⟨by rfl, fun V h => by go_simp⟩) hHeld ?_
            try simp only [Act.put, List.getElem_toArray, List.getElem_cons_succ, List.getElem_cons_zero, List.setIfInBounds_toArray, List.set_cons_zero, List.set_cons_succ]
            refine wpAnyH_take (i := 3) (v := .bool false) rfl (by kernel_rfl) (by kernel_rfl) (by kernel_rfl) (fun _ _ _ h => h) (Or.inl ⟨by rfl, fun V h => by go_simp⟩) hHeld ?_
            try simp only [Act.put, List.getElem_toArray, List.getElem_cons_succ, List.getElem_cons_zero, List.setIfInBounds_toArray, List.set_cons_zero, List.set_cons_succ]
            refine wpAnyH_take (i := 4) (v := .pointer (some ⟨xb + 1, 0, none⟩)) rfl (by kernel_rfl) (by kernel_rfl) (by kernel_rfl) (fun _ _ _ h => h) (Or.inl ⟨by rfl, fun V h => by go_simp⟩) hHeld ?_
            try simp only [Act.put, List.getElem_toArray, List.getElem_cons_succ, List.getElem_cons_zero, List.setIfInBounds_toArray, List.set_cons_zero, List.set_cons_succ]
            refine wpAnyH_take (i := 5) (v := .int .i64 2) rfl (by kernel_rfl) (by kernel_rfl) (by kernel_rfl) (fun _ _ _ h => h) (Or.inl ⟨by rfl, fun V h => by have hh := h.1.rd.1; go_simp⟩) hHeld ?_
            try simp only [Act.put, List.getElem_toArray, List.getElem_cons_succ, List.getElem_cons_zero, List.setIfInBounds_toArray, List.set_cons_zero, List.set_cons_succ]
            refine wpAnyH_take (i := 6) (v := .bool false) rfl (by kernel_rfl) (by kernel_rfl) (by kernel_rfl) (fun _ _ _ h => h) (Or.inl ⟨by rfl, fun V h => by go_simp⟩) hHeld ?_
            try simp only [Act.put, List.getElem_toArray, List.getElem_cons_succ, List.getElem_cons_zero, List.setIfInBounds_toArray, List.set_cons_zero, List.set_cons_succ]
            refine wpAnyH_take (i := 7) (v := .bool false) rfl (by kernel_rfl) (by kernel_rfl) (by kernel_rfl) (fun _ _ _ h => h) (Or.inl ⟨by rfl, fun V h => by go_simp⟩) hHeld ?_
            try simp only [Act.put, List.getElem_toArray, List.getElem_cons_succ, List.getElem_cons_zero, List.setIfInBounds_toArray, List.set_cons_zero, List.set_cons_succ]
            refine wpAnyH_take (i := 8) (v := undef) rfl (by kernel_rfl) (by kernel_rfl) (by kernel_rfl) (fun _ _ _ h => h) (Or.inr ⟨by rfl, by rfl⟩) hHeld ?_
            try simp only [Act.put, List.getElem_toArray, List.getElem_cons_succ, List.getElem_cons_zero, List.setIfInBounds_toArray, List.set_cons_zero, List.set_cons_succ]
            refine wpAnyH_take (i := 9) (v := undef) rfl (by kernel_rfl) (by kernel_rfl) (by kernel_rfl) (fun _ _ _ h => h) (Or.inr ⟨by rfl, by rfl⟩) hHeld ?_
            try simp only [Act.put, List.getElem_toArray, List.getElem_cons_succ, List.getElem_cons_zero, List.setIfInBounds_toArray, List.set_cons_zero, List.set_cons_succ]
            refine wpAnyH_take (i := 10) (v := undef) rfl (by kernel_rfl) (by kernel_rfl) (by kernel_rfl) (fun _ _ _ h => h) (Or.inr ⟨by rfl, by rfl⟩) hHeld ?_
            try simp only [Act.put, List.getElem_toArray, List.getElem_cons_succ, List.getElem_cons_zero, List.setIfInBounds_toArray, List.set_cons_zero, List.set_cons_succ]
            refine wpAnyH_take (i := 11) (v := undef) rfl (by kernel_rfl) (by kernel_rfl) (by kernel_rfl) (fun _ _ _ h => h) (Or.inr ⟨by rfl, by rfl⟩) hHeld ?_
            try simp only [Act.put, List.getElem_toArray, List.getElem_cons_succ, List.getElem_cons_zero, List.setIfInBounds_toArray, List.set_cons_zero, List.set_cons_succ]
            refine wpAnyH_take (i := 12) (v := undef) rfl (by kernel_rfl) (by kernel_rfl) (by kernel_rfl) (fun _ _ _ h => h) (Or.inr ⟨by rfl, by rfl⟩) hHeld ?_
            try simp only [Act.put, List.getElem_toArray, List.getElem_cons_succ, List.getElem_cons_zero, List.setIfInBounds_toArray, List.set_cons_zero, List.set_cons_succ]
            refine wpAnyH_take (i := 13) (v := undef) rfl (by kernel_rfl) (by kernel_rfl) (by kernel_rfl) (fun _ _ _ h => h) (Or.inr ⟨by rfl, by rfl⟩) hHeld ?_
            try simp only [Act.put, List.getElem_toArray, List.getElem_cons_succ, List.getElem_cons_zero, List.setIfInBounds_toArray, List.set_cons_zero, List.set_cons_succ]
            refine wpAnyH_take (i := 14) (v := undef) rfl (by kernel_rfl) (by kernel_rfl) (by kernel_rfl) (fun _ _ _ h => h) (Or.inr ⟨by rfl, by rfl⟩) hHeld ?_
            try simp only [Act.put, List.getElem_toArray, List.getElem_cons_succ, List.getElem_cons_zero, List.setIfInBounds_toArray, List.set_cons_zero, List.set_cons_succ]
            refine wpAnyH_take (i := 15) (v := undef) rfl (by kernel_rfl) (by kernel_rfl) (by kernel_rfl) (fun _ _ _ h => h) (Or.inr ⟨by rfl, by rfl⟩) hHeld ?_
            try simp only [Act.put, List.getElem_toArray, List.getElem_cons_succ, List.getElem_cons_zero, List.setIfInBounds_toArray, List.set_cons_zero, List.set_cons_succ]
            refine wpAnyH_take (i := 16) (v := .bool false) rfl (by kernel_rfl) (by kernel_rfl) (by kernel_rfl) (fun _ _ _ h => h) (Or.inl ⟨by rfl, fun V h => by go_simp⟩) hHeld ?_
            try simp only [Act.put, List.getElem_toArray, List.getElem_cons_succ, List.getElem_cons_zero, List.setIfInBounds_toArray, List.set_cons_zero, List.set_cons_succ]
            refine wpAnyH_take (i := 17) (v := .bool false) rfl (by kernel_rfl) (by kernel_rfl) (by kernel_rfl) (fun _ _ _ h => h) (Or.inl ⟨by rfl, fun V h => by go_simp⟩) hHeld ?_
            try simp only [Act.put, List.getElem_toArray, List.getElem_cons_succ, List.getElem_cons_zero, List.setIfInBounds_toArray, List.set_cons_zero, List.set_cons_succ]
            refine wpAnyH_take (i := 18) (v := .bool false) rfl (by kernel_rfl) (by kernel_rfl) (by kernel_rfl) (fun _ _ _ h => h) (Or.inl ⟨by rfl, fun V h => by go_simp⟩) hHeld ?_
            try simp only [Act.put, List.getElem_toArray, List.getElem_cons_succ, List.getElem_cons_zero, List.setIfInBounds_toArray, List.set_cons_zero, List.set_cons_succ]
            refine wpAnyH_take (i := 19) (v := .pointer (some ⟨xb + 1, 0, none⟩)) rfl (by kernel_rfl) (by kernel_rfl) (by kernel_rfl) (fun _ _ _ h => h) (Or.inl ⟨by rfl, fun V h => by go_simp⟩) hHeld ?_
            try simp only [Act.put, List.getElem_toArray, List.getElem_cons_succ, List.getElem_cons_zero, List.setIfInBounds_toArray, List.set_cons_zero, List.set_cons_succ]
            refine wpAnyH_take (i := 20) (v := .int .i64 2) rfl (by kernel_rfl) (by kernel_rfl) (by kernel_rfl) (fun _ _ _ h => h) (Or.inl ⟨by rfl, fun V h => by have hh := h.1.rd.1; go_simp⟩) hHeld ?_
            try simp only [Act.put, List.getElem_toArray, List.getElem_cons_succ, List.getElem_cons_zero, List.setIfInBounds_toArray, List.set_cons_zero, List.set_cons_succ]
            refine wpAnyH_take (i := 21) (v := .bool false) rfl (by kernel_rfl) (by kernel_rfl) (by kernel_rfl) (fun _ _ _ h => h) (Or.inl ⟨by rfl, fun V h => by go_simp⟩) hHeld ?_
            try simp only [Act.put, List.getElem_toArray, List.getElem_cons_succ, List.getElem_cons_zero, List.setIfInBounds_toArray, List.set_cons_zero, List.set_cons_succ]
            refine wpAnyH_take (i := 22) (v := .bool false) rfl (by kernel_rfl) (by kernel_rfl) (by kernel_rfl) (fun _ _ _ h => h) (Or.inl ⟨by rfl, fun V h => by go_simp⟩) hHeld ?_
            try simp only [Act.put, List.getElem_toArray, List.getElem_cons_succ, List.getElem_cons_zero, List.setIfInBounds_toArray, List.set_cons_zero, List.set_cons_succ]
            refine wpAnyH_take (i := 23) (v := undef) rfl (by kernel_rfl) (by kernel_rfl) (by kernel_rfl) (fun _ _ _ h => h) (Or.inr ⟨by rfl, by rfl⟩) hHeld ?_
            try simp only [Act.put, List.getElem_toArray, List.getElem_cons_succ, List.getElem_cons_zero, List.setIfInBounds_toArray, List.set_cons_zero, List.set_cons_succ]
            refine wpAnyH_take (i := 24) (v := undef) rfl (by kernel_rfl) (by kernel_rfl) (by kernel_rfl) (fun _ _ _ h => h) (Or.inr ⟨by rfl, by rfl⟩) hHeld ?_
            try simp only [Act.put, List.getElem_toArray, List.getElem_cons_succ, List.getElem_cons_zero, List.setIfInBounds_toArray, List.set_cons_zero, List.set_cons_succ]
            refine wpAnyH_take (i := 25) (v := undef) rfl (by kernel_rfl) (by kernel_rfl) (by kernel_rfl) (fun _ _ _ h => h) (Or.inr ⟨by rfl, by rfl⟩) hHeld ?_
            try simp only [Act.put, List.getElem_toArray, List.getElem_cons_succ, List.getElem_cons_zero, List.setIfInBounds_toArray, List.set_cons_zero, List.set_cons_succ]
            refine wpAnyH_take (i := 26) (v := undef) rfl (by kernel_rfl) (by kernel_rfl) (by kernel_rfl) (fun _ _ _ h => h) (Or.inr ⟨by rfl, by rfl⟩) hHeld ?_
            try simp only [Act.put, List.getElem_toArray, List.getElem_cons_succ, List.getElem_cons_zero, List.setIfInBounds_toArray, List.set_cons_zero, List.set_cons_succ]
            refine wpAnyH_take (i := 27) (v := undef) rfl (by kernel_rfl) (by kernel_rfl) (by kernel_rfl) (fun _ _ _ h => h) (Or.inr ⟨by rfl, by rfl⟩) hHeld ?_
            try simp only [Act.put, List.getElem_toArray, List.getElem_cons_succ, List.getElem_cons_zero, List.setIfInBounds_toArray, List.set_cons_zero, List.set_cons_succ]
            refine wpAnyH_take (i := 28) (v := .bool false) rfl (by kernel_rfl) (by kernel_rfl) (by kernel_rfl) (fun _ _ _ h => h) (Or.inl ⟨by rfl, fun V h => by go_simp⟩) hHeld ?_
            try simp only [Act.put, List.getElem_toArray, List.getElem_cons_succ, List.getElem_cons_zero, List.setIfInBounds_toArray, List.set_cons_zero, List.set_cons_succ]
            refine wpAnyH_take (i := 29) (v := .bool false) rfl (by kernel_rfl) (by kernel_rfl) (by kernel_rfl) (fun _ _ _ h => h) (Or.inl ⟨by rfl, fun V h => by go_simp⟩) hHeld ?_
            try simp only [Act.put, List.getElem_toArray, List.getElem_cons_succ, List.getElem_cons_zero, List.setIfInBounds_toArray, List.set_cons_zero, List.set_cons_succ]
            refine wpAnyH_done (by kernel_rfl) ?_ _
            clear hHeld
            go_wp2_with fail
            all_goals exact ⟨⟨i + 1, s + 1, X, by omega, by omega, by go_num, by go_num, HAN.out, P8.out.next YB.out, Q8.out.next YB.out, B8.out.next YB.out, T8.out.next YB.out, bw_trans G8.out YB.out⟩, by simp [intOf]; omega⟩
          · rw [if_neg h2] at hmm
            have hl := hlit h2
            clear hmm hlit
            by_cases h3 : kindP p = 3
            · rw [h3] at hl
              have hr := hFr h3
              have hM : M = ⟨3, Fl, p.offer.root, p.offer.cost, p.offer.bridge, p.offer.port, A, Mx, He, De⟩ := hl
              have hR : rightB ⟨3, Fl, p.offer.root, p.offer.cost, p.offer.bridge, p.offer.port, A, Mx, He, De⟩ = true := by rw [← hM]; exact hright
              rw [hM] at M8
              clear hM hright
              have CR := Lib.hid (fun w' => show Calls Tryd.prog 8 #[bv 3 Fl p.offer.root p.offer.cost p.offer.bridge p.offer.port A Mx He De] w' (fun e w'' => e = .returned (.bool true) ∧ Below w'.heap.size w' w'') from hR ▸ right_any 3 Fl p.offer.root p.offer.cost p.offer.bridge p.offer.port A Mx He De w')
              unfold bv at CR
              have CO := Lib.hid (fun w' => brole_w Fl w')
              have SS := Lib.hid (fun (V : World) (h1 : BBlk 34 V (xb + 1) ⟨3, Fl, p.offer.root, p.offer.cost, p.offer.bridge, p.offer.port, A, Mx, He, De⟩) (h2 : PtBlk 30 V pb' p) => show V.cell? ⟨xb + 1, 0, none⟩ = some (.int .i64 3) ∧ V.cell? ⟨xb + 1, 1, none⟩ = some (.int .i64 Fl) ∧ V.cell? ⟨xb + 1, 2, none⟩ = some (.int .u64 p.offer.root) ∧ V.cell? ⟨xb + 1, 3, none⟩ = some (.int .u64 p.offer.cost) ∧ V.cell? ⟨xb + 1, 4, none⟩ = some (.int .u64 p.offer.bridge) ∧ V.cell? ⟨xb + 1, 5, none⟩ = some (.int .u64 p.offer.port) ∧ V.cell? ⟨xb + 1, 6, none⟩ = some (.int .i64 A) ∧ V.cell? ⟨xb + 1, 7, none⟩ = some (.int .i64 Mx) ∧ V.cell? ⟨xb + 1, 8, none⟩ = some (.int .i64 He) ∧ V.cell? ⟨xb + 1, 9, none⟩ = some (.int .i64 De) ∧ V.cell? ⟨pb', 14, none⟩ = some (.int .u64 p.offer.root) ∧ V.cell? ⟨pb', 15, none⟩ = some (.int .u64 p.offer.cost) ∧ V.cell? ⟨pb', 16, none⟩ = some (.int .u64 p.offer.bridge) ∧ V.cell? ⟨pb', 17, none⟩ = some (.int .u64 p.offer.port) ∧ V.cell? ⟨pb', 22, none⟩ = some (.int .i64 p.role) from by obtain ⟨z0, z1, z2, z3, z4, z5, z6, z7, z8, z9⟩ := h1.rd; exact ⟨z0, z1, z2, z3, z4, z5, z6, z7, z8, z9, h2.c_offer_root, h2.c_offer_cost, h2.c_offer_bridge, h2.c_offer_port, h2.c_role⟩)
              have S0 := Lib.hid (SS.out W8.drew M8.out P8.out)
              obtain ⟨z0, z1, z2, z3, z4, z5, z6, z7, z8, z9, z10, z11, z12, z13, z14⟩ := SS.out W8 M8.out P8.out
              obtain ⟨ro, hro⟩ : ∃ x, roleF Fl = x := ⟨_, rfl⟩
              have hb3 : (ro == 3) = (p.role == 2) := by rw [← hro, hr]; have := toldRole_three p.role; rw [Bool.eq_iff_iff]; simpa using this
              rw [hro] at CO
              obtain ⟨bo, hbo⟩ : ∃ x, (p.role == 2) = x := ⟨_, rfl⟩
              rw [hbo] at hb3
              clear hr hro hFr h2 h3 hk0
              clear m0 m1 m2 m3 m4 m5 m6 m7 m8 m9 hR
              go_upto_region 18 with (fail)
              go_region_held3 (fun V => V.cell? ⟨xb + 1, 0, none⟩ = some (.int .i64 3) ∧ V.cell? ⟨xb + 1, 1, none⟩ = some (.int .i64 Fl) ∧ V.cell? ⟨xb + 1, 2, none⟩ = some (.int .u64 p.offer.root) ∧ V.cell? ⟨xb + 1, 3, none⟩ = some (.int .u64 p.offer.cost) ∧ V.cell? ⟨xb + 1, 4, none⟩ = some (.int .u64 p.offer.bridge) ∧ V.cell? ⟨xb + 1, 5, none⟩ = some (.int .u64 p.offer.port) ∧ V.cell? ⟨xb + 1, 6, none⟩ = some (.int .i64 A) ∧ V.cell? ⟨xb + 1, 7, none⟩ = some (.int .i64 Mx) ∧ V.cell? ⟨xb + 1, 8, none⟩ = some (.int .i64 He) ∧ V.cell? ⟨xb + 1, 9, none⟩ = some (.int .i64 De) ∧ V.cell? ⟨pb', 14, none⟩ = some (.int .u64 p.offer.root) ∧ V.cell? ⟨pb', 15, none⟩ = some (.int .u64 p.offer.cost) ∧ V.cell? ⟨pb', 16, none⟩ = some (.int .u64 p.offer.bridge) ∧ V.cell? ⟨pb', 17, none⟩ = some (.int .u64 p.offer.port) ∧ V.cell? ⟨pb', 22, none⟩ = some (.int .i64 p.role)) (first | (with_reducible exact S0.out) | (with_reducible exact T0.out) | (with_reducible exact T1.out)) (first
                | (go_at_call 8; (with_reducible refine (CR.out _).mono ?_); rintro e y0 ⟨rfl, hb⟩; have YB := Lib.hid hb; have T0 := Lib.hid (SS.out y0 (M8.out.next (show Below W8.heap.size W8 y0 from (Below.refl _ W8).drew.trans hb)) (P8.out.next (show Below W8.heap.size W8 y0 from (Below.refl _ W8).drew.trans hb))); clear hb)
                | (go_at_call 9; (with_reducible refine (CO.out _).mono ?_); rintro e y1 ⟨rfl, rfl⟩))
              all_goals go_wp2_with fail
              all_goals exact ⟨⟨i + 1, s + 1, X, by omega, by omega, by go_num, by go_num, HAN.out, P8.out.next ((Below.refl _ W8).drew.trans YB.out), Q8.out.next ((Below.refl _ W8).drew.trans YB.out), B8.out.next ((Below.refl _ W8).drew.trans YB.out), T8.out.next ((Below.refl _ W8).drew.trans YB.out), bw_trans G8.out ((Below.refl _ W8).drew.trans YB.out)⟩, by simp [intOf]; omega⟩
            · have h1 : kindP p = 1 := by rcases kind_is p with h | h | h | h <;> first | exact h | (exact absurd h hk0) | (exact absurd h h2) | (exact absurd h h3)
              rw [h1] at hl
              have hM : M = ⟨1, Fl, p.offer.root, p.offer.cost, p.offer.bridge, p.offer.port, A, Mx, He, De⟩ := hl
              have hR : rightB ⟨1, Fl, p.offer.root, p.offer.cost, p.offer.bridge, p.offer.port, A, Mx, He, De⟩ = true := by rw [← hM]; exact hright
              rw [hM] at M8
              clear hM hright
              have CR := Lib.hid (fun w' => show Calls Tryd.prog 8 #[bv 1 Fl p.offer.root p.offer.cost p.offer.bridge p.offer.port A Mx He De] w' (fun e w'' => e = .returned (.bool true) ∧ Below w'.heap.size w' w'') from hR ▸ right_any 1 Fl p.offer.root p.offer.cost p.offer.bridge p.offer.port A Mx He De w')
              unfold bv at CR
              have SS := Lib.hid (fun (V : World) (h1 : BBlk 34 V (xb + 1) ⟨1, Fl, p.offer.root, p.offer.cost, p.offer.bridge, p.offer.port, A, Mx, He, De⟩) (h2 : PtBlk 30 V pb' p) => show V.cell? ⟨xb + 1, 0, none⟩ = some (.int .i64 1) ∧ V.cell? ⟨xb + 1, 1, none⟩ = some (.int .i64 Fl) ∧ V.cell? ⟨xb + 1, 2, none⟩ = some (.int .u64 p.offer.root) ∧ V.cell? ⟨xb + 1, 3, none⟩ = some (.int .u64 p.offer.cost) ∧ V.cell? ⟨xb + 1, 4, none⟩ = some (.int .u64 p.offer.bridge) ∧ V.cell? ⟨xb + 1, 5, none⟩ = some (.int .u64 p.offer.port) ∧ V.cell? ⟨xb + 1, 6, none⟩ = some (.int .i64 A) ∧ V.cell? ⟨xb + 1, 7, none⟩ = some (.int .i64 Mx) ∧ V.cell? ⟨xb + 1, 8, none⟩ = some (.int .i64 He) ∧ V.cell? ⟨xb + 1, 9, none⟩ = some (.int .i64 De) ∧ V.cell? ⟨pb', 14, none⟩ = some (.int .u64 p.offer.root) ∧ V.cell? ⟨pb', 15, none⟩ = some (.int .u64 p.offer.cost) ∧ V.cell? ⟨pb', 16, none⟩ = some (.int .u64 p.offer.bridge) ∧ V.cell? ⟨pb', 17, none⟩ = some (.int .u64 p.offer.port) ∧ V.cell? ⟨pb', 22, none⟩ = some (.int .i64 p.role) from by obtain ⟨z0, z1, z2, z3, z4, z5, z6, z7, z8, z9⟩ := h1.rd; exact ⟨z0, z1, z2, z3, z4, z5, z6, z7, z8, z9, h2.c_offer_root, h2.c_offer_cost, h2.c_offer_bridge, h2.c_offer_port, h2.c_role⟩)
              have S0 := Lib.hid (SS.out W8.drew M8.out P8.out)
              obtain ⟨z0, z1, z2, z3, z4, z5, z6, z7, z8, z9, z10, z11, z12, z13, z14⟩ := SS.out W8 M8.out P8.out
              clear hFr h1 h2 h3 hk0
              clear m0 m1 m2 m3 m4 m5 m6 m7 m8 m9 hR
              go_upto_region 18 with (fail)
              refine wp_region_held_drew (S := fun V => BBlk 34 V (xb + 1) ⟨1, Fl, p.offer.root, p.offer.cost, p.offer.bridge, p.offer.port, A, Mx, He, De⟩ ∧ PtBlk 30 V pb' p) (by kernel_rfl) (show BBlk 34 W8.drew (xb + 1) ⟨1, Fl, p.offer.root, p.offer.cost, p.offer.bridge, p.offer.port, A, Mx, He, De⟩ ∧ PtBlk 30 W8.drew pb' p from ⟨M8.out, P8.out⟩) (fun hHeld => ?_)
              try simp only [Act.put, List.getElem_toArray, List.getElem_cons_succ, List.getElem_cons_zero, List.setIfInBounds_toArray, List.set_cons_zero, List.set_cons_succ]
              refine wpAnyH_take (i := 0) (v := .agg #[.int .i64 1, .int .i64 Fl, .int .u64 p.offer.root, .int .u64 p.offer.cost, .int .u64 p.offer.bridge, .int .u64 p.offer.port, .int .i64 A, .int .i64 Mx, .int .i64 He, .int .i64 De]) rfl (by kernel_rfl) (by kernel_rfl) (by kernel_rfl) (fun _ _ _ h => h) (yieldsIf_run (by rfl) 34 _ rfl ⟨xb + 1, 0, none⟩ rfl _ (fun V h => loadAt_row h.1 rfl rfl (by kernel_rfl))) hHeld ?_
              try simp only [Act.put, List.getElem_toArray, List.getElem_cons_succ, List.getElem_cons_zero, List.setIfInBounds_toArray, List.set_cons_zero, List.set_cons_succ]
              refine wpAnyH_ready (rs := [1]) (by kernel_rfl) (by simp) ?_
              refine AllReadyH.cons rfl (fun K hK => ?_) AllReadyH.nil
              go_simp
              (with_reducible refine (CR.out _).mono ?_)
              rintro e z1 ⟨rfl, hz1⟩
              have YB := Lib.hid (show Below W8.heap.size W8 z1 from (Below.refl _ W8).drew.trans hz1)
              clear hHeld hz1
              go_simp
              refine hK.out _ _ ⟨M8.out.next YB.out, P8.out.next YB.out⟩ (fun hHeld => ?_)
              clear hK
              try simp only [Act.put, List.getElem_toArray, List.getElem_cons_succ, List.getElem_cons_zero, List.setIfInBounds_toArray, List.set_cons_zero, List.set_cons_succ]
              refine wpAnyH_take (i := 2) (v := .bool false) rfl (by kernel_rfl) (by kernel_rfl) (by kernel_rfl) (fun _ _ _ h => h) (Or.inl ⟨by rfl, fun V h => by go_simp⟩) hHeld ?_
              try simp only [Act.put, List.getElem_toArray, List.getElem_cons_succ, List.getElem_cons_zero, List.setIfInBounds_toArray, List.set_cons_zero, List.set_cons_succ]
              refine wpAnyH_take (i := 3) (v := .bool false) rfl (by kernel_rfl) (by kernel_rfl) (by kernel_rfl) (fun _ _ _ h => h) (Or.inl ⟨by rfl, fun V h => by go_simp⟩) hHeld ?_
              try simp only [Act.put, List.getElem_toArray, List.getElem_cons_succ, List.getElem_cons_zero, List.setIfInBounds_toArray, List.set_cons_zero, List.set_cons_succ]
              refine wpAnyH_take (i := 4) (v := .pointer (some ⟨xb + 1, 0, none⟩)) rfl (by kernel_rfl) (by kernel_rfl) (by kernel_rfl) (fun _ _ _ h => h) (Or.inl ⟨by rfl, fun V h => by go_simp⟩) hHeld ?_
              try simp only [Act.put, List.getElem_toArray, List.getElem_cons_succ, List.getElem_cons_zero, List.setIfInBounds_toArray, List.set_cons_zero, List.set_cons_succ]
              refine wpAnyH_take (i := 5) (v := .int .i64 1) rfl (by kernel_rfl) (by kernel_rfl) (by kernel_rfl) (fun _ _ _ h => h) (Or.inl ⟨by rfl, fun V h => by have hh := h.1.rd.1; go_simp⟩) hHeld ?_
              try simp only [Act.put, List.getElem_toArray, List.getElem_cons_succ, List.getElem_cons_zero, List.setIfInBounds_toArray, List.set_cons_zero, List.set_cons_succ]
              refine wpAnyH_take (i := 6) (v := .bool false) rfl (by kernel_rfl) (by kernel_rfl) (by kernel_rfl) (fun _ _ _ h => h) (Or.inl ⟨by rfl, fun V h => by go_simp⟩) hHeld ?_
              try simp only [Act.put, List.getElem_toArray, List.getElem_cons_succ, List.getElem_cons_zero, List.setIfInBounds_toArray, List.set_cons_zero, List.set_cons_succ]
              refine wpAnyH_take (i := 7) (v := .bool false) rfl (by kernel_rfl) (by kernel_rfl) (by kernel_rfl) (fun _ _ _ h => h) (Or.inl ⟨by rfl, fun V h => by go_simp⟩) hHeld ?_
              try simp only [Act.put, List.getElem_toArray, List.getElem_cons_succ, List.getElem_cons_zero, List.setIfInBounds_toArray, List.set_cons_zero, List.set_cons_succ]
              refine wpAnyH_take (i := 8) (v := undef) rfl (by kernel_rfl) (by kernel_rfl) (by kernel_rfl) (fun _ _ _ h => h) (Or.inr ⟨by rfl, by rfl⟩) hHeld ?_
              try simp only [Act.put, List.getElem_toArray, List.getElem_cons_succ, List.getElem_cons_zero, List.setIfInBounds_toArray, List.set_cons_zero, List.set_cons_succ]
              refine wpAnyH_take (i := 9) (v := undef) rfl (by kernel_rfl) (by kernel_rfl) (by kernel_rfl) (fun _ _ _ h => h) (Or.inr ⟨by rfl, by rfl⟩) hHeld ?_
              try simp only [Act.put, List.getElem_toArray, List.getElem_cons_succ, List.getElem_cons_zero, List.setIfInBounds_toArray, List.set_cons_zero, List.set_cons_succ]
              refine wpAnyH_take (i := 10) (v := undef) rfl (by kernel_rfl) (by kernel_rfl) (by kernel_rfl) (fun _ _ _ h => h) (Or.inr ⟨by rfl, by rfl⟩) hHeld ?_
              try simp only [Act.put, List.getElem_toArray, List.getElem_cons_succ, List.getElem_cons_zero, List.setIfInBounds_toArray, List.set_cons_zero, List.set_cons_succ]
              refine wpAnyH_take (i := 11) (v := undef) rfl (by kernel_rfl) (by kernel_rfl) (by kernel_rfl) (fun _ _ _ h => h) (Or.inr ⟨by rfl, by rfl⟩) hHeld ?_
              try simp only [Act.put, List.getElem_toArray, List.getElem_cons_succ, List.getElem_cons_zero, List.setIfInBounds_toArray, List.set_cons_zero, List.set_cons_succ]
              refine wpAnyH_take (i := 12) (v := undef) rfl (by kernel_rfl) (by kernel_rfl) (by kernel_rfl) (fun _ _ _ h => h) (Or.inr ⟨by rfl, by rfl⟩) hHeld ?_
              try simp only [Act.put, List.getElem_toArray, List.getElem_cons_succ, List.getElem_cons_zero, List.setIfInBounds_toArray, List.set_cons_zero, List.set_cons_succ]
              refine wpAnyH_take (i := 13) (v := undef) rfl (by kernel_rfl) (by kernel_rfl) (by kernel_rfl) (fun _ _ _ h => h) (Or.inr ⟨by rfl, by rfl⟩) hHeld ?_
              try simp only [Act.put, List.getElem_toArray, List.getElem_cons_succ, List.getElem_cons_zero, List.setIfInBounds_toArray, List.set_cons_zero, List.set_cons_succ]
              refine wpAnyH_take (i := 14) (v := undef) rfl (by kernel_rfl) (by kernel_rfl) (by kernel_rfl) (fun _ _ _ h => h) (Or.inr ⟨by rfl, by rfl⟩) hHeld ?_
              try simp only [Act.put, List.getElem_toArray, List.getElem_cons_succ, List.getElem_cons_zero, List.setIfInBounds_toArray, List.set_cons_zero, List.set_cons_succ]
              refine wpAnyH_take (i := 15) (v := undef) rfl (by kernel_rfl) (by kernel_rfl) (by kernel_rfl) (fun _ _ _ h => h) (Or.inr ⟨by rfl, by rfl⟩) hHeld ?_
              try simp only [Act.put, List.getElem_toArray, List.getElem_cons_succ, List.getElem_cons_zero, List.setIfInBounds_toArray, List.set_cons_zero, List.set_cons_succ]
              refine wpAnyH_take (i := 16) (v := .bool false) rfl (by kernel_rfl) (by kernel_rfl) (by kernel_rfl) (fun _ _ _ h => h) (Or.inl ⟨by rfl, fun V h => by go_simp⟩) hHeld ?_
              try simp only [Act.put, List.getElem_toArray, List.getElem_cons_succ, List.getElem_cons_zero, List.setIfInBounds_toArray, List.set_cons_zero, List.set_cons_succ]
              refine wpAnyH_take (i := 17) (v := .bool false) rfl (by kernel_rfl) (by kernel_rfl) (by kernel_rfl) (fun _ _ _ h => h) (Or.inl ⟨by rfl, fun V h => by go_simp⟩) hHeld ?_
              try simp only [Act.put, List.getElem_toArray, List.getElem_cons_succ, List.getElem_cons_zero, List.setIfInBounds_toArray, List.set_cons_zero, List.set_cons_succ]
              refine wpAnyH_take (i := 18) (v := .bool false) rfl (by kernel_rfl) (by kernel_rfl) (by kernel_rfl) (fun _ _ _ h => h) (Or.inl ⟨by rfl, fun V h => by go_simp⟩) hHeld ?_
              try simp only [Act.put, List.getElem_toArray, List.getElem_cons_succ, List.getElem_cons_zero, List.setIfInBounds_toArray, List.set_cons_zero, List.set_cons_succ]
              refine wpAnyH_take (i := 19) (v := .pointer (some ⟨xb + 1, 0, none⟩)) rfl (by kernel_rfl) (by kernel_rfl) (by kernel_rfl) (fun _ _ _ h => h) (Or.inl ⟨by rfl, fun V h => by go_simp⟩) hHeld ?_
              try simp only [Act.put, List.getElem_toArray, List.getElem_cons_succ, List.getElem_cons_zero, List.setIfInBounds_toArray, List.set_cons_zero, List.set_cons_succ]
              refine wpAnyH_take (i := 20) (v := .int .i64 1) rfl (by kernel_rfl) (by kernel_rfl) (by kernel_rfl) (fun _ _ _ h => h) (Or.inl ⟨by rfl, fun V h => by have hh := h.1.rd.1; go_simp⟩) hHeld ?_
              try simp only [Act.put, List.getElem_toArray, List.getElem_cons_succ, List.getElem_cons_zero, List.setIfInBounds_toArray, List.set_cons_zero, List.set_cons_succ]
              refine wpAnyH_take (i := 21) (v := .bool true) rfl (by kernel_rfl) (by kernel_rfl) (by kernel_rfl) (fun _ _ _ h => h) (Or.inl ⟨by rfl, fun V h => by go_simp⟩) hHeld ?_
              try simp only [Act.put, List.getElem_toArray, List.getElem_cons_succ, List.getElem_cons_zero, List.setIfInBounds_toArray, List.set_cons_zero, List.set_cons_succ]
              refine wpAnyH_take (i := 22) (v := .bool true) rfl (by kernel_rfl) (by kernel_rfl) (by kernel_rfl) (fun _ _ _ h => h) (Or.inl ⟨by rfl, fun V h => by go_simp⟩) hHeld ?_
              try simp only [Act.put, List.getElem_toArray, List.getElem_cons_succ, List.getElem_cons_zero, List.setIfInBounds_toArray, List.set_cons_zero, List.set_cons_succ]
              refine wpAnyH_take (i := 23) (v := .pointer (some ⟨xb + 1, 2, none⟩)) rfl (by kernel_rfl) (by kernel_rfl) (by kernel_rfl) (fun _ _ _ h => h) (Or.inl ⟨by rfl, fun V h => by go_simp⟩) hHeld ?_
              try simp only [Act.put, List.getElem_toArray, List.getElem_cons_succ, List.getElem_cons_zero, List.setIfInBounds_toArray, List.set_cons_zero, List.set_cons_succ]
              refine wpAnyH_take (i := 24) (v := .agg #[.int .u64 p.offer.root, .int .u64 p.offer.cost, .int .u64 p.offer.bridge, .int .u64 p.offer.port]) rfl (by kernel_rfl) (by kernel_rfl) (by kernel_rfl) (fun _ _ _ h => h) (Or.inl ⟨by rfl, fun V h => by obtain ⟨g0, g1, g2, g3, g4, g5, _⟩ := h.1.rd; go_simp⟩) hHeld ?_
              try simp only [Act.put, List.getElem_toArray, List.getElem_cons_succ, List.getElem_cons_zero, List.setIfInBounds_toArray, List.set_cons_zero, List.set_cons_succ]
              refine wpAnyH_take (i := 25) (v := .pointer (some ⟨pb', 14, none⟩)) rfl (by kernel_rfl) (by kernel_rfl) (by kernel_rfl) (fun _ _ _ h => h) (Or.inl ⟨by rfl, fun V h => by go_simp⟩) hHeld ?_
              try simp only [Act.put, List.getElem_toArray, List.getElem_cons_succ, List.getElem_cons_zero, List.setIfInBounds_toArray, List.set_cons_zero, List.set_cons_succ]
              refine wpAnyH_take (i := 26) (v := .agg #[.int .u64 p.offer.root, .int .u64 p.offer.cost, .int .u64 p.offer.bridge, .int .u64 p.offer.port]) rfl (by kernel_rfl) (by kernel_rfl) (by kernel_rfl) (fun _ _ _ h => h) (Or.inl ⟨by rfl, fun V h => by have g0 := h.2.c_offer_root; have g1 := h.2.c_offer_cost; have g2 := h.2.c_offer_bridge; have g3 := h.2.c_offer_port; go_simp⟩) hHeld ?_
              try simp only [Act.put, List.getElem_toArray, List.getElem_cons_succ, List.getElem_cons_zero, List.setIfInBounds_toArray, List.set_cons_zero, List.set_cons_succ]
              refine wpAnyH_take (i := 27) (v := .bool false) rfl (by kernel_rfl) (by kernel_rfl) (by kernel_rfl) (fun _ _ _ h => h) (Or.inl ⟨by rfl, fun V h => by have hx := hV V; go_simp⟩) hHeld ?_
              try simp only [Act.put, List.getElem_toArray, List.getElem_cons_succ, List.getElem_cons_zero, List.setIfInBounds_toArray, List.set_cons_zero, List.set_cons_succ]
              refine wpAnyH_take (i := 28) (v := .bool false) rfl (by kernel_rfl) (by kernel_rfl) (by kernel_rfl) (fun _ _ _ h => h) (Or.inl ⟨by rfl, fun V h => by go_simp⟩) hHeld ?_
              try simp only [Act.put, List.getElem_toArray, List.getElem_cons_succ, List.getElem_cons_zero, List.setIfInBounds_toArray, List.set_cons_zero, List.set_cons_succ]
              refine wpAnyH_take (i := 29) (v := .bool false) rfl (by kernel_rfl) (by kernel_rfl) (by kernel_rfl) (fun _ _ _ h => h) (Or.inl ⟨by rfl, fun V h => by go_simp⟩) hHeld ?_
              try simp only [Act.put, List.getElem_toArray, List.getElem_cons_succ, List.getElem_cons_zero, List.setIfInBounds_toArray, List.set_cons_zero, List.set_cons_succ]
              refine wpAnyH_done (by kernel_rfl) ?_ _
              clear hHeld
              go_wp2_with fail
              all_goals exact ⟨⟨i + 1, s + 1, X, by omega, by omega, by go_num, by go_num, HAN.out, P8.out.next YB.out, Q8.out.next YB.out, B8.out.next YB.out, T8.out.next YB.out, bw_trans G8.out YB.out⟩, by simp [intOf]; omega⟩
      · obtain rfl : i = N := by omega
        have hge : ¬ ((i : Int) < (i : Int)) := by omega
        have h6 := HA.out.six (by have := HN.out; omega)
        have hs6 : ¬ ((s : Int) > 6) := by omega
        have hmx : ¬ (q.txCount > max 6 p.txCount) := by have := h6.2; omega
        have c1 := HQ.out.c_txCount
        have c2 := HP.out.c_txCount
        have hn20 := HN20.out
        clear hsend h6
        go_upto_region 20 with (fail)
        go_cut [125] (fun u wx => u = .bool false ∧ wx = wr)
        case first =>
          go_wp2_with fail
          all_goals first
            | (go_meet; exact ⟨rfl, rfl⟩)
            | (go_meet; refine ⟨congrArg Value.bool ?_, rfl⟩; simp; omega)
            | (exfalso; omega)
        case rest =>
        obtain ⟨rfl, e⟩ := hcut
        rw [e]
        clear e c1 c2 hmx
        by_cases hs0 : s = 0
        · subst hs0
          clear hsend2
          go_wp2_with fail
          all_goals first
            | (go_ret; exact ⟨rfl, HG.out⟩)
            | (exfalso; omega)
        · have hag := HA.out.again (by omega)
          have HAG := Lib.hid hag
          have CS2 := Lib.hid (fun w' (hT : TRoles w') => hsend2.out q s HA.out w' hT)
          rw [hag] at CS2
          have hz : ¬ ((s : Int) = 0) := by omega
          clear hsend2 hag
          obtain ⟨X, hX⟩ : ∃ X, (sendP t (newP1 (tick6 q))).1 = X := ⟨_, rfl⟩
          obtain ⟨M, hM⟩ : ∃ M, (sendP t (newP1 (tick6 q))).2.1 = M := ⟨_, rfl⟩
          rw [hX, hM] at CS2
          clear hX hM
          go_wp2_with fail
          go_loopw [14] (fun u14 wx => S6Inv q qb bb br t w u14 wx) (fun u14 _ => 6 - (intOf u14).toNat)
          case atStart => exact ⟨0, by omega, rfl, HQ.out, HB.out, HTT.out, HG.out⟩
          case round =>
            obtain ⟨j, hj, rfl, hQ, hB, hTT, hG⟩ := hrel
            have HQ := Lib.hid hQ
            have HB := Lib.hid hB
            have HTT := Lib.hid hTT
            have HG := Lib.hid hG
            clear hQ hB hTT hG
            by_cases hj6 : j < 6
            · have hlt : (j : Int) < 6 := by omega
              obtain ⟨qj, hqj⟩ : ∃ x, (Nat.rec q (fun _ x => tickP x) j : Pt) = x := ⟨_, rfl⟩
              rw [hqj] at HQ
              have HQ1 := Lib.hid hqj
              have CTk := Lib.hid (fun w' => tick10_w qj w' (tkok_of (hqj ▸ ticks_tk (HA.out.tk HTk.out) j)))
              clear hqj CS2
              go_upto_region 26 with (first
                | (with_reducible refine wpList_pt rfl _ rfl qb rfl qj HQ.out ?_)
                | (go_at_call 10; (with_reducible refine (CTk.out _).mono ?_); rintro e w9 ⟨rfl, hb9⟩)
                | (refine wpList_ptst rfl _ _ rfl qb rfl (tickP qj) qj rfl (HQ.out.next hb9) ?_))
              have Q9 := Lib.hid (HQ.out.next hb9)
              have B9 := Lib.hid (HB.out.next hb9)
              have T9 := Lib.hid (HTT.out.next hb9)
              have G9 := Lib.hid (bw_trans HG.out hb9)
              clear hb9
              go_wp2_with fail
              exact ⟨⟨j + 1, by omega, by go_num, by show PtBlk 30 _ qb (tickP (Nat.rec q (fun _ x => tickP x) j)); rw [HQ1.out]; exact Q9.out.row (tickP qj), (setRow_other _ _ _ _ (Nat.ne_of_lt HBQ.out)).trans B9.out, T9.out.below (below_row (Below.refl 1 _) (by have := HBQ.out; omega) _) Nat.one_pos, below_row G9.out HWQ.out _⟩, by simp [intOf]; omega⟩
            · obtain rfl : j = 6 := by omega
              have HQ6 := Lib.hid (show PtBlk 30 _ qb (tick6 q) from HQ.out)
              have c0 := HQ6.out.c_newInfo
              have f0 := HQ6.out.free 39
              obtain ⟨U1, hU1⟩ : ∃ U, wr.setCell ⟨qb, 39, none⟩ (.bool true) = U := ⟨_, rfl⟩
              have hne2 : bb ≠ qb := Nat.ne_of_lt HBQ.out
              have Q1 := Lib.hid (show PtBlk 30 U1 qb (newP1 (tick6 q)) by rw [← hU1]; exact HQ6.out.s_newInfo true)
              have B1 := Lib.hid (show BrBlk U1 bb br t.age t.max t.hello t.delay by rw [← hU1]; exact (Below.heap_setCell wr ⟨qb, 39, none⟩ _ bb hne2).trans HB.out)
              have T1 := Lib.hid (show TRoles U1 by rw [← hU1]; exact HTT.out.below ((Below.refl 1 wr).setCell (p := ⟨qb, 39, none⟩) (by show 1 ≤ qb; have := HBQ.out; omega) _) Nat.one_pos)
              have G1 := Lib.hid (show Below w.heap.size w U1 by rw [← hU1]; exact HG.out.setCell (p := ⟨qb, 39, none⟩) HWQ.out _)
              have HU1 := Lib.hid hU1
              have CS := Lib.hid (CS2.out U1 T1.out)
              clear hU1 hne2 CS2 HQ6 HQ HB HTT HG
              unfold brv at CS
              go_upto_region 29 with (fail)
              refine wp_to (W := U1) (by exact HU1.out.symm) ?_
              obtain ⟨k0, k1, k2, k3, k4⟩ := B1.out.cells
              clear HU1 f0 c0
              go_wp2_with (first
                | (with_reducible refine wpList_pt rfl _ rfl qb rfl (newP1 (tick6 q)) Q1.out ?_)
                | (go_at_call 7; (with_reducible refine CS.out.mono ?_); rintro e w6 ⟨rfl, hb6⟩; have HB6 := Lib.hid (bw_trans G1.out hb6); clear hb6 k0 k1 k2 k3 k4)
                | (refine wpList_ptst rfl _ _ rfl w6.heap.size rfl X zeroP rfl ((ptblk_new _ w6 zeroP).next (below_box _ _)) ?_)
                | (refine wpList_bpst rfl _ _ rfl (w6.heap.size + 1) rfl M zeroM rfl (bzero6 w6 X) ?_))
              go_ret
              exact ⟨rfl, below_row (below_row (bw_alloc (bw_alloc HB6.out _) _) HB6.out.size _) (Nat.le_succ_of_le HB6.out.size) _⟩
end Go.Proofs.YtngdilmgbgdkcaaDoor
