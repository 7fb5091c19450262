/-
  The laws of layer 9: MismatchEnds.
-/
import Derived.Test.YtanciemiinbgmaaMiT
namespace Go.Proofs.Ytanciemiinbgmaa
set_option linter.unusedVariables false
set_option linter.unusedSimpArgs false
open Go.RowKit Go.Maps Pm Mm

theorem hear_zero {g : Gd} {r d t : Int} (h : (hearG g r d t).2 = 0) : vlanB r = true ∧ vlanB d = true := by
  have k := hear_is g r d t
  rw [h] at k
  obtain ⟨G, hG⟩ : ∃ G, (hearG g r d t).1 = G := ⟨_, rfl⟩
  rw [hG] at k
  cases k with
  | same h1 h2 h3 h4 h5 h6 => exact ⟨h1, h2⟩
  | more h1 h2 h3 h4 h5 => exact ⟨h1, h2⟩

set_option maxRecDepth 20000 in
set_option maxHeartbeats 4000000 in
theorem ends_bad (t : Bool) (n : Int) (a : Option Addr) (len cap : Nat) (l : List Int) (hello r d now wait : Int) (w : World) (hrow : IsRow w a len l) (hbad : ¬ (len ≤ 40 ∧ portB ⟨t, n, l⟩ = true ∧ 1 ≤ hello ∧ hello ≤ 10 ∧ 0 ≤ now ∧ now ≤ 549755813888 ∧ 0 ≤ wait ∧ wait ≤ 100)) :
    Calls Try.prog 4 #[pv t n a len cap, .int .i64 hello, .int .i64 r, .int .i64 d, .int .i64 now, .int .i64 wait] w fun e w' => e = .returned (.bool true) ∧ Below w.heap.size w w' := by
  have hbd := hrow.bound
  unfold maxLen at hbd
  have PB := pblk_new 24 w t n a len cap
  have BB := below_box w (.cells #[.bool t, .int .i64 n, .slice a len cap] 24)
  obtain ⟨W, hW⟩ : ∃ W, W = w.alloc (.cells #[.bool t, .int .i64 n, .slice a len cap] 24) := ⟨_, rfl⟩
  obtain ⟨pb, hpb⟩ : ∃ pb, pb = w.heap.size := ⟨_, rfl⟩
  rw [← hW] at PB BB
  rw [← hpb] at PB
  have HW := Lib.hid hW
  have HP := Lib.hid hpb
  have P0 := Lib.hid PB
  have B0 := Lib.hid BB
  have HA := Lib.hid (awake_w W)
  have hRow := Lib.hid (hrow.next BB)
  clear PB BB hW hpb
  by_cases h40 : len ≤ 40
  · have hd1 : decide ((len : Int) > 40) = false := by simp; omega
    cases hp : portB ⟨t, n, l⟩ with
    | false =>
      go_enter Try.func4, Try.ntmps4
      go_wp2_with fail
      rw [← HW.out, ← HP.out]
      (with_reducible refine (HA.out).mono ?_)
      rintro e w1 ⟨rfl, hb1⟩
      have P1 := P0.out.next hb1
      have hpl := P1.lt
      obtain ⟨k0, k1, k2⟩ := P1.cells
      have hR := portRight_any t n a len cap l w1 (hRow.out.next hb1)
      rw [hp] at hR
      go_wp2_with (go_at_call 18; refine hR.mono ?_; rintro e w2 ⟨rfl, hb2⟩)
      all_goals first | (exfalso; omega) | skip
      all_goals go_ret
      all_goals exact ⟨rfl, bw_trans (bw_trans B0.out hb1) hb2⟩
    | true =>
      have hbad2 : ¬ (1 ≤ hello ∧ hello ≤ 10 ∧ 0 ≤ now ∧ now ≤ 549755813888 ∧ 0 ≤ wait ∧ wait ≤ 100) := fun h => hbad ⟨h40, hp, h⟩
      go_enter Try.func4, Try.ntmps4
      go_wp2_with fail
      rw [← HW.out, ← HP.out]
      (with_reducible refine (HA.out).mono ?_)
      rintro e w1 ⟨rfl, hb1⟩
      have P1 := P0.out.next hb1
      have hpl := P1.lt
      obtain ⟨k0, k1, k2⟩ := P1.cells
      have hR := portRight_any t n a len cap l w1 (hRow.out.next hb1)
      rw [hp] at hR
      go_wp2_with (go_at_call 18; refine hR.mono ?_; rintro e w2 ⟨rfl, hb2⟩; clear k0 k1 k2)
      all_goals first | (exfalso; omega) | skip
      all_goals go_ret
      all_goals exact ⟨rfl, bw_trans (bw_trans B0.out hb1) hb2⟩
  · have hd1 : decide ((len : Int) > 40) = true := by simp; omega
    go_enter Try.func4, Try.ntmps4
    go_wp2_with fail
    rw [← HW.out, ← HP.out]
    (with_reducible refine (HA.out).mono ?_)
    rintro e w1 ⟨rfl, hb1⟩
    have P1 := P0.out.next hb1
    have hpl := P1.lt
    obtain ⟨k0, k1, k2⟩ := P1.cells
    have hR := portRight_any t n a len cap l w1 (hRow.out.next hb1)
    go_wp2
    all_goals first | (exfalso; omega) | skip
    go_ret
    exact ⟨rfl, bw_trans B0.out hb1⟩

/-- Behind the ticks ahead of u. -/
def EInv (W : World) (G : Gd) (b mb : Nat) (a' : Option Addr) (len cap' : Nat) (now wait : Int) (i : Value) (wr : World) : Prop :=
  ∃ u v0 : Int, i = .int .i64 u ∧ now ≤ u ∧ u ≤ now + wait + 1 ∧ v0 ≤ u ∧ IsG wr b mb a' len cap' { G with now := v0 } ∧ Below W.heap.size W wr

set_option maxRecDepth 20000 in
set_option maxHeartbeats 4000000 in
theorem ends_good (t : Bool) (n : Int) (a : Option Addr) (len cap : Nat) (l : List Int) (hello r d now wait : Int) (w : World) (hrow : IsRow w a len l) (hok : len ≤ 40 ∧ portB ⟨t, n, l⟩ = true ∧ 1 ≤ hello ∧ hello ≤ 10 ∧ 0 ≤ now ∧ now ≤ 549755813888 ∧ 0 ≤ wait ∧ wait ≤ 100) :
    Calls Try.prog 4 #[pv t n a len cap, .int .i64 hello, .int .i64 r, .int .i64 d, .int .i64 now, .int .i64 wait] w fun e w' => e = .returned (.bool true) ∧ Below w.heap.size w w' := by
  obtain ⟨h40, hp, h1, h2, h3, h4, h5, h6⟩ := hok
  have hbd := hrow.bound
  unfold maxLen at hbd
  have PB := pblk_new 24 w t n a len cap
  have BB := below_box w (.cells #[.bool t, .int .i64 n, .slice a len cap] 24)
  obtain ⟨W, hW⟩ : ∃ W, W = w.alloc (.cells #[.bool t, .int .i64 n, .slice a len cap] 24) := ⟨_, rfl⟩
  obtain ⟨pb, hpb⟩ : ∃ pb, pb = w.heap.size := ⟨_, rfl⟩
  rw [← hW] at PB BB
  rw [← hpb] at PB
  have HW := Lib.hid hW
  have HP := Lib.hid hpb
  have P0 := Lib.hid PB
  have B0 := Lib.hid BB
  have HA := Lib.hid (awake_w W)
  have hRow := Lib.hid (hrow.next BB)
  clear PB BB hW hpb
  have hd1 : decide ((len : Int) > 40) = false := by simp; omega
  have hd2 : decide (hello < 1) = false := decide_eq_false (by omega)
  have hd3 : decide (hello > 10) = false := decide_eq_false (by omega)
  have hd4 : decide (now < 0) = false := decide_eq_false (by omega)
  have hd5 : decide (now > 549755813888) = false := decide_eq_false (by omega)
  have hd6 : decide (wait < 0) = false := decide_eq_false (by omega)
  have hd7 : decide (wait > 100) = false := decide_eq_false (by omega)
  go_enter Try.func4, Try.ntmps4
  go_wp2_with fail
  rw [← HW.out, ← HP.out]
  (with_reducible refine (HA.out).mono ?_)
  rintro e w1 ⟨rfl, hb1⟩
  have P1 := P0.out.next hb1
  have hpl := P1.lt
  obtain ⟨k0, k1, k2⟩ := P1.cells
  have hR := portRight_any t n a len cap l w1 (hRow.out.next hb1)
  rw [hp] at hR
  have hp0 := Lib.hid hp
  clear hp
  go_wp2_with (first
    | (go_at_call 18; refine hR.mono ?_; clear hR; rintro e w2 ⟨rfl, hb2⟩; clear k0 k1 k2; have P2 := Lib.hid (P1.next hb2); have hpl2 := P2.out.lt; obtain ⟨k0, k1, k2⟩ := P2.out.cells)
    | fail)
  all_goals first | (exfalso; omega) | skip
  have BW2 := Lib.hid (bw_trans hb1 hb2)
  have hr2 := hRow.out.next BW2.out
  (with_reducible refine (new_w t n a len cap l hello w2 hr2 hp0.out h1 h2).mono ?_); rintro e w3 ⟨b, mb, a', cap', rfl, hg3, hb0, hm0, ha0, hb3⟩
  have hsz2 := BW2.out.size
  have HB := Lib.hid (show W.heap.size ≤ b ∧ W.heap.size ≤ mb from ⟨by omega, by omega⟩)
  have HG3 := Lib.hid hg3
  have LW3 := Lib.hid (bw_trans BW2.out hb3)
  obtain ⟨E, hE⟩ : ∃ E, (hearG (newG ⟨t, n, l⟩ hello) r d now).2 = E := ⟨_, rfl⟩
  obtain ⟨G, hG⟩ : ∃ G, (hearG (newG ⟨t, n, l⟩ hello) r d now).1 = G := ⟨_, rfl⟩
  have hHe := hear_w b mb a' len cap' (newG ⟨t, n, l⟩ hello) r d now w3 HG3.out (Nat.zero_le _)
  rw [hE, hG] at hHe
  have HHe := Lib.hid hHe
  have htn : timeB now = true := decide_eq_true (by omega)
  have HTn := Lib.hid htn
  clear hg3 hb0 hm0 ha0 hb3 hr2 hHe hb1 hb2 P1 hpl k0 k1 k2 hpl2 P2 BW2 htn hsz2
  go_wp2_with fail
  (with_reducible refine (HHe.out).mono ?_); rintro e w4 ⟨rfl, hg4, hk4⟩
  have LW4 := Lib.hid (hk4.below LW3.out HB.out.1 HB.out.2 LW3.out.size)
  have HG4 := Lib.hid hg4
  clear hg4 hk4 HHe LW3 HG3
  by_cases hE0 : E = 0
  · subst hE0
    obtain ⟨hvr, hvd⟩ := hear_zero hE
    have hO := once_is hE
    rw [hG] at hO
    have HO := Lib.hid hO
    have hir := vlan_i64 hvr
    have hid := vlan_i64 hvd
    obtain ⟨B, hB⟩ : ∃ B, blocksB ⟨t, n, l⟩ r d = B := ⟨_, rfl⟩
    have HBl := Lib.hid hB
    have HGn := Lib.hid hO.now
    have HGm := Lib.hid hO.many
    clear hO hE hG hB hvr hvd
    obtain ⟨k0, k1, k2⟩ := (P0.out.next LW4.out).cells
    go_upto_region 11 with (fail)
    go_cut [16] (fun v wx => v = .bool B ∧ wx = w4)
    case first =>
      have hBt : (!t || (r != d)) = B := by
        rw [← HBl.out]
        unfold blocksB
        cases t <;> simp
        by_cases e : r = d <;> simp [e]
      cases t with
      | false =>
        go_wp2
        go_meet
        all_goals exact ⟨congrArg Value.bool hBt, rfl⟩
      | true =>
        by_cases e : r = d
        · have e2 : (r != d) = false := by simp [e]
          rw [e2] at hBt
          go_wp2
          all_goals go_meet
          all_goals exact ⟨congrArg Value.bool hBt, rfl⟩
        · have e2 : (r != d) = true := by simp [e]
          rw [e2] at hBt
          go_wp2
          all_goals go_meet
          all_goals exact ⟨congrArg Value.bool hBt, rfl⟩
    case rest =>
    obtain ⟨rfl, rfl⟩ := hcut
    clear k0 k1 k2
    go_wp2_with fail
    go_loopw [17] (fun i wr => EInv W G b mb a' len cap' now wait i wr) (fun i _ => (now + wait + 1 - intOf i).toNat)
    case atStart => exact ⟨now, G.now, rfl, Int.le_refl _, by omega, Int.le_of_eq HGn.out, HG4.out, LW4.out⟩
    case round =>
      clear HG4 LW4
      obtain ⟨u, v0, rfl, hu1, hu2, hv0, hI, hL⟩ := hrel
      have HI := Lib.hid hI
      have HL := Lib.hid hL
      clear hI hL
      by_cases hle : u ≤ now + wait
      · have htu : timeB u = true := decide_eq_true (by omega)
        obtain ⟨Q, hQ⟩ : ∃ Q, wantB ⟨t, n, l⟩ hello r d now u = Q := ⟨_, rfl⟩
        obtain ⟨GU, hGU⟩ : ∃ GU, GU = ({ G with now := u } : Gd) := ⟨_, rfl⟩
        have e1 : atG { G with now := v0 } u = GU := by rw [hGU]; exact at_eq htu hv0
        have e2 : atG GU u = GU := by rw [hGU]; exact at_eq htu (Int.le_refl _)
        have f1 : blockedG GU r = Q := by rw [hGU, ← hQ]; exact once_received HO.out u
        have f2 : t = true → blockedG GU d = (Q && hasB ⟨t, n, l⟩ d) := fun ht => by rw [hGU, ← hQ]; exact once_told HO.out ht u
        have hok0 := at_ok HI.out.ok u
        rw [e1] at hok0
        have f3 : decide (0 < (listG GU).length) = Q := by
          rw [← hQ]
          have := once_list HO.out (u := u) (hGU ▸ hok0)
          rw [← hGU] at this
          exact this
        have hBl := blocked_w b mb a' len cap' _ r u wr HI.out hir
        rw [e1, htu, f1] at hBl
        have HBlk := Lib.hid hBl
        have hmany : GU.many ≤ 1000 := by
          rw [hGU]
          show G.many ≤ 1000
          rw [HGm.out]; split <;> omega
        have HLi := Lib.hid (fun z (hz : IsG z b mb a' len cap' GU) => e2 ▸ list_w b mb a' len cap' GU u z hz htu hmany)
        have HBd := Lib.hid (fun z (hz : IsG z b mb a' len cap' GU) => e2 ▸ blocked_w b mb a' len cap' GU d u z hz hid)
        have HQ := Lib.hid (show (B && decide (u < now + 3 * hello)) = Q by rw [← hQ, ← HBl.out]; rfl)
        have F2 := Lib.hid f2
        have F3 := Lib.hid f3
        have HTu := Lib.hid htu
        have HGU := Lib.hid hGU
        clear htu hQ hGU e1 e2 f1 f2 f3 hok0 hBl
        go_upto_region 15 with (fail)
        go_cut [18] (fun v wx => v = .bool Q ∧ wx = wr)
        case first =>
          have hq := HQ.out
          cases B with
          | false =>
            go_wp2
            all_goals go_meet
            all_goals exact ⟨congrArg Value.bool (by simpa using hq), rfl⟩
          | true =>
            by_cases hlt : u < now + 3 * hello
            · have hdl : decide (u < now + 3 * hello) = true := decide_eq_true hlt
              rw [hdl] at hq
              go_wp2
              all_goals go_meet
              all_goals exact ⟨congrArg Value.bool (by simpa using hq), rfl⟩
            · have hdl : decide (u < now + 3 * hello) = false := decide_eq_false hlt
              rw [hdl] at hq
              go_wp2
              all_goals go_meet
              all_goals exact ⟨congrArg Value.bool (by simpa using hq), rfl⟩
        case rest =>
        obtain ⟨rfl, rfl⟩ := hcut
        clear HQ
        cases t with
        | false =>
          cases Q with
          | false =>
            have hzero : (listG GU).length = 0 := by have := of_decide_eq_false F3.out; omega
            clear F3
            go_wp2_with fail
            (with_reducible refine (HBlk.out).mono ?_)
            rintro e w5 ⟨rfl, hi5, hk5⟩
            have L5 := Lib.hid (hk5.below HL.out HB.out.1 HB.out.2 HL.out.size)
            have I5 := Lib.hid hi5
            clear hi5 hk5 HBlk HI HL
            go_wp2_with fail
            (with_reducible refine (HLi.out w5 I5.out).mono ?_)
            rintro e w6 ⟨ra, rc, rfl, hr6, hi6, hk6⟩
            have L6 := Lib.hid (hk6.below L5.out HB.out.1 HB.out.2 L5.out.size)
            have I6 := Lib.hid hi6
            obtain ⟨k0, k1, k2⟩ := (P0.out.next L6.out).cells
            clear hr6 hi6 hk6 HLi I5 L5
            go_wp2_with fail
            all_goals first | (exfalso; omega) | skip
            exact ⟨⟨u + 1, u, rfl, by omega, by omega, by omega, HGU.out ▸ I6.out, L6.out⟩, by simp [intOf]; omega⟩
          | true =>
            have hpos : 0 < (listG GU).length := of_decide_eq_true F3.out
            clear F3
            go_wp2_with fail
            (with_reducible refine (HBlk.out).mono ?_)
            rintro e w5 ⟨rfl, hi5, hk5⟩
            have L5 := Lib.hid (hk5.below HL.out HB.out.1 HB.out.2 HL.out.size)
            have I5 := Lib.hid hi5
            clear hi5 hk5 HBlk HI HL
            go_wp2_with fail
            (with_reducible refine (HLi.out w5 I5.out).mono ?_)
            rintro e w6 ⟨ra, rc, rfl, hr6, hi6, hk6⟩
            have L6 := Lib.hid (hk6.below L5.out HB.out.1 HB.out.2 L5.out.size)
            have I6 := Lib.hid hi6
            obtain ⟨k0, k1, k2⟩ := (P0.out.next L6.out).cells
            clear hr6 hi6 hk6 HLi I5 L5
            go_wp2_with fail
            all_goals first | (exfalso; omega) | skip
            exact ⟨⟨u + 1, u, rfl, by omega, by omega, by omega, HGU.out ▸ I6.out, L6.out⟩, by simp [intOf]; omega⟩
        | true =>
          cases Q with
          | false =>
            have hzero : (listG GU).length = 0 := by have := of_decide_eq_false F3.out; omega
            clear F3
            go_wp2_with fail
            (with_reducible refine (HBlk.out).mono ?_)
            rintro e w5 ⟨rfl, hi5, hk5⟩
            have L5 := Lib.hid (hk5.below HL.out HB.out.1 HB.out.2 HL.out.size)
            have I5 := Lib.hid hi5
            clear hi5 hk5 HBlk HI HL
            go_wp2_with fail
            (with_reducible refine (HLi.out w5 I5.out).mono ?_)
            rintro e w6 ⟨ra, rc, rfl, hr6, hi6, hk6⟩
            have L6 := Lib.hid (hk6.below L5.out HB.out.1 HB.out.2 L5.out.size)
            have I6 := Lib.hid hi6
            obtain ⟨k0, k1, k2⟩ := (P0.out.next L6.out).cells
            clear hr6 hi6 hk6 HLi I5 L5
            have hBd := HBd.out w6 I6.out
            rw [HTu.out, F2.out (by first | trivial | rfl)] at hBd
            obtain ⟨Hb, hHb⟩ : ∃ Hb, hasB ⟨true, n, l⟩ d = Hb := ⟨_, rfl⟩
            rw [hHb] at hBd
            have HBd2 := Lib.hid hBd
            have HHb := Lib.hid hHb
            clear hBd HBd F2 hHb
            go_wp2_with fail
            all_goals first | (exfalso; omega) | skip
            (with_reducible refine (HBd2.out).mono ?_)
            rintro e w7 ⟨rfl, hi7, hk7⟩
            have L7 := Lib.hid (hk7.below L6.out HB.out.1 HB.out.2 L6.out.size)
            have I7 := Lib.hid hi7
            clear k0 k1 k2 hi7 hk7 HBd2 I6 L6
            obtain ⟨k0, k1, k2⟩ := (P0.out.next L7.out).cells
            go_wp2_with fail
            all_goals first | (exfalso; omega) | skip
            exact ⟨⟨u + 1, u, rfl, by omega, by omega, by omega, HGU.out ▸ I7.out, L7.out⟩, by simp [intOf]; omega⟩
          | true =>
            have hpos : 0 < (listG GU).length := of_decide_eq_true F3.out
            clear F3
            go_wp2_with fail
            (with_reducible refine (HBlk.out).mono ?_)
            rintro e w5 ⟨rfl, hi5, hk5⟩
            have L5 := Lib.hid (hk5.below HL.out HB.out.1 HB.out.2 HL.out.size)
            have I5 := Lib.hid hi5
            clear hi5 hk5 HBlk HI HL
            go_wp2_with fail
            (with_reducible refine (HLi.out w5 I5.out).mono ?_)
            rintro e w6 ⟨ra, rc, rfl, hr6, hi6, hk6⟩
            have L6 := Lib.hid (hk6.below L5.out HB.out.1 HB.out.2 L5.out.size)
            have I6 := Lib.hid hi6
            obtain ⟨k0, k1, k2⟩ := (P0.out.next L6.out).cells
            clear hr6 hi6 hk6 HLi I5 L5
            have hBd := HBd.out w6 I6.out
            rw [HTu.out, F2.out (by first | trivial | rfl)] at hBd
            obtain ⟨Hb, hHb⟩ : ∃ Hb, hasB ⟨true, n, l⟩ d = Hb := ⟨_, rfl⟩
            rw [hHb] at hBd
            have HBd2 := Lib.hid hBd
            have HHb := Lib.hid hHb
            clear hBd HBd F2 hHb
            go_wp2_with fail
            all_goals first | (exfalso; omega) | skip
            (with_reducible refine (HBd2.out).mono ?_)
            rintro e w7 ⟨rfl, hi7, hk7⟩
            have L7 := Lib.hid (hk7.below L6.out HB.out.1 HB.out.2 L6.out.size)
            have I7 := Lib.hid hi7
            clear k0 k1 k2 hi7 hk7 HBd2 I6 L6
            obtain ⟨k0, k1, k2⟩ := (P0.out.next L7.out).cells
            have hHas := has_any true n a len cap l d w7 (hRow.out.next L7.out)
            rw [HHb.out] at hHas
            go_wp2_with (go_at_call 19; refine hHas.mono ?_; rintro e w8 ⟨rfl, hb8⟩)
            all_goals first | (exfalso; omega) | skip
            have I8 := Lib.hid (I7.out.next hb8)
            have L8 := Lib.hid (bw_trans L7.out hb8)
            exact ⟨⟨u + 1, u, rfl, by omega, by omega, by omega, HGU.out ▸ I8.out, L8.out⟩, by simp [intOf]; omega⟩
      · obtain rfl : u = now + wait + 1 := by omega
        have hHd := heard_w b mb a' len cap' _ wr HI.out
        have hm : (({ G with now := v0 } : Gd).many : Int) = if B then 1 else 0 := by
          show (G.many : Int) = _
          rw [HGm.out, HBl.out]
          cases B <;> rfl
        rw [hm] at hHd
        have HHd := Lib.hid hHd
        clear hHd hm
        cases B with
        | false =>
          go_wp2_with (go_at_call 17; refine (HHd.out).mono ?_; rintro e w' ⟨rfl, rfl⟩)
          all_goals first | (exfalso; omega) | skip
          go_ret
          exact ⟨rfl, bw_trans B0.out HL.out⟩
        | true =>
          go_wp2_with (go_at_call 17; refine (HHd.out).mono ?_; rintro e w' ⟨rfl, rfl⟩)
          all_goals first | (exfalso; omega) | skip
          go_ret
          exact ⟨rfl, bw_trans B0.out HL.out⟩
  · have hN : G = newG ⟨t, n, l⟩ hello := by rw [← hG]; exact refused_none (by rw [hE]; exact hE0)
    subst hN
    have hne : (E != 0) = true := by simp [hE0]
    have hLi := list_w b mb a' len cap' (newG ⟨t, n, l⟩ hello) now w4 HG4.out HTn.out (Nat.zero_le _)
    have hz : listG (atG (newG ⟨t, n, l⟩ hello) now) = [] := (list_empty (at_ok HG4.out.ok now)).2 fun v => blocked_nil (by rw [at_l]; rfl) v
    rw [hz] at hLi
    have HLi := Lib.hid hLi
    have HNm := Lib.hid (show (atG (newG ⟨t, n, l⟩ hello) now).many = 0 by rw [at_many]; rfl)
    clear hLi hz hG hE
    go_wp2_with (first
      | (go_at_call 13; with_reducible refine (HLi.out).mono ?_; rintro e w5 ⟨ra, rc, rfl, hr5, hi5, hk5⟩; have L5 := Lib.hid (hk5.below LW4.out HB.out.1 HB.out.2 LW4.out.size); have hHd := heard_w b mb a' len cap' _ w5 hi5; rw [HNm.out] at hHd; have HHd := Lib.hid hHd; clear hr5 hi5 hk5 hHd)
      | (go_at_call 17; refine (HHd.out).mono ?_; rintro e w' ⟨rfl, rfl⟩))
    all_goals first | (exfalso; omega) | skip
    go_ret
    exact ⟨rfl, bw_trans B0.out L5.out⟩

theorem ends_any (t : Bool) (n : Int) (a : Option Addr) (len cap : Nat) (l : List Int) (hello r d now wait : Int) (w : World) (hrow : IsRow w a len l) :
    Calls Try.prog 4 #[pv t n a len cap, .int .i64 hello, .int .i64 r, .int .i64 d, .int .i64 now, .int .i64 wait] w fun e w' => e = .returned (.bool true) ∧ Below w.heap.size w w' := by
  by_cases hok : len ≤ 40 ∧ portB ⟨t, n, l⟩ = true ∧ 1 ≤ hello ∧ hello ≤ 10 ∧ 0 ≤ now ∧ now ≤ 549755813888 ∧ 0 ≤ wait ∧ wait ≤ 100
  · exact ends_good t n a len cap l hello r d now wait w hrow hok
  · exact ends_bad t n a len cap l hello r d now wait w hrow hok
end Go.Proofs.Ytanciemiinbgmaa
