/-
  The laws of layer 9: MismatchPlays.
-/
import Derived.Test.YtanciemiinbgmaaMiT
namespace Go.Proofs.Ytanciemiinbgmaa
set_option linter.unusedVariables false
set_option linter.unusedSimpArgs false
open Go.RowKit Go.Maps Pm Mm

set_option maxRecDepth 20000 in
set_option maxHeartbeats 4000000 in
theorem plays_many (t : Bool) (n : Int) (a : Option Addr) (len cap : Nat) (l : List Int) (hello : Int) (ad : Option Addr) (acap : Nat) (acts : List Ac) (w : World) (hrow : IsRow w a len l) (hfew : ¬ (len ≤ 40 ∧ acts.length ≤ 60)) :
    Calls Try.prog 3 #[pv t n a len cap, .int .i64 hello, .slice ad acts.length acap] w fun e w' => e = .returned (.bool true) ∧ Below w.heap.size w w' := by
  have hbd := hrow.bound
  unfold maxLen at hbd
  have PB := pblk_new 24 w t n a len cap
  have BB := below_box w (.cells #[.bool t, .int .i64 n, .slice a len cap] 24)
  obtain ⟨W, hW⟩ : ∃ W, W = w.alloc (.cells #[.bool t, .int .i64 n, .slice a len cap] 24) := ⟨_, rfl⟩
  obtain ⟨pb, hpb⟩ : ∃ pb, pb = w.heap.size := ⟨_, rfl⟩
  rw [← hW] at PB BB
  rw [← hpb] at PB
  have HW := Lib.hid hW
  have HP := Lib.hid hpb
  have P0 := Lib.hid PB
  have B0 := Lib.hid BB
  have HA := Lib.hid (awake_w W)
  clear PB BB hW hpb
  by_cases h40 : len ≤ 40
  · have hd1 : decide ((len : Int) > 40) = false := by simp; omega
    have hd2 : decide ((acts.length : Int) > 60) = true := by simp; omega
    go_enter Try.func3, Try.ntmps3
    go_wp2_with fail
    rw [← HW.out, ← HP.out]
    (with_reducible refine (HA.out).mono ?_)
    rintro e w1 ⟨rfl, hb1⟩
    have P1 := P0.out.next hb1
    have hpl := P1.lt
    obtain ⟨k0, k1, k2⟩ := P1.cells
    go_wp2
    all_goals first | (exfalso; omega) | skip
    go_ret
    exact ⟨rfl, bw_trans B0.out hb1⟩
  · have hd1 : decide ((len : Int) > 40) = true := by simp; omega
    go_enter Try.func3, Try.ntmps3
    go_wp2_with fail
    rw [← HW.out, ← HP.out]
    (with_reducible refine (HA.out).mono ?_)
    rintro e w1 ⟨rfl, hb1⟩
    have P1 := P0.out.next hb1
    have hpl := P1.lt
    obtain ⟨k0, k1, k2⟩ := P1.cells
    go_wp2
    all_goals first | (exfalso; omega) | skip
    go_ret
    exact ⟨rfl, bw_trans B0.out hb1⟩

set_option maxRecDepth 20000 in
set_option maxHeartbeats 4000000 in
theorem plays_form (t : Bool) (n : Int) (a : Option Addr) (len cap : Nat) (l : List Int) (hello : Int) (ad : Option Addr) (acap : Nat) (acts : List Ac) (w : World) (hrow : IsRow w a len l) (hfew : len ≤ 40 ∧ acts.length ≤ 60) (hp : portB ⟨t, n, l⟩ = false) :
    Calls Try.prog 3 #[pv t n a len cap, .int .i64 hello, .slice ad acts.length acap] w fun e w' => e = .returned (.bool true) ∧ Below w.heap.size w w' := by
  have hbd := hrow.bound
  unfold maxLen at hbd
  have PB := pblk_new 24 w t n a len cap
  have BB := below_box w (.cells #[.bool t, .int .i64 n, .slice a len cap] 24)
  obtain ⟨W, hW⟩ : ∃ W, W = w.alloc (.cells #[.bool t, .int .i64 n, .slice a len cap] 24) := ⟨_, rfl⟩
  obtain ⟨pb, hpb⟩ : ∃ pb, pb = w.heap.size := ⟨_, rfl⟩
  rw [← hW] at PB BB
  rw [← hpb] at PB
  have HW := Lib.hid hW
  have HP := Lib.hid hpb
  have P0 := Lib.hid PB
  have B0 := Lib.hid BB
  have HA := Lib.hid (awake_w W)
  clear PB BB hW hpb
  have hd1 : decide ((len : Int) > 40) = false := by simp; omega
  have hd2 : decide ((acts.length : Int) > 60) = false := by simp; omega
  go_enter Try.func3, Try.ntmps3
  go_wp2_with fail
  rw [← HW.out, ← HP.out]
  (with_reducible refine (HA.out).mono ?_)
  rintro e w1 ⟨rfl, hb1⟩
  have P1 := P0.out.next hb1
  have hpl := P1.lt
  obtain ⟨k0, k1, k2⟩ := P1.cells
  go_wp2_with fail
  obtain ⟨V, hV⟩ : ∃ V, V = w1.alloc (.cells #[.bool t, .int .i64 n, .slice a len cap, .int .i64 hello, .int .i64 0, .slice none 0 0, .int .i64 0, .int .i64 0, .int .i64 0] 30) := ⟨_, rfl⟩
  have D0 : DBlk V w1.heap.size ⟨t, n, a, len, cap, hello, 0, none, 0, 0, 0, 0, 0⟩ := by rw [hV]; exact dblk_new w1 ⟨t, n, a, len, cap, hello, 0, none, 0, 0, 0, 0, 0⟩
  have BV : Below w1.heap.size w1 V := by rw [hV]; exact below_box _ _
  rw [← hV]
  obtain ⟨nb, hnb⟩ : ∃ nb, nb = w1.heap.size := ⟨_, rfl⟩
  have hwn : w.heap.size ≤ nb := by have := (bw_trans B0.out hb1).size; omega
  rw [← hnb] at D0 ⊢
  have BW := bw_trans (bw_trans B0.out hb1) BV
  have HD0 := Lib.hid D0
  have HBW := Lib.hid BW
  clear hV D0 BV BW hnb P1 hpl k0 k1 k2 hb1 HW HP P0 B0 HA
  (with_reducible refine (new_form t n a len cap l hello V (hrow.next HBW.out) hp).mono ?_); rintro e w3 ⟨rfl, hb3⟩
  have D3 := HD0.out.next hb3
  obtain ⟨c0, c1, c2, c3, c4, c5, c6, c7, c8⟩ := D3.cells
  have hR := rportRight_any t n a len cap l w3 (hrow.next (bw_trans HBW.out hb3))
  rw [hp] at hR
  go_wp2_with (go_at_call 7; refine hR.mono ?_; rintro e w4 ⟨rfl, hb4⟩)
  go_ret
  exact ⟨rfl, bw_trans (bw_trans HBW.out hb3) hb4⟩

set_option maxRecDepth 20000 in
set_option maxHeartbeats 4000000 in
theorem plays_range (t : Bool) (n : Int) (a : Option Addr) (len cap : Nat) (l : List Int) (hello : Int) (ad : Option Addr) (acap : Nat) (acts : List Ac) (w : World) (hrow : IsRow w a len l) (hfew : len ≤ 40 ∧ acts.length ≤ 60) (hp : portB ⟨t, n, l⟩ = true) (hh : ¬ (1 ≤ hello ∧ hello ≤ 10)) :
    Calls Try.prog 3 #[pv t n a len cap, .int .i64 hello, .slice ad acts.length acap] w fun e w' => e = .returned (.bool true) ∧ Below w.heap.size w w' := by
  have hbd := hrow.bound
  unfold maxLen at hbd
  have PB := pblk_new 24 w t n a len cap
  have BB := below_box w (.cells #[.bool t, .int .i64 n, .slice a len cap] 24)
  obtain ⟨W, hW⟩ : ∃ W, W = w.alloc (.cells #[.bool t, .int .i64 n, .slice a len cap] 24) := ⟨_, rfl⟩
  obtain ⟨pb, hpb⟩ : ∃ pb, pb = w.heap.size := ⟨_, rfl⟩
  rw [← hW] at PB BB
  rw [← hpb] at PB
  have HW := Lib.hid hW
  have HP := Lib.hid hpb
  have P0 := Lib.hid PB
  have B0 := Lib.hid BB
  have HA := Lib.hid (awake_w W)
  clear PB BB hW hpb
  have hd1 : decide ((len : Int) > 40) = false := by simp; omega
  have hd2 : decide ((acts.length : Int) > 60) = false := by simp; omega
  go_enter Try.func3, Try.ntmps3
  go_wp2_with fail
  rw [← HW.out, ← HP.out]
  (with_reducible refine (HA.out).mono ?_)
  rintro e w1 ⟨rfl, hb1⟩
  have P1 := P0.out.next hb1
  have hpl := P1.lt
  obtain ⟨k0, k1, k2⟩ := P1.cells
  go_wp2_with fail
  obtain ⟨V, hV⟩ : ∃ V, V = w1.alloc (.cells #[.bool t, .int .i64 n, .slice a len cap, .int .i64 hello, .int .i64 0, .slice none 0 0, .int .i64 0, .int .i64 0, .int .i64 0] 30) := ⟨_, rfl⟩
  have D0 : DBlk V w1.heap.size ⟨t, n, a, len, cap, hello, 0, none, 0, 0, 0, 0, 0⟩ := by rw [hV]; exact dblk_new w1 ⟨t, n, a, len, cap, hello, 0, none, 0, 0, 0, 0, 0⟩
  have BV : Below w1.heap.size w1 V := by rw [hV]; exact below_box _ _
  rw [← hV]
  obtain ⟨nb, hnb⟩ : ∃ nb, nb = w1.heap.size := ⟨_, rfl⟩
  have hwn : w.heap.size ≤ nb := by have := (bw_trans B0.out hb1).size; omega
  rw [← hnb] at D0 ⊢
  have BW := bw_trans (bw_trans B0.out hb1) BV
  have HD0 := Lib.hid D0
  have HBW := Lib.hid BW
  clear hV D0 BV BW hnb P1 hpl k0 k1 k2 hb1 HW HP P0 B0 HA
  (with_reducible refine (new_range t n a len cap l hello V (hrow.next HBW.out) hp hh).mono ?_); rintro e w3 ⟨rfl, hb3⟩
  have D3 := HD0.out.next hb3
  obtain ⟨c0, c1, c2, c3, c4, c5, c6, c7, c8⟩ := D3.cells
  have hR := rportRight_any t n a len cap l w3 (hrow.next (bw_trans HBW.out hb3))
  rw [hp] at hR
  by_cases h1 : hello < 1
  · have hd3 : decide (hello < 1) = true := decide_eq_true h1
    go_wp2_with (go_at_call 7; refine hR.mono ?_; rintro e w4 ⟨rfl, hb4⟩)
    all_goals first | (exfalso; omega) | skip
    go_ret
    exact ⟨rfl, bw_trans (bw_trans HBW.out hb3) hb4⟩
  · have hd3 : decide (hello < 1) = false := decide_eq_false h1
    have hd4 : decide (hello > 10) = true := decide_eq_true (by omega)
    go_wp2_with (go_at_call 7; refine hR.mono ?_; rintro e w4 ⟨rfl, hb4⟩)
    all_goals first | (exfalso; omega) | skip
    go_ret
    exact ⟨rfl, bw_trans (bw_trans HBW.out hb3) hb4⟩

/-- Behind j acts. -/
def PInv (w : World) (po : Po) (b mb nb : Nat) (a' : Option Addr) (cap' : Nat) (a : Option Addr) (len cap m : Nat) (i : Value) (wr : World) : Prop :=
  ∃ (j : Nat) (la : Option Addr) (lc : Nat) (g : Gd), j ≤ m ∧ i = .int .i64 (j : Nat) ∧ Inv w wr po b mb nb a' cap' a len cap j la lc g

set_option maxRecDepth 20000 in
set_option maxHeartbeats 4000000 in
theorem plays_good (t : Bool) (n : Int) (a : Option Addr) (len cap : Nat) (l : List Int) (hello : Int) (ad : Option Addr) (acap : Nat) (acts : List Ac) (w : World) (hrow : IsRow w a len l) (har : ARow w ad acts) (hfew : len ≤ 40 ∧ acts.length ≤ 60) (hp : portB ⟨t, n, l⟩ = true) (h1 : 1 ≤ hello) (h2 : hello ≤ 10) :
    Calls Try.prog 3 #[pv t n a len cap, .int .i64 hello, .slice ad acts.length acap] w fun e w' => e = .returned (.bool true) ∧ Below w.heap.size w w' := by
  have hbd := hrow.bound
  unfold maxLen at hbd
  have PB := pblk_new 24 w t n a len cap
  have BB := below_box w (.cells #[.bool t, .int .i64 n, .slice a len cap] 24)
  obtain ⟨W, hW⟩ : ∃ W, W = w.alloc (.cells #[.bool t, .int .i64 n, .slice a len cap] 24) := ⟨_, rfl⟩
  obtain ⟨pb, hpb⟩ : ∃ pb, pb = w.heap.size := ⟨_, rfl⟩
  rw [← hW] at PB BB
  rw [← hpb] at PB
  have HW := Lib.hid hW
  have HP := Lib.hid hpb
  have P0 := Lib.hid PB
  have B0 := Lib.hid BB
  have HA := Lib.hid (awake_w W)
  clear PB BB hW hpb
  have hd1 : decide ((len : Int) > 40) = false := by simp; omega
  have hd2 : decide ((acts.length : Int) > 60) = false := by simp; omega
  go_enter Try.func3, Try.ntmps3
  go_wp2_with fail
  rw [← HW.out, ← HP.out]
  (with_reducible refine (HA.out).mono ?_)
  rintro e w1 ⟨rfl, hb1⟩
  have P1 := P0.out.next hb1
  have hpl := P1.lt
  obtain ⟨k0, k1, k2⟩ := P1.cells
  go_wp2_with fail
  obtain ⟨V, hV⟩ : ∃ V, V = w1.alloc (.cells #[.bool t, .int .i64 n, .slice a len cap, .int .i64 hello, .int .i64 0, .slice none 0 0, .int .i64 0, .int .i64 0, .int .i64 0] 30) := ⟨_, rfl⟩
  have D0 : DBlk V w1.heap.size ⟨t, n, a, len, cap, hello, 0, none, 0, 0, 0, 0, 0⟩ := by rw [hV]; exact dblk_new w1 ⟨t, n, a, len, cap, hello, 0, none, 0, 0, 0, 0, 0⟩
  have BV : Below w1.heap.size w1 V := by rw [hV]; exact below_box _ _
  rw [← hV]
  obtain ⟨nb, hnb⟩ : ∃ nb, nb = w1.heap.size := ⟨_, rfl⟩
  have hwn : w.heap.size ≤ nb := by have := (bw_trans B0.out hb1).size; omega
  rw [← hnb] at D0 ⊢
  have BW := bw_trans (bw_trans B0.out hb1) BV
  have HD0 := Lib.hid D0
  have HBW := Lib.hid BW
  clear hV D0 BV BW hnb P1 hpl k0 k1 k2 hb1 HW HP P0 B0 HA
  (with_reducible refine (new_w t n a len cap l hello V (hrow.next HBW.out) hp h1 h2).mono ?_); rintro e w3 ⟨b, mb, a', cap', rfl, hg3, hb0, hm0, ha0, hb3⟩
  have D3 := HD0.out.next hb3
  have hVl := HD0.out.lt
  have HB := Lib.hid (And.intro hb0 hm0)
  have HG3 := Lib.hid hg3
  have HA0 := Lib.hid ha0
  have HR := Lib.hid (fun z (hz : Below w.heap.size w z) => hrow.next hz)
  have HAR := Lib.hid (fun z (hz : Below w.heap.size w z) => har.next hz)
  have B3 := bw_trans HBW.out hb3
  have HB3 := Lib.hid B3
  have hR := rportRight_any t n a len cap l w3 (hrow.next B3)
  rw [hp] at hR
  have hd3 : decide (hello < 1) = false := decide_eq_false (by omega)
  have hd4 : decide (hello > 10) = false := decide_eq_false (by omega)
  obtain ⟨c0, c1, c2, c3, c4, c5, c6, c7, c8⟩ := D3.cells
  have HD3 := Lib.hid D3
  have hVs := HBW.out.size
  clear hg3 ha0 hb3 B3 D3 hrow har hb0 hm0
  go_wp2_with (go_at_call 7; refine hR.mono ?_; clear hR; rintro e w4 ⟨rfl, hb4⟩)
  all_goals first | (exfalso; omega) | skip
  have H4 : Both w4 b mb nb a' cap' a len cap none 0 (newG ⟨t, n, l⟩ hello) :=
    Both.next (w := w3) ⟨HG3.out, HD3.out, ⟨HR.out w3 HB3.out, ⟨fun k x hx => by simp [newG] at hx⟩, fun _ => rfl, by simp [newG]⟩, fun x e => (by cases e), fun x e => (by have := HA0.out x e; omega), by have := HB.out.1; omega, by have := HB.out.2; omega⟩ hb4
  have I4 := Lib.hid (show Inv w w4 ⟨t, n, l⟩ b mb nb a' cap' a len cap 0 none 0 (newG ⟨t, n, l⟩ hello) from ⟨H4, bw_trans HB3.out hb4, Nat.le_refl _, Nat.zero_le _, rfl⟩)
  have HBM := Lib.hid (show w.heap.size ≤ b ∧ w.heap.size ≤ mb from ⟨Nat.le_trans hVs HB.out.1, Nat.le_trans hVs HB.out.2⟩)
  clear H4 hb4 HG3 HD3 HB3 HB HA0 HD0 HBW c0 c1 c2 c3 c4 c5 c6 c7 c8 hVs hVl
  go_loopw [10] (fun i wr => PInv w ⟨t, n, l⟩ b mb nb a' cap' a len cap acts.length i wr) (fun i _ => acts.length - (intOf i).toNat)
  case atStart => exact ⟨0, none, 0, _, Nat.zero_le _, rfl, I4.out⟩
  case round =>
    clear I4
    obtain ⟨j, la, lc, g, hj, rfl, hI⟩ := hrel
    have I0 := Lib.hid hI
    clear hI
    by_cases hjl : j < acts.length
    · obtain ⟨x, hx⟩ := at_some (l := acts) (k := j) hjl
      obtain ⟨q, off, rfl, hq, y0, y1, y2, y3⟩ := (HAR.out wr I0.out.below).at_ j x hx
      have hti := (HAR.out wr I0.out.below).i64 x (List.mem_of_getElem? hx)
      obtain ⟨ask, rcv, tld, nw⟩ := x
      simp only at y0 y1 y2 y3 hti
      have hnb := I0.out.both.blk.lt
      obtain ⟨c0, c1, c2, c3, c4, c5, c6, c7, c8⟩ := I0.out.both.blk.cells
      simp only at c0 c1 c2 c3 c4 c5 c6 c7 c8
      clear hx
      obtain ⟨V1, hV1⟩ : ∃ V1, V1 = wr.alloc (.cells #[.bool ask, .int .i64 rcv, .int .i64 tld, .int .i64 nw] 37) := ⟨_, rfl⟩
      have BV1 : Below wr.heap.size wr V1 := by rw [hV1]; exact below_box _ _
      have X1 := Lib.hid (show XBlk V1 wr.heap.size ⟨ask, rcv, tld, nw⟩ by rw [hV1]; exact xblk_new wr ⟨ask, rcv, tld, nw⟩)
      have T1 := Lib.hid (I0.out.both.next BV1)
      have L1 := Lib.hid (bw_trans I0.out.below BV1)
      have HV1 := Lib.hid hV1
      obtain ⟨xb, hxb⟩ : ∃ xb, xb = wr.heap.size := ⟨_, rfl⟩
      rw [← hxb] at X1
      have hxn : nb < xb := by omega
      have HX := Lib.hid hxb
      have hbx : b < xb := by have := I0.out.both.mine.lt; omega
      have hmx : mb < xb := by have := I0.out.both.mine.mlt; omega
      have hmany := I0.out.many
      have hheard := I0.out.heard
      have hpo := Lib.hid I0.out.po
      clear BV1 hV1 hxb I0
      cases ask with
      | false =>
        go_wp2_with fail
        rw [← HV1.out, ← HX.out]
        obtain ⟨E2, hE2⟩ : ∃ E2, (hearG g rcv tld nw).2 = E2 := ⟨_, rfl⟩
        obtain ⟨G2, hG2⟩ : ∃ G2, (hearG g rcv tld nw).1 = G2 := ⟨_, rfl⟩
        have hRH := rhear_w g a len cap la lc rcv tld nw V1 T1.out.mem T1.out.mine.ok (by omega) (by omega)
        rw [hE2, hG2] at hRH
        have hMH := fun z (hz : IsG z b mb a' len cap' g) => hear_w b mb a' len cap' g rcv tld nw z hz (by omega)
        simp only [hE2, hG2] at hMH
        have hH2 := hear_many g rcv tld nw
        have hP2 := hear_po g rcv tld nw
        rw [hG2] at hH2 hP2
        have HP2 := Lib.hid (hP2.trans hpo.out)
        have HMH := Lib.hid hMH
        clear hMH hP2 hG2 hE2 c0 c1 c2 c3 c4 c5 c6 c7 c8
        (with_reducible refine hRH.mono ?_)
        clear hRH
        rintro e V2 ⟨la2, lc2, rfl, hm2, hn2, hb2⟩
        have HAw := Lib.hid (T1.out.turned hb2 hm2 hn2)
        have T2 := Lib.hid (T1.out.next hb2)
        have M2 := Lib.hid hm2
        have L2 := Lib.hid (bw_trans L1.out hb2)
        have X2 := Lib.hid (X1.out.next hb2)
        have hl2 := T2.out.blk.lt
        have hx2 := X2.out.lt
        obtain ⟨c0, c1, c2, c3, c4, c5, c6, c7, c8⟩ := T2.out.blk.cells
        simp only at c0 c1 c2 c3 c4 c5 c6 c7 c8
        have g0 := T2.out.blk.free 0
        have g1 := T2.out.blk.free 1
        have g2 := T2.out.blk.free 2
        have g3 := T2.out.blk.free 3
        have g4 := T2.out.blk.free 4
        have g5 := T2.out.blk.free 5
        have g6 := T2.out.blk.free 6
        have g7 := T2.out.blk.free 7
        have g8 := T2.out.blk.free 8
        clear hm2 hn2 hb2 T1 L1 X1
        go_upto_region 20 with (fail)
        obtain ⟨V3, hV3⟩ : ∃ V3, V3 = put9 V2 nb (dOf G2 a len cap la2 lc2) := ⟨_, rfl⟩
        obtain ⟨V4, hV4⟩ : ∃ V4, V4 = V3.alloc (.cells #[.bool G2.po.trunk, .int .i64 G2.po.native, .slice a len cap, .int .i64 G2.hello, .int .i64 G2.now, .slice la2 G2.l.length lc2, .int .i64 G2.many, .int .i64 G2.first, .int .i64 G2.told] 30) := ⟨_, rfl⟩
        have BV4 : Below V3.heap.size V3 V4 := by rw [hV4]; exact below_box _ _
        have LV3 : Below w.heap.size w V3 := by rw [hV3]; exact put9_below L2.out hwn _
        have D3 : DBlk V3 nb (dOf G2 a len cap la2 lc2) := by rw [hV3]; exact put9_blk T2.out.blk _
        have I3 : IsG V3 b mb a' len cap' g := by rw [hV3]; exact isg_put T2.out.mine _ T2.out.n1 T2.out.n2 T2.out.awayB
        have X3 : XBlk V3 xb ⟨false, rcv, tld, nw⟩ := X2.out.same (by rw [hV3]; exact put9_other _ _ _ _ (by omega))
        have M3 : DMem V3 G2 a len la2 lc2 := by
          have hr := HR.out V3 LV3
          rw [hV3] at hr ⊢
          exact dmem_put M2.out (fun x e => (HAw.out x e).2.2) (by rw [HP2.out]; exact hr)
        have LV4 := Lib.hid (bw_trans LV3 BV4)
        have D4 := Lib.hid (D3.next BV4)
        have I4 := Lib.hid (I3.next BV4)
        have X4 := Lib.hid (X3.next BV4)
        have M4 := Lib.hid (M3.next BV4)
        have HT3 := Lib.hid T2.out
        dsimp only [put9, dOf] at hV3
        rw [← hV3, ← hV4]
        clear hV3 hV4 BV4 LV3 D3 I3 X3 M3 T2 M2 L2 X2 c0 c1 c2 c3 c4 c5 c6 c7 c8 g0 g1 g2 g3 g4 g5 g6 g7 g8
        obtain ⟨x0, x1, x2, x3⟩ := X4.out.cells
        simp only at x0 x1 x2 x3
        go_wp2_with fail
        (with_reducible refine (HMH.out V4 I4.out).mono ?_)
        rintro e V5 ⟨rfl, hi5, hk5⟩
        have L5 := Lib.hid (hk5.below LV4.out HBM.out.1 HBM.out.2 LV4.out.size)
        have T5 := Lib.hid (HT3.out.behind M4.out D4.out HAw.out (by rw [HP2.out]; exact HR.out V5 L5.out) hi5 hk5)
        clear hi5 hk5 HT3 I4 M4 D4 X4 LV4 HMH x0 x1 x2 x3
        go_wp2_with fail
        (with_reducible refine (first_w b mb a' len cap' G2 V5 T5.out.mine).mono ?_)
        rintro e Z1 ⟨rfl, hz1⟩
        have TZ := T5.out.next hz1
        have LZ := bw_trans L5.out hz1
        have HZ := Lib.hid (show Inv w Z1.drew ⟨t, n, l⟩ b mb nb a' cap' a len cap (j + 1) _ _ G2 from ⟨TZ.next ((Below.refl _ _).drew), LZ.drew, by omega, by omega, HP2.out⟩)
        have C0 := Lib.hid (heard_w b mb a' len cap' G2 Z1.drew (TZ.mine.next ((Below.refl _ _).drew)))
        obtain ⟨_, _, _, _, _, _, z6, z7, z8⟩ := TZ.blk.cells
        simp only at z6 z7 z8
        have S0 : Z1.cell? ⟨nb, 6, none⟩ = some (.int .i64 (G2.many : Int)) ∧ Z1.cell? ⟨nb, 7, none⟩ = some (.int .i64 G2.first) ∧ Z1.cell? ⟨nb, 8, none⟩ = some (.int .i64 G2.told) := ⟨z6, z7, z8⟩
        have S1 : Z1.drew.cell? ⟨nb, 6, none⟩ = some (.int .i64 (G2.many : Int)) ∧ Z1.drew.cell? ⟨nb, 7, none⟩ = some (.int .i64 G2.first) ∧ Z1.drew.cell? ⟨nb, 8, none⟩ = some (.int .i64 G2.told) := ⟨z6, z7, z8⟩
        clear z6 z7 z8 TZ LZ hz1
        go_upto_region 30 with (fail)
        go_region_held3 (fun w' => w'.cell? ⟨nb, 6, none⟩ = some (.int .i64 (G2.many : Int)) ∧ w'.cell? ⟨nb, 7, none⟩ = some (.int .i64 G2.first) ∧ w'.cell? ⟨nb, 8, none⟩ = some (.int .i64 G2.told)) (first | exact S0 | exact S1) (first | (go_at_call 17; (with_reducible refine (C0.out).mono ?_); rintro e w' ⟨rfl, rfl⟩))
        all_goals go_wp2_with fail
        all_goals exact ⟨⟨j + 1, _, _, G2, by omega, by go_num, HZ.out⟩, by simp [intOf]; omega⟩
      | true =>
        cases htm : timeB nw with
        | true =>
          have hd5 : decide (nw ≥ 0) = true := decide_eq_true (of_decide_eq_true htm).1
          have hd6 : decide (nw ≤ 1099511627776) = true := decide_eq_true (of_decide_eq_true htm).2
          have HTM := Lib.hid htm
          clear htm
          go_wp2_with fail
          rw [← HV1.out, ← HX.out]
          (with_reducible refine (at_w g a len cap la lc nw V1).mono ?_)
          rintro e V2 ⟨rfl, hb2⟩
          obtain ⟨G2, hG2⟩ : ∃ G2, atG g nw = G2 := ⟨_, rfl⟩
          have HAG := Lib.hid (show atG G2 nw = G2 by rw [← hG2]; exact at_at g nw)
          have HG2 := Lib.hid hG2
          have T2 := Lib.hid (T1.out.next hb2)
          have M2 := Lib.hid (show DMem V2 G2 a len la lc by rw [← hG2]; exact ⟨by rw [at_po]; exact T2.out.mem.row, by rw [at_l]; exact T2.out.mem.hrow, T2.out.mem.none, by rw [at_l]; exact T2.out.mem.few⟩)
          have HP2 := Lib.hid (show G2.po = ⟨t, n, l⟩ by rw [← hG2, at_po]; exact hpo.out)
          have hmn2 : G2.many ≤ j := by rw [← hG2, at_many]; exact hmany
          have hhd2 : G2.l.length ≤ 2 * j := by rw [← hG2, at_l]; exact hheard
          have hBL := fun z (hz : IsG z b mb a' len cap' g) => blocked_w b mb a' len cap' g tld nw z hz hti
          simp only [hG2, HTM.out] at hBL
          have HBL := Lib.hid hBL
          rw [hG2]
          have L2 := Lib.hid (bw_trans L1.out hb2)
          have X2 := Lib.hid (X1.out.next hb2)
          have hl2 := T2.out.blk.lt
          have hx2 := X2.out.lt
          clear hBL hG2 hb2 T1 L1 X1 c0 c1 c2 c3 c4 c5 c6 c7 c8
          obtain ⟨c0, c1, c2, c3, c4, c5, c6, c7, c8⟩ := T2.out.blk.cells
          simp only at c0 c1 c2 c3 c4 c5 c6 c7 c8
          have g0 := T2.out.blk.free 0
          have g1 := T2.out.blk.free 1
          have g2 := T2.out.blk.free 2
          have g3 := T2.out.blk.free 3
          have g4 := T2.out.blk.free 4
          have g5 := T2.out.blk.free 5
          have g6 := T2.out.blk.free 6
          have g7 := T2.out.blk.free 7
          have g8 := T2.out.blk.free 8
          go_upto_region 24 with (fail)
          obtain ⟨V4, hV4⟩ : ∃ V4, V4 = put9 V2 nb (dOf G2 a len cap la lc) := ⟨_, rfl⟩
          have LV4 := Lib.hid (show Below w.heap.size w V4 by rw [hV4]; exact put9_below L2.out hwn _)
          have D4 := Lib.hid (show DBlk V4 nb (dOf G2 a len cap la lc) by rw [hV4]; exact put9_blk T2.out.blk _)
          have I4 := Lib.hid (show IsG V4 b mb a' len cap' g by rw [hV4]; exact isg_put T2.out.mine _ T2.out.n1 T2.out.n2 T2.out.awayB)
          have X4 := Lib.hid (show XBlk V4 xb ⟨true, rcv, tld, nw⟩ from X2.out.same (by rw [hV4]; exact put9_other _ _ _ _ (by omega)))
          have M4 := Lib.hid (show DMem V4 G2 a len la lc by
            have hr := HR.out V4 LV4.out
            rw [hV4] at hr ⊢
            exact dmem_put M2.out (fun x e => (T2.out.away x e).2.2) (by rw [HP2.out]; exact hr))
          have HAw := Lib.hid T2.out.away
          have HT3 := Lib.hid T2.out
          dsimp only [put9, dOf] at hV4
          rw [← hV4]
          clear hV4 T2 M2 L2 X2 c0 c1 c2 c3 c4 c5 c6 c7 c8 g0 g1 g2 g3 g4 g5 g6 g7 g8
          obtain ⟨x0, x1, x2, x3⟩ := X4.out.cells
          simp only at x0 x1 x2 x3
          go_wp2_with fail
          (with_reducible refine (HBL.out V4 I4.out).mono ?_)
          rintro e V5 ⟨rfl, hi5, hk5⟩
          have L5 := Lib.hid (hk5.below LV4.out HBM.out.1 HBM.out.2 LV4.out.size)
          have T5 := Lib.hid (HT3.out.behind M4.out D4.out HAw.out (by rw [HP2.out]; exact HR.out V5 L5.out) hi5 hk5)
          have hx5 : V5.heap[xb]? = V4.heap[xb]? := hk5.block xb X4.out.lt (by omega) (by omega)
          have X5 := Lib.hid (X4.out.same hx5)
          clear hi5 hk5 hx5 I4 M4 D4 X4 LV4 HBL x0 x1 x2 x3
          obtain ⟨x0, x1, x2, x3⟩ := X5.out.cells
          simp only at x0 x1 x2 x3
          obtain ⟨c0, c1, c2, c3, c4, c5, c6, c7, c8⟩ := T5.out.blk.cells
          simp only at c0 c1 c2 c3 c4 c5 c6 c7 c8
          go_wp2_with fail
          (with_reducible refine (rblocked_w G2 a len cap la lc tld V5 T5.out.mem).mono ?_)
          rintro e V6 ⟨rfl, hb6⟩
          have T6 := Lib.hid (T5.out.next hb6)
          have L6 := Lib.hid (bw_trans L5.out hb6)
          have X6 := Lib.hid (X5.out.next hb6)
          have hLi := list_w b mb a' len cap' G2 nw V6 T6.out.mine HTM.out (by omega)
          rw [HAG.out] at hLi
          have HLi := Lib.hid hLi
          clear hLi hb6 T5 L5 X5 x0 x1 x2 x3 c0 c1 c2 c3 c4 c5 c6 c7 c8
          obtain ⟨x0, x1, x2, x3⟩ := X6.out.cells
          simp only at x0 x1 x2 x3
          go_wp2_with fail
          (with_reducible refine (HLi.out).mono ?_)
          rintro e V7 ⟨ra, rc, rfl, hr7, hi7, hk7⟩
          have L7 := Lib.hid (hk7.below L6.out HBM.out.1 HBM.out.2 L6.out.size)
          have T7 := Lib.hid (T6.out.behind T6.out.mem T6.out.blk T6.out.away (by rw [HP2.out]; exact HR.out V7 L7.out) hi7 hk7)
          have R7 := Lib.hid hr7
          clear hr7 hi7 hk7 HLi T6 L6 X6 x0 x1 x2 x3
          obtain ⟨c0, c1, c2, c3, c4, c5, c6, c7, c8⟩ := T7.out.blk.cells
          simp only at c0 c1 c2 c3 c4 c5 c6 c7 c8
          go_wp2_with fail
          (with_reducible refine (rlist_w G2 a len cap la lc V7 T7.out.mem).mono ?_)
          rintro e V8 ⟨sa, sc, rfl, hs8, hb8⟩
          have T8 := Lib.hid (T7.out.next hb8)
          have L8 := Lib.hid (bw_trans L7.out hb8)
          have hSm := same_w ra sa rc sc (listG G2) (listG G2) V8 (R7.out.next hb8) hs8
          rw [decide_eq_true rfl] at hSm
          have HSm := Lib.hid hSm
          clear hSm hs8 hb8 T7 L7 R7 c0 c1 c2 c3 c4 c5 c6 c7 c8
          go_wp2_with fail
          (with_reducible refine (HSm.out).mono ?_)
          rintro e V9 ⟨rfl, hb9⟩
          have T9 := Lib.hid (T8.out.next hb9)
          have L9 := Lib.hid (bw_trans L8.out hb9)
          clear hb9 T8 L8 HSm
          go_wp2_with fail
          (with_reducible refine (first_w b mb a' len cap' G2 V9 T9.out.mine).mono ?_)
          rintro e Z1 ⟨rfl, hz1⟩
          have TZ := T9.out.next hz1
          have LZ := bw_trans L9.out hz1
          have HZ := Lib.hid (show Inv w Z1.drew ⟨t, n, l⟩ b mb nb a' cap' a len cap (j + 1) _ _ G2 from ⟨TZ.next ((Below.refl _ _).drew), LZ.drew, by omega, by omega, HP2.out⟩)
          have C0 := Lib.hid (heard_w b mb a' len cap' G2 Z1.drew (TZ.mine.next ((Below.refl _ _).drew)))
          obtain ⟨_, _, _, _, _, _, z6, z7, z8⟩ := TZ.blk.cells
          simp only at z6 z7 z8
          have S0 : Z1.cell? ⟨nb, 6, none⟩ = some (.int .i64 (G2.many : Int)) ∧ Z1.cell? ⟨nb, 7, none⟩ = some (.int .i64 G2.first) ∧ Z1.cell? ⟨nb, 8, none⟩ = some (.int .i64 G2.told) := ⟨z6, z7, z8⟩
          have S1 : Z1.drew.cell? ⟨nb, 6, none⟩ = some (.int .i64 (G2.many : Int)) ∧ Z1.drew.cell? ⟨nb, 7, none⟩ = some (.int .i64 G2.first) ∧ Z1.drew.cell? ⟨nb, 8, none⟩ = some (.int .i64 G2.told) := ⟨z6, z7, z8⟩
          clear z6 z7 z8 TZ LZ hz1
          go_upto_region 30 with (fail)
          go_region_held3 (fun w' => w'.cell? ⟨nb, 6, none⟩ = some (.int .i64 (G2.many : Int)) ∧ w'.cell? ⟨nb, 7, none⟩ = some (.int .i64 G2.first) ∧ w'.cell? ⟨nb, 8, none⟩ = some (.int .i64 G2.told)) (first | exact S0 | exact S1) (first | (go_at_call 17; (with_reducible refine (C0.out).mono ?_); rintro e w' ⟨rfl, rfl⟩))
          all_goals go_wp2_with fail
          all_goals exact ⟨⟨j + 1, _, _, G2, by omega, by go_num, HZ.out⟩, by simp [intOf]; omega⟩
        | false =>
          by_cases h0 : 0 ≤ nw
          · have hd5 : decide (nw ≥ 0) = true := decide_eq_true h0
            have hd6 : decide (nw ≤ 1099511627776) = false := decide_eq_false (fun h => by unfold timeB at htm; rw [decide_eq_true ⟨h0, h⟩] at htm; cases htm)
            have HTM := Lib.hid htm
            clear htm h0
            go_wp2_with fail
            rw [← HV1.out, ← HX.out]
            (with_reducible refine (at_w g a len cap la lc nw V1).mono ?_)
            rintro e V2 ⟨rfl, hb2⟩
            obtain ⟨G2, hG2⟩ : ∃ G2, atG g nw = G2 := ⟨_, rfl⟩
            have HAG := Lib.hid (show atG G2 nw = G2 by rw [← hG2]; exact at_at g nw)
            have HG2 := Lib.hid hG2
            have T2 := Lib.hid (T1.out.next hb2)
            have M2 := Lib.hid (show DMem V2 G2 a len la lc by rw [← hG2]; exact ⟨by rw [at_po]; exact T2.out.mem.row, by rw [at_l]; exact T2.out.mem.hrow, T2.out.mem.none, by rw [at_l]; exact T2.out.mem.few⟩)
            have HP2 := Lib.hid (show G2.po = ⟨t, n, l⟩ by rw [← hG2, at_po]; exact hpo.out)
            have hmn2 : G2.many ≤ j := by rw [← hG2, at_many]; exact hmany
            have hhd2 : G2.l.length ≤ 2 * j := by rw [← hG2, at_l]; exact hheard
            have hBL := fun z (hz : IsG z b mb a' len cap' g) => blocked_w b mb a' len cap' g tld nw z hz hti
            simp only [hG2, HTM.out] at hBL
            have HBL := Lib.hid hBL
            rw [hG2]
            have L2 := Lib.hid (bw_trans L1.out hb2)
            have X2 := Lib.hid (X1.out.next hb2)
            have hl2 := T2.out.blk.lt
            have hx2 := X2.out.lt
            clear hBL hG2 hb2 T1 L1 X1 c0 c1 c2 c3 c4 c5 c6 c7 c8
            obtain ⟨c0, c1, c2, c3, c4, c5, c6, c7, c8⟩ := T2.out.blk.cells
            simp only at c0 c1 c2 c3 c4 c5 c6 c7 c8
            have g0 := T2.out.blk.free 0
            have g1 := T2.out.blk.free 1
            have g2 := T2.out.blk.free 2
            have g3 := T2.out.blk.free 3
            have g4 := T2.out.blk.free 4
            have g5 := T2.out.blk.free 5
            have g6 := T2.out.blk.free 6
            have g7 := T2.out.blk.free 7
            have g8 := T2.out.blk.free 8
            go_upto_region 24 with (fail)
            obtain ⟨V4, hV4⟩ : ∃ V4, V4 = put9 V2 nb (dOf G2 a len cap la lc) := ⟨_, rfl⟩
            have LV4 := Lib.hid (show Below w.heap.size w V4 by rw [hV4]; exact put9_below L2.out hwn _)
            have D4 := Lib.hid (show DBlk V4 nb (dOf G2 a len cap la lc) by rw [hV4]; exact put9_blk T2.out.blk _)
            have I4 := Lib.hid (show IsG V4 b mb a' len cap' g by rw [hV4]; exact isg_put T2.out.mine _ T2.out.n1 T2.out.n2 T2.out.awayB)
            have X4 := Lib.hid (show XBlk V4 xb ⟨true, rcv, tld, nw⟩ from X2.out.same (by rw [hV4]; exact put9_other _ _ _ _ (by omega)))
            have M4 := Lib.hid (show DMem V4 G2 a len la lc by
              have hr := HR.out V4 LV4.out
              rw [hV4] at hr ⊢
              exact dmem_put M2.out (fun x e => (T2.out.away x e).2.2) (by rw [HP2.out]; exact hr))
            have HAw := Lib.hid T2.out.away
            have HT3 := Lib.hid T2.out
            dsimp only [put9, dOf] at hV4
            rw [← hV4]
            clear hV4 T2 M2 L2 X2 c0 c1 c2 c3 c4 c5 c6 c7 c8 g0 g1 g2 g3 g4 g5 g6 g7 g8
            obtain ⟨x0, x1, x2, x3⟩ := X4.out.cells
            simp only at x0 x1 x2 x3
            go_wp2_with fail
            (with_reducible refine (HBL.out V4 I4.out).mono ?_)
            rintro e V5 ⟨rfl, hi5, hk5⟩
            have L5 := Lib.hid (hk5.below LV4.out HBM.out.1 HBM.out.2 LV4.out.size)
            have T5 := Lib.hid (HT3.out.behind M4.out D4.out HAw.out (by rw [HP2.out]; exact HR.out V5 L5.out) hi5 hk5)
            have hx5 : V5.heap[xb]? = V4.heap[xb]? := hk5.block xb X4.out.lt (by omega) (by omega)
            have X5 := Lib.hid (X4.out.same hx5)
            clear hi5 hk5 hx5 I4 M4 D4 X4 LV4 HBL x0 x1 x2 x3
            obtain ⟨x0, x1, x2, x3⟩ := X5.out.cells
            simp only at x0 x1 x2 x3
            obtain ⟨c0, c1, c2, c3, c4, c5, c6, c7, c8⟩ := T5.out.blk.cells
            simp only at c0 c1 c2 c3 c4 c5 c6 c7 c8
            have HLb := Lib.hid (list_bad b nw V5 HTM.out)
            go_wp2_with fail
            (with_reducible refine (HLb.out).mono ?_)
            rintro e w' ⟨rfl, rfl⟩
            clear HLb X5 x0 x1 x2 x3 c0 c1 c2 c3 c4 c5 c6 c7 c8
            go_wp2_with fail
            (with_reducible refine (first_w b mb a' len cap' G2 V5 T5.out.mine).mono ?_)
            rintro e Z1 ⟨rfl, hz1⟩
            have TZ := T5.out.next hz1
            have LZ := bw_trans L5.out hz1
            have HZ := Lib.hid (show Inv w Z1.drew ⟨t, n, l⟩ b mb nb a' cap' a len cap (j + 1) _ _ G2 from ⟨TZ.next ((Below.refl _ _).drew), LZ.drew, by omega, by omega, HP2.out⟩)
            have C0 := Lib.hid (heard_w b mb a' len cap' G2 Z1.drew (TZ.mine.next ((Below.refl _ _).drew)))
            obtain ⟨_, _, _, _, _, _, z6, z7, z8⟩ := TZ.blk.cells
            simp only at z6 z7 z8
            have S0 : Z1.cell? ⟨nb, 6, none⟩ = some (.int .i64 (G2.many : Int)) ∧ Z1.cell? ⟨nb, 7, none⟩ = some (.int .i64 G2.first) ∧ Z1.cell? ⟨nb, 8, none⟩ = some (.int .i64 G2.told) := ⟨z6, z7, z8⟩
            have S1 : Z1.drew.cell? ⟨nb, 6, none⟩ = some (.int .i64 (G2.many : Int)) ∧ Z1.drew.cell? ⟨nb, 7, none⟩ = some (.int .i64 G2.first) ∧ Z1.drew.cell? ⟨nb, 8, none⟩ = some (.int .i64 G2.told) := ⟨z6, z7, z8⟩
            clear z6 z7 z8 TZ LZ hz1
            go_upto_region 30 with (fail)
            go_region_held3 (fun w' => w'.cell? ⟨nb, 6, none⟩ = some (.int .i64 (G2.many : Int)) ∧ w'.cell? ⟨nb, 7, none⟩ = some (.int .i64 G2.first) ∧ w'.cell? ⟨nb, 8, none⟩ = some (.int .i64 G2.told)) (first | exact S0 | exact S1) (first | (go_at_call 17; (with_reducible refine (C0.out).mono ?_); rintro e w' ⟨rfl, rfl⟩))
            all_goals go_wp2_with fail
            all_goals exact ⟨⟨j + 1, _, _, G2, by omega, by go_num, HZ.out⟩, by simp [intOf]; omega⟩
          · have hd5 : decide (nw ≥ 0) = false := decide_eq_false h0
            have HTM := Lib.hid htm
            clear htm h0
            go_wp2_with fail
            rw [← HV1.out, ← HX.out]
            (with_reducible refine (at_w g a len cap la lc nw V1).mono ?_)
            rintro e V2 ⟨rfl, hb2⟩
            obtain ⟨G2, hG2⟩ : ∃ G2, atG g nw = G2 := ⟨_, rfl⟩
            have HAG := Lib.hid (show atG G2 nw = G2 by rw [← hG2]; exact at_at g nw)
            have HG2 := Lib.hid hG2
            have T2 := Lib.hid (T1.out.next hb2)
            have M2 := Lib.hid (show DMem V2 G2 a len la lc by rw [← hG2]; exact ⟨by rw [at_po]; exact T2.out.mem.row, by rw [at_l]; exact T2.out.mem.hrow, T2.out.mem.none, by rw [at_l]; exact T2.out.mem.few⟩)
            have HP2 := Lib.hid (show G2.po = ⟨t, n, l⟩ by rw [← hG2, at_po]; exact hpo.out)
            have hmn2 : G2.many ≤ j := by rw [← hG2, at_many]; exact hmany
            have hhd2 : G2.l.length ≤ 2 * j := by rw [← hG2, at_l]; exact hheard
            have hBL := fun z (hz : IsG z b mb a' len cap' g) => blocked_w b mb a' len cap' g tld nw z hz hti
            simp only [hG2, HTM.out] at hBL
            have HBL := Lib.hid hBL
            rw [hG2]
            have L2 := Lib.hid (bw_trans L1.out hb2)
            have X2 := Lib.hid (X1.out.next hb2)
            have hl2 := T2.out.blk.lt
            have hx2 := X2.out.lt
            clear hBL hG2 hb2 T1 L1 X1 c0 c1 c2 c3 c4 c5 c6 c7 c8
            obtain ⟨c0, c1, c2, c3, c4, c5, c6, c7, c8⟩ := T2.out.blk.cells
            simp only at c0 c1 c2 c3 c4 c5 c6 c7 c8
            have g0 := T2.out.blk.free 0
            have g1 := T2.out.blk.free 1
            have g2 := T2.out.blk.free 2
            have g3 := T2.out.blk.free 3
            have g4 := T2.out.blk.free 4
            have g5 := T2.out.blk.free 5
            have g6 := T2.out.blk.free 6
            have g7 := T2.out.blk.free 7
            have g8 := T2.out.blk.free 8
            go_upto_region 24 with (fail)
            obtain ⟨V4, hV4⟩ : ∃ V4, V4 = put9 V2 nb (dOf G2 a len cap la lc) := ⟨_, rfl⟩
            have LV4 := Lib.hid (show Below w.heap.size w V4 by rw [hV4]; exact put9_below L2.out hwn _)
            have D4 := Lib.hid (show DBlk V4 nb (dOf G2 a len cap la lc) by rw [hV4]; exact put9_blk T2.out.blk _)
            have I4 := Lib.hid (show IsG V4 b mb a' len cap' g by rw [hV4]; exact isg_put T2.out.mine _ T2.out.n1 T2.out.n2 T2.out.awayB)
            have X4 := Lib.hid (show XBlk V4 xb ⟨true, rcv, tld, nw⟩ from X2.out.same (by rw [hV4]; exact put9_other _ _ _ _ (by omega)))
            have M4 := Lib.hid (show DMem V4 G2 a len la lc by
              have hr := HR.out V4 LV4.out
              rw [hV4] at hr ⊢
              exact dmem_put M2.out (fun x e => (T2.out.away x e).2.2) (by rw [HP2.out]; exact hr))
            have HAw := Lib.hid T2.out.away
            have HT3 := Lib.hid T2.out
            dsimp only [put9, dOf] at hV4
            rw [← hV4]
            clear hV4 T2 M2 L2 X2 c0 c1 c2 c3 c4 c5 c6 c7 c8 g0 g1 g2 g3 g4 g5 g6 g7 g8
            obtain ⟨x0, x1, x2, x3⟩ := X4.out.cells
            simp only at x0 x1 x2 x3
            go_wp2_with fail
            (with_reducible refine (HBL.out V4 I4.out).mono ?_)
            rintro e V5 ⟨rfl, hi5, hk5⟩
            have L5 := Lib.hid (hk5.below LV4.out HBM.out.1 HBM.out.2 LV4.out.size)
            have T5 := Lib.hid (HT3.out.behind M4.out D4.out HAw.out (by rw [HP2.out]; exact HR.out V5 L5.out) hi5 hk5)
            have hx5 : V5.heap[xb]? = V4.heap[xb]? := hk5.block xb X4.out.lt (by omega) (by omega)
            have X5 := Lib.hid (X4.out.same hx5)
            clear hi5 hk5 hx5 I4 M4 D4 X4 LV4 HBL x0 x1 x2 x3
            obtain ⟨x0, x1, x2, x3⟩ := X5.out.cells
            simp only at x0 x1 x2 x3
            obtain ⟨c0, c1, c2, c3, c4, c5, c6, c7, c8⟩ := T5.out.blk.cells
            simp only at c0 c1 c2 c3 c4 c5 c6 c7 c8
            have HLb := Lib.hid (list_bad b nw V5 HTM.out)
            go_wp2_with fail
            (with_reducible refine (HLb.out).mono ?_)
            rintro e w' ⟨rfl, rfl⟩
            clear HLb X5 x0 x1 x2 x3 c0 c1 c2 c3 c4 c5 c6 c7 c8
            go_wp2_with fail
            (with_reducible refine (first_w b mb a' len cap' G2 V5 T5.out.mine).mono ?_)
            rintro e Z1 ⟨rfl, hz1⟩
            have TZ := T5.out.next hz1
            have LZ := bw_trans L5.out hz1
            have HZ := Lib.hid (show Inv w Z1.drew ⟨t, n, l⟩ b mb nb a' cap' a len cap (j + 1) _ _ G2 from ⟨TZ.next ((Below.refl _ _).drew), LZ.drew, by omega, by omega, HP2.out⟩)
            have C0 := Lib.hid (heard_w b mb a' len cap' G2 Z1.drew (TZ.mine.next ((Below.refl _ _).drew)))
            obtain ⟨_, _, _, _, _, _, z6, z7, z8⟩ := TZ.blk.cells
            simp only at z6 z7 z8
            have S0 : Z1.cell? ⟨nb, 6, none⟩ = some (.int .i64 (G2.many : Int)) ∧ Z1.cell? ⟨nb, 7, none⟩ = some (.int .i64 G2.first) ∧ Z1.cell? ⟨nb, 8, none⟩ = some (.int .i64 G2.told) := ⟨z6, z7, z8⟩
            have S1 : Z1.drew.cell? ⟨nb, 6, none⟩ = some (.int .i64 (G2.many : Int)) ∧ Z1.drew.cell? ⟨nb, 7, none⟩ = some (.int .i64 G2.first) ∧ Z1.drew.cell? ⟨nb, 8, none⟩ = some (.int .i64 G2.told) := ⟨z6, z7, z8⟩
            clear z6 z7 z8 TZ LZ hz1
            go_upto_region 30 with (fail)
            go_region_held3 (fun w' => w'.cell? ⟨nb, 6, none⟩ = some (.int .i64 (G2.many : Int)) ∧ w'.cell? ⟨nb, 7, none⟩ = some (.int .i64 G2.first) ∧ w'.cell? ⟨nb, 8, none⟩ = some (.int .i64 G2.told)) (first | exact S0 | exact S1) (first | (go_at_call 17; (with_reducible refine (C0.out).mono ?_); rintro e w' ⟨rfl, rfl⟩))
            all_goals go_wp2_with fail
            all_goals exact ⟨⟨j + 1, _, _, G2, by omega, by go_num, HZ.out⟩, by simp [intOf]; omega⟩
    · obtain rfl : j = acts.length := by omega
      go_wp2
      go_ret
      exact ⟨rfl, I0.out.below⟩

theorem plays_any (t : Bool) (n : Int) (a : Option Addr) (len cap : Nat) (l : List Int) (hello : Int) (ad : Option Addr) (acap : Nat) (acts : List Ac) (w : World) (hrow : IsRow w a len l) (har : ARow w ad acts) :
    Calls Try.prog 3 #[pv t n a len cap, .int .i64 hello, .slice ad acts.length acap] w fun e w' => e = .returned (.bool true) ∧ Below w.heap.size w w' := by
  by_cases hfew : len ≤ 40 ∧ acts.length ≤ 60
  · cases hp : portB ⟨t, n, l⟩ with
    | false => exact plays_form t n a len cap l hello ad acap acts w hrow hfew hp
    | true =>
      by_cases hh : 1 ≤ hello ∧ hello ≤ 10
      · exact plays_good t n a len cap l hello ad acap acts w hrow har hfew hp hh.1 hh.2
      · exact plays_range t n a len cap l hello ad acap acts w hrow hfew hp hh
  · exact plays_many t n a len cap l hello ad acap acts w hrow hfew
end Go.Proofs.Ytanciemiinbgmaa
