/-
  Layer 12: Pass; Move.
  Layer 12: Rest.
-/
import Derived.Test.YtojfmnndfophhaaGreatTr5
namespace Go.Proofs.YtojfmnndfophhaaGreat
set_option linter.unusedVariables false
set_option linter.unusedSimpArgs false
open Go.RowKit Vm Rm Bm Im

set_option maxRecDepth 100000 in
/-- A port into the midst of a row. -/
theorem wpList_midst {ops : Array Oper} {rest : List Oper} {op : Oper} {a : Act} {w : World} {Q : Exit → Act → World → Prop} (hgd : op.guard = none) (x y : Operand) (ho : op.op = .store 34 x y)
    (b o : Nat) (hx : a.eval x = .pointer (some ⟨b, o, none⟩)) (p : Pt) (hy : a.eval y = .agg (cellsT p)) (ht : w.there b o 61)
    (h : wpList Tryz.prog ops Q rest (a.put op.dst undef) (w.setCells b o (cellsT p).toList)) : wpList Tryz.prog ops Q (op :: rest) a w :=
  wpList_store_mid hgd 34 x y ho b o (cellsT p) hx hy ht infoSP (cellsT_one p) h
theorem modify_set {l : List Pt} {k : Nat} {p : Pt} {f : Pt → Pt} (h : l[k]? = some p) : l.modify k f = l.set k (f p) := by
  have hk := (List.getElem?_eq_some_iff.1 h).1
  apply List.ext_getElem?
  intro i
  rw [List.getElem?_modify]
  by_cases hi : k = i
  · subst hi
    rw [List.getElem?_set_self hk, h]
    simp
  · rw [List.getElem?_set_ne hi]
    simp [hi]
def PsInv (t : Tm) (l : List Pt) (n g : Nat) (W : World) (v : Value) (wr : World) : Prop :=
  ∃ k : Nat, k ≤ n ∧ v = .int .i64 (k : Nat) ∧ WRow wr g (passN t l k) ∧ Kp g W wr
theorem BrBlk.kp {w w1 : World} {b g : Nat} {i a m h d : Int} (H : BrBlk w b i a m h d) (k : Kp g w w1) (hne : b ≠ g) : BrBlk w1 b i a m h d := (k.block b H.lt hne).trans H

set_option maxRecDepth 20000 in
set_option maxHeartbeats 2000000 in
theorem pass_w (i : Int) (t : Tm) (ad : Option Addr) (cap : Nat) (l L : List Pt) (B : Bool) (w : World) (hr : PRow w ad l) (hl : l.length ≤ 1000) (hX : passP t l = (L, B)) :
    Calls Tryz.prog 5 #[brv i t.age t.max t.hello t.delay, .slice ad l.length cap] w fun e w' => Out w w' l.length L B e := by
  have K0 := Lib.hid (show BrBlk (w.alloc (.cells (bcl i t.age t.max t.hello t.delay) 26)) w.heap.size i t.age t.max t.hello t.delay from heap_alloc_new w _)
  have B0 := Lib.hid (below_box w (.cells (bcl i t.age t.max t.hello t.delay) 26))
  have CC := Lib.hid (clone_w ad cap l _ (hr.next B0.out) hl)
  obtain ⟨n, hn⟩ : ∃ n, l.length = n := ⟨_, rfl⟩
  have HR := Lib.hid hr
  have HN := Lib.hid hn
  rw [hn] at CC hl ⊢
  have hL : passN t l n = L := by
    have := congrArg Prod.fst hX
    rw [← hn]; exact this
  have hB : (!decide (passN t l n = l)) = B := by
    have := congrArg Prod.snd hX
    rw [← hn]; exact this
  have HL := Lib.hid hL
  have CE := Lib.hid (fun w' (a' : Option Addr) (cap' : Nat) (h : PRow w' ad l) (h' : PRow w' a' (passN t l n)) => equal_w ad a' cap cap' l (passN t l n) n (!B) w' h h' hn ((passN_len t l n).trans hn) hl (Lib.hid (by rw [← hB, Bool.not_not]; exact decide_eq_decide.2 ⟨fun e => e.symm, fun e => e.symm⟩)))
  have CS := Lib.hid (fun w' (p : Pt) => state_w p _ w' (Lib.hid rfl))
  have CM := Lib.hid (fun w' (g cap' k : Nat) (h : WRow w' g (passN t l k)) (hk : k < n) => show Calls Tryz.prog 12 #[brv i t.age t.max t.hello t.delay, .slice (some ⟨g, 0, none⟩) n cap', .int .i64 ((k : Nat) : Int)] w' (fun e w'' => e = .returned (.bool (moveP t (passN t l k) k).2) ∧ WRow w'' g (moveP t (passN t l k) k).1 ∧ Kp g w' w'') from by
    have e := (passN_len t l k).trans hn
    have := moveIn_w i t g cap' k (passN t l k) (moveP t (passN t l k) k).1 (moveP t (passN t l k) k).2 w' h (by omega) (by omega) rfl
    rwa [e] at this)
  clear hr hn hX hL hB
  unfold brv at *
  unfold bcl at *
  go_enter Tryz.func5, Tryz.ntmps5
  go_wp2_with fail
  (with_reducible refine CC.out.mono ?_)
  rintro e W ⟨a', cap', rfl, hcap, hown, hb1⟩
  have BW := Lib.hid (bw_trans B0.out hb1)
  have K1 := Lib.hid (K0.out.next hb1)
  have hK1l := K0.out.lt
  rw [size_box] at hK1l
  rcases hown with ⟨rfl, hl0⟩ | ⟨g, rfl, hgB, hW⟩
  · have hn0 : n = 0 := by rw [← HN.out, hl0]; rfl
    subst hn0
    clear K0 B0 CC hb1 hK1l CS CM
    go_wp2_with fail
    go_loopw [12] (fun v wr => v = .int .i64 0 ∧ Below W.heap.size W wr) (fun v _ => 0)
    case atStart => exact ⟨rfl, Below.refl _ _⟩
    case round =>
      obtain ⟨rfl, hG⟩ := hrel
      have HG := Lib.hid (bw_trans BW.out hG)
      have hp0 : passN t l 0 = l := rfl
      have HE := Lib.hid (CE.out wr none cap' (HR.out.next HG.out) (by rw [hp0, hl0]; exact prow_nil _ _))
      clear hG CE
      go_wp2_with (go_at_call 13; (with_reducible refine HE.out.mono ?_); rintro e w3 ⟨rfl, hb3⟩)
      go_ret2
      exact ⟨none, cap', rfl, hcap, by rw [← HL.out, hp0, hl0]; exact prow_nil _ _, bw_trans HG.out hb3⟩
  · have HWR := Lib.hid hW
    have hgw : w.heap.size < g := by rw [size_box] at hgB; omega
    clear K0 B0 CC hb1 hK1l hgB hW
    go_wp2_with fail
    go_loopw [12] (fun v wr => PsInv t l n g W v wr) (fun v _ => n - (intOf v).toNat)
    case atStart => exact ⟨0, Nat.zero_le _, rfl, HWR.out, Kp.refl' g W⟩
    case round =>
      obtain ⟨k, hk, rfl, hw, hK⟩ := hrel
      have HW := Lib.hid hw
      have HK := Lib.hid hK
      have hne : w.heap.size ≠ g := by omega
      obtain ⟨k0, k1, k2, k3, k4⟩ := (K1.out.kp hK hne).cells
      have HBl := Lib.hid (hK.below BW.out (by omega) BW.out.size)
      clear hw hK
      by_cases hkl : k < n
      · have hki : (k : Int) < n := by omega
        have hk0 : (0 : Int) ≤ k := by omega
        have HM := Lib.hid (CM.out wr g cap' k HW.out hkl)
        have hlen : (moveP t (passN t l k) k).1.length = n := by rw [moveP_len, passN_len]; exact HN.out
        obtain ⟨p, hp⟩ := at_some (l := (moveP t (passN t l k) k).1) (k := k) (by rw [hlen]; exact hkl)
        have hst : passN t l (k + 1) = (moveP t (passN t l k) k).1.set k (stateP p) := modify_set hp
        obtain ⟨M, hM⟩ : ∃ M, (moveP t (passN t l k) k).1 = M := ⟨_, rfl⟩
        obtain ⟨Y, hY⟩ : ∃ Y, stateP p = Y := ⟨_, rfl⟩
        have HS := Lib.hid (fun w' => hY ▸ CS.out w' p)
        rw [hM] at hst hp hlen HM
        rw [hY] at hst
        have HP := Lib.hid hp
        have HST := Lib.hid hst
        have HLN := Lib.hid hlen
        clear hst hp hlen hM hY CS CM CE
        go_wp2_with fail
        (with_reducible refine HM.out.mono ?_)
        rintro e w1 ⟨rfl, hw1, hk1⟩
        have HW1 := Lib.hid hw1
        have HK1 := Lib.hid hk1
        clear hw1 hk1 HM
        have hmid : w1.rangeAt g (k * 61) (cellsT p).toList := HW1.out.at_ k p HP.out
        go_wp2_with (first
          | (with_reducible refine wpList_mid rfl _ rfl _ _ rfl p hmid ?_)
          | (go_at_call 10; (with_reducible refine (HS.out _).mono ?_); rintro e w2 ⟨rfl, hb2⟩; have HW2 := Lib.hid (HW1.out.next hb2); have HK2 := Lib.hid (HK1.out.grow hb2); clear hb2 hmid; have hth := HW2.out.at61 (k := k) (by rw [HLN.out]; exact hkl))
          | (with_reducible refine wpList_midst rfl _ _ rfl g (k * 61) rfl Y rfl hth ?_))
        have WZ := HW2.out.set (by rw [HLN.out]; exact hkl) Y
        rw [← HST.out] at WZ
        have KZ := kp_setCells (cellsT Y).toList (k * 61) _ (HK.out.trans' HK2.out)
        exact ⟨⟨k + 1, by omega, by go_num, WZ, KZ⟩, by simp [intOf]; omega⟩
      · obtain rfl : k = n := by omega
        have HE := Lib.hid (CE.out wr (some ⟨g, 0, none⟩) cap' (HR.out.next HBl.out) HW.out.row)
        clear CE CS CM
        go_wp2_with (go_at_call 13; (with_reducible refine HE.out.mono ?_); rintro e w3 ⟨rfl, hb3⟩)
        go_ret2
        exact ⟨_, cap', rfl, hcap, by rw [← HL.out]; exact (HW.out.next hb3).row, bw_trans HBl.out hb3⟩

/-- Whether it is a place at all. -/
def placeB (l : List Pt) (at' : Int) : Bool := decide (0 ≤ at') && decide (at' < l.length)
set_option maxRecDepth 20000 in
set_option maxHeartbeats 2000000 in
theorem move_w (i : Int) (t : Tm) (ad : Option Addr) (cap k : Nat) (l L : List Pt) (B : Bool) (w : World) (hr : PRow w ad l) (hl : l.length ≤ 1000) (hX : moveP t l k = (L, B)) :
    Calls Tryz.prog 9 #[brv i t.age t.max t.hello t.delay, .slice ad l.length cap, .int .i64 ((k : Nat) : Int)] w fun e w' => Out w w' l.length L B e := by
  have K0 := Lib.hid (show BrBlk (w.alloc (.cells (bcl i t.age t.max t.hello t.delay) 26)) w.heap.size i t.age t.max t.hello t.delay from heap_alloc_new w _)
  have B0 := Lib.hid (below_box w (.cells (bcl i t.age t.max t.hello t.delay) 26))
  have CC := Lib.hid (clone_w ad cap l _ (hr.next B0.out) hl)
  obtain ⟨n, hn⟩ : ∃ n, l.length = n := ⟨_, rfl⟩
  have HN := Lib.hid hn
  rw [hn] at CC hl ⊢
  have CM := Lib.hid (fun w' (g cap' : Nat) (h : WRow w' g l) (hk : k < n) => show Calls Tryz.prog 12 #[brv i t.age t.max t.hello t.delay, .slice (some ⟨g, 0, none⟩) n cap', .int .i64 ((k : Nat) : Int)] w' (fun e w'' => e = .returned (.bool B) ∧ WRow w'' g L ∧ Kp g w' w'') from by
    have := moveIn_w i t g cap' k l L B w' h (by omega) (by omega) hX
    rwa [hn] at this)
  unfold brv at *
  unfold bcl at *
  by_cases hk : k < n
  · have hki : (k : Int) < n := by omega
    have hk0 : (0 : Int) ≤ k := by omega
    have d1 : ((k : Int) ≥ n) = False := by simp; omega
    clear hr hn hX
    go_enter Tryz.func9, Tryz.ntmps9
    go_wp2_with fail
    (with_reducible refine CC.out.mono ?_)
    rintro e W ⟨a', cap', rfl, hcap, hown, hb1⟩
    obtain ⟨g, rfl, hgB, hW⟩ : ∃ g, a' = some ⟨g, 0, none⟩ ∧ (w.alloc (.cells #[.int .u64 i, .int .i64 t.age, .int .i64 t.max, .int .i64 t.hello, .int .i64 t.delay] 26)).heap.size ≤ g ∧ WRow W g l := by
      rcases hown with ⟨_, e⟩ | h
      · have := HN.out; rw [e] at this; simp at this; omega
      · exact h
    have BW := Lib.hid (bw_trans B0.out hb1)
    obtain ⟨k0, k1, k2, k3, k4⟩ := (K0.out.next hb1).cells
    have HM := Lib.hid (CM.out W g cap' hW hk)
    have hgw : w.heap.size < g := by rw [size_box] at hgB; omega
    clear hb1 hW hgB CM CC hown K0 B0
    go_wp2_with (go_at_call 12; (with_reducible refine HM.out.mono ?_); rintro e w1 ⟨rfl, hw1, hk1⟩)
    all_goals go_ret2
    all_goals exact ⟨_, cap', rfl, hcap, hw1.row, hk1.below BW.out (by omega) BW.out.size⟩
  · have e : moveP t l k = (l, false) := by
      unfold moveP moveAtP
      rw [List.getElem?_eq_none (by omega)]
      by_cases h : rightBr t = true
      · rw [if_pos h]
      · rw [if_neg h]
    have e2 := hX.symm.trans e
    cases e2
    have hki : ¬ (k : Int) < n := by omega
    have hki2 : (k : Int) ≥ n := by omega
    have hk0 : (0 : Int) ≤ k := by omega
    clear hX hn CM
    go_enter Tryz.func9, Tryz.ntmps9
    go_wp2_with fail
    (with_reducible refine CC.out.mono ?_)
    rintro e W ⟨a', cap', rfl, hcap, hown, hb1⟩
    have O1 := Lib.hid (own_prow hown)
    have BW := Lib.hid (bw_trans B0.out hb1)
    clear hown hb1 CC
    go_wp2
    all_goals go_ret2
    all_goals exact ⟨a', cap', rfl, hcap, O1.out, BW.out⟩
end Go.Proofs.YtojfmnndfophhaaGreat

namespace Go.Proofs.YtojfmnndfophhaaGreat
set_option linter.unusedVariables false
set_option linter.unusedSimpArgs false
open Go.RowKit Vm Rm Bm Im

theorem pass_same {t : Tm} {l : List Pt} (h : (passP t l).2 = false) : (passP t l).1 = l := by
  have h' : (!decide (passN t l l.length = l)) = false := h
  rw [Bool.not_eq_false'] at h'
  exact of_decide_eq_true h'
/-- What Rest hands back: a row of its own, and a count. -/
def OutN (w w' : World) (n : Nat) (L : List Pt) (m : Nat) (e : Ending) : Prop :=
  ∃ a' cap', e = .returned (.tuple #[.slice a' n cap', .int .i64 ((m : Nat) : Int)]) ∧ n ≤ cap' ∧ PRow w' a' L ∧ Below w.heap.size w w'

set_option maxRecDepth 20000 in
set_option maxHeartbeats 1000000 in
theorem rest1_w (i : Int) (t : Tm) (bb : Nat) (ad : Option Addr) (cap : Nat) (l L : List Pt) (B : Bool) (w : World) (hb : BrBlk w bb i t.age t.max t.hello t.delay) (hr : PRow w ad l) (hl : l.length ≤ 1000) (hX : passP t l = (L, B)) :
    Calls Tryz.prog 15 #[.slice ad l.length cap, .pointer (some ⟨bb, 0, none⟩)] w fun e w' => Out w w' l.length L B e := by
  obtain ⟨k0, k1, k2, k3, k4⟩ := hb.cells
  have CP := Lib.hid (pass_w i t ad cap l L B w hr hl hX)
  obtain ⟨n, hn⟩ : ∃ n, l.length = n := ⟨_, rfl⟩
  rw [hn] at CP ⊢
  clear hb hr hl hX hn
  unfold brv at CP
  go_enter Tryz.func15, Tryz.ntmps15
  go_wp2_with (go_at_call 5; (with_reducible refine CP.out.mono ?_); rintro e w1 ⟨a', cap', rfl, h1, h2, h3⟩)
  go_ret2
  exact ⟨a', cap', rfl, h1, h2, h3⟩

def RpInv (t : Tm) (l : List Pt) (n : Nat) (w : World) (u0 u6 u9 : Value) (wr : World) : Prop :=
  ∃ (j cap : Nat) (a : Option Addr) (lj : List Pt), j ≤ 200 ∧ u0 = .slice a n cap ∧ u6 = .int .i64 ((j : Nat) : Int) ∧ u9 = .int .i64 ((j : Nat) : Int) ∧ n ≤ cap ∧ PRow wr a lj ∧ lj.length = n ∧
    restN t 200 l = ((restN t (200 - j) lj).1, (restN t (200 - j) lj).2 + j) ∧ Below w.heap.size w wr

set_option maxRecDepth 20000 in
set_option maxHeartbeats 2000000 in
theorem repeat_w (i : Int) (t : Tm) (bb : Nat) (ad : Option Addr) (cap : Nat) (l L : List Pt) (m : Nat) (w : World) (hb : BrBlk w bb i t.age t.max t.hello t.delay) (hr : PRow w ad l) (hc : l.length ≤ cap) (hl : l.length ≤ 1000) (hX : restP t l = (L, m)) :
    Calls Tryz.prog 14 #[.slice ad l.length cap, .func (.func 15) #[] #[.pointer (some ⟨bb, 0, none⟩)]] w fun e w' => OutN w w' l.length L m e := by
  obtain ⟨n, hn⟩ : ∃ n, l.length = n := ⟨_, rfl⟩
  have HN := Lib.hid hn
  have HB := Lib.hid hb
  have HX := Lib.hid hX
  have HR := Lib.hid hr
  rw [hn] at hl hc ⊢
  have C1 := Lib.hid (fun (w' : World) (a' : Option Addr) (cap' : Nat) (l' : List Pt) (hb : BrBlk w' bb i t.age t.max t.hello t.delay) (h : PRow w' a' l') (hn' : l'.length = n) => show Calls Tryz.prog 15 #[.slice a' n cap', .pointer (some ⟨bb, 0, none⟩)] w' (fun e w'' => Out w' w'' n (passP t l').1 (passP t l').2 e) from by
    have := rest1_w i t bb a' cap' l' (passP t l').1 (passP t l').2 w' hb h (by omega) rfl
    rwa [hn'] at this)
  clear hb hr hn hX
  go_enter Tryz.func14, Tryz.ntmps14
  go_wp2_with fail
  go_loopw [0, 6, 9] (fun u0 u6 u9 wr => RpInv t l n w u0 u6 u9 wr) (fun _ _ v _ => 200 - (intOf v).toNat)
  case atStart => exact ⟨0, cap, ad, l, by omega, rfl, rfl, rfl, hc, HR.out, HN.out, rfl, Below.refl _ _⟩
  case round =>
    obtain ⟨j, cj, a, lj, hj, rfl, rfl, rfl, hcj, hrj, hnj, hst, hG⟩ := hrel
    have HRJ := Lib.hid hrj
    have HNJ := Lib.hid hnj
    have HST := Lib.hid hst
    have HG := Lib.hid hG
    have HBJ := Lib.hid (HB.out.next hG)
    clear hrj hnj hst hG
    by_cases hjl : j < 200
    · have hki : (j : Int) < 200 := by omega
      have HC := Lib.hid (C1.out wr a cj lj HBJ.out HRJ.out HNJ.out)
      have e200 : 200 - j = (200 - (j + 1)) + 1 := by omega
      obtain ⟨M, hM⟩ : ∃ M, (passP t lj).1 = M := ⟨_, rfl⟩
      cases hD : (passP t lj).2 with
      | false =>
        rw [hD] at HC
        have hML : M = lj := hM.symm.trans (pass_same hD)
        have hfin := HST.out
        rw [e200, restN_stop hD] at hfin
        have hfin2 := HX.out.symm.trans hfin
        rw [hM] at HC
        cases hfin2
        subst hML
        clear hD hM hfin e200 C1
        go_wp2_with (refine HC.out.mono ?_; clear HC; rintro e w1 ⟨a1, c1, rfl, h1, h2, h3⟩)
        go_ret2
        exact ⟨a1, c1, rfl, h1, h2, bw_trans HG.out h3⟩
      | true =>
        rw [hD] at HC
        have hfin := HST.out
        rw [e200, restN_step hD] at hfin
        rw [hM] at HC hfin
        have hMn : M.length = n := by rw [← hM, pass_len]; exact HNJ.out
        have HF := Lib.hid hfin
        have HMN := Lib.hid hMn
        clear hD hM hfin e200 hMn C1
        go_wp2_with (refine HC.out.mono ?_; clear HC; rintro e w1 ⟨a1, c1, rfl, h1, h2, h3⟩)
        exact ⟨⟨j + 1, c1, a1, M, by omega, rfl, by go_num, by go_num, h1, h2, HMN.out, HF.out.trans (Prod.ext rfl (by show _ + 1 + j = _ + (j + 1); omega)), bw_trans HG.out h3⟩, by simp [intOf]; omega⟩
    · obtain rfl : j = 200 := by omega
      have hfin := HX.out.symm.trans HST.out
      cases hfin
      clear C1
      go_wp2
      go_ret2
      exact ⟨a, cj, by rfl, hcj, HRJ.out, HG.out⟩

set_option maxRecDepth 20000 in
set_option maxHeartbeats 1000000 in
theorem rest_w (i : Int) (t : Tm) (ad : Option Addr) (cap : Nat) (l L : List Pt) (m : Nat) (w : World) (hr : PRow w ad l) (hc : l.length ≤ cap) (hl : l.length ≤ 1000) (hX : restP t l = (L, m)) :
    Calls Tryz.prog 7 #[brv i t.age t.max t.hello t.delay, .slice ad l.length cap] w fun e w' => OutN w w' l.length L m e := by
  have K0 := show BrBlk (w.alloc (.cells (bcl i t.age t.max t.hello t.delay) 26)) w.heap.size i t.age t.max t.hello t.delay from heap_alloc_new w _
  have B0 := Lib.hid (below_box w (.cells (bcl i t.age t.max t.hello t.delay) 26))
  have CR := Lib.hid (repeat_w i t w.heap.size ad cap l L m _ K0 (hr.next B0.out) hc hl hX)
  obtain ⟨n, hn⟩ : ∃ n, l.length = n := ⟨_, rfl⟩
  rw [hn] at CR ⊢
  clear hr hc hl hX hn K0
  unfold brv at *
  unfold bcl at *
  go_enter Tryz.func7, Tryz.ntmps7
  go_wp2_with (go_at_call 14; (with_reducible refine CR.out.mono ?_); rintro e w1 ⟨a', cap', rfl, h1, h2, h3⟩)
  go_ret2
  exact ⟨a', cap', rfl, h1, h2, bw_trans B0.out h3⟩
end Go.Proofs.YtojfmnndfophhaaGreat
