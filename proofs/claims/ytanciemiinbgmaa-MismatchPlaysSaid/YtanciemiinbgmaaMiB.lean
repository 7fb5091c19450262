/-
  Walks of layer 6: Right, Has; the document's Right, Has.
-/
import Derived.Test.YtanciemiinbgmaaMiA
namespace Go.Proofs.Ytanciemiinbgmaa
set_option linter.unusedVariables false
set_option linter.unusedSimpArgs false
open Go.RowKit Fm Pm

theorem dec_true {p : Prop} [Decidable p] (h : p) : decide p = true := decide_eq_true h
theorem dec_false {p : Prop} [Decidable p] (h : ¬ p) : decide p = false := decide_eq_false h

set_option maxHeartbeats 1000000 in
theorem portRight_any (t : Bool) (n : Int) (a : Option Addr) (len cap : Nat) (l : List Int) (w : World) (h : IsRow w a len l) :
    Calls Try.prog 18 #[pv t n a len cap] w fun e w' => e = .returned (.bool (portB ⟨t, n, l⟩)) ∧ Below w.heap.size w w' := by
  have hlen := h.length
  have hbd := h.bound
  unfold maxLen at hbd
  have hP : portB ⟨t, n, l⟩ = (vlanB n && (if t then decide (len ≤ 16) && riseB 0 l else decide (len = 0))) := by rw [← hlen]; rfl
  have HP := Lib.hid hP; clear hP
  have K := (pblk_new 24 w t n a len cap).cells
  have HI := Lib.hid (h.next (below_box w (.cells #[.bool t, .int .i64 n, .slice a len cap] 24)))
  clear h
  obtain ⟨k0, k1, k2⟩ := K
  have BB := Lib.hid (below_box w (.cells #[.bool t, .int .i64 n, .slice a len cap] 24))
  unfold pv
  go_enter Try.func18, Try.ntmps18
  cases hv : vlanB n with
  | false =>
    have hC := Lib.hid hv; clear hv
    go_wp2_with (go_at_call 38; refine (rightVlan_any _ _).mono ?_; rintro e w' ⟨rfl, rfl⟩; rw [hC.out])
    go_ret
    refine ⟨ret_bool ?_, BB.out⟩
    rw [HP.out, hC.out]; rfl
  | true =>
    have hC := Lib.hid hv; clear hv
    cases t with
    | false =>
      go_wp2_with (go_at_call 38; refine (rightVlan_any _ _).mono ?_; rintro e w' ⟨rfl, rfl⟩; rw [hC.out])
      go_ret
      refine ⟨ret_bool ?_, BB.out⟩
      rw [HP.out, hC.out]
      rw [Bool.eq_iff_iff]; simp
    | true =>
      go_wp2_with (first
        | (go_at_call 38; refine (rightVlan_any _ _).mono ?_; rintro e w' ⟨rfl, rfl⟩; rw [hC.out])
        | (go_at_call 39; refine (allowed_any _ _ _ _ _ HI.out).mono ?_; rintro e w' ⟨rfl, rfl⟩))
      all_goals go_light
      all_goals go_ret
      all_goals refine ⟨ret_bool ?_, BB.out⟩
      all_goals (rw [HP.out, hC.out])
      all_goals (rw [Bool.eq_iff_iff]; simp; try omega)

/-- Behind i rounds of the document's outer loop; behind k of the inner one. -/
def OInv (l : List Int) (len : Nat) (w : World) (i : Value) (wr : World) : Prop :=
  ∃ j : Nat, j ≤ len ∧ i = .int .i64 (j : Nat) ∧ UpTo l j ∧ Below w.heap.size w wr
def KInv (l : List Int) (i : Nat) (n : Int) (w : World) (k : Value) (wr : World) : Prop :=
  ∃ j : Nat, j ≤ i ∧ k = .int .i64 (j : Nat) ∧ (∀ c m, c < j → l[c]? = some m → m < n) ∧ Below w.heap.size w wr

set_option maxHeartbeats 2000000 in
theorem rportRight_any (t : Bool) (n : Int) (a : Option Addr) (len cap : Nat) (l : List Int) (w : World) (h : IsRow w a len l) :
    Calls Try.prog 7 #[pv t n a len cap] w fun e w' => e = .returned (.bool (portB ⟨t, n, l⟩)) ∧ Below w.heap.size w w' := by
  have hlen := h.length
  have hbd := h.bound
  unfold maxLen at hbd
  have hP : portB ⟨t, n, l⟩ = (vlanB n && (if t then decide (len ≤ 16) && riseB 0 l else decide (len = 0))) := by rw [← hlen]; rfl
  have HP := Lib.hid hP; clear hP
  have K := (pblk_new 27 w t n a len cap).cells
  have HA := Lib.hid (h.next (below_box w (.cells #[.bool t, .int .i64 n, .slice a len cap] 27))).at_
  clear h
  obtain ⟨k0, k1, k2⟩ := K
  have BB := Lib.hid (below_box w (.cells #[.bool t, .int .i64 n, .slice a len cap] 27))
  unfold pv
  go_enter Try.func7, Try.ntmps7
  by_cases hok : vlanB n = true ∧ len ≤ 16 ∧ (t = false → len = 0)
  · obtain ⟨hv, h16, ht⟩ := hok
    have hC := Lib.hid hv; clear hv
    have hPR : portB ⟨t, n, l⟩ = riseB 0 l := by
      rw [HP.out, hC.out]
      cases t with
      | false =>
        have : l = [] := by have := ht rfl; exact List.eq_nil_of_length_eq_zero (by omega)
        subst this
        simp [riseB]; exact ht rfl
      | true => simp [h16]
    have HPR := Lib.hid hPR; clear hPR HP
    have hd : decide ((len : Int) > 16) = false := by simp; omega
    cases t with
    | false =>
      obtain rfl : len = 0 := ht rfl
      obtain rfl : l = [] := List.eq_nil_of_length_eq_zero (by omega)
      go_wp2_with (go_at_call 22; refine (in_any _ _).mono ?_; rintro e w' ⟨rfl, rfl⟩; rw [hC.out])
      refine wp_loop_rounds 1 ?_
      rw [rounds_succ]
      go_wp2
      go_ret
      refine ⟨ret_bool ?_, BB.out⟩
      rw [HPR.out]; rfl
    | true =>
      have hd : decide ((len : Int) > 16) = false := by simp; omega
      go_wp2_with (go_at_call 22; refine (in_any _ _).mono ?_; rintro e w' ⟨rfl, rfl⟩; rw [hC.out])
      obtain ⟨W, hW⟩ : ∃ W, W = w.alloc (.cells #[.bool true, .int .i64 n, .slice a len cap] 27) := ⟨_, rfl⟩
      obtain ⟨b, hb⟩ : ∃ b, b = w.heap.size := ⟨_, rfl⟩
      have PB : PBlk 27 W b true n a len cap := by rw [hW, hb]; exact pblk_new _ _ _ _ _ _ _
      rw [← hW] at HA BB ⊢
      rw [← hb] at ⊢
      clear hW hb k0 k1 k2
      go_loopw [3] (fun i wr => OInv l len W i wr) (fun i _ => len - (intOf i).toNat)
      case atStart => exact ⟨0, Nat.zero_le _, rfl, upTo_zero l, Below.refl _ _⟩
      case round =>
        obtain ⟨j, hj, rfl, hu, B1⟩ := hrel
        have HU := Lib.hid hu; clear hu
        by_cases hjl : j < len
        · obtain ⟨m, hm⟩ := at_some (l := l) (k := j) (by omega)
          obtain ⟨x, off, rfl, hx, hc0⟩ := HA.out j m hm
          have HM := Lib.hid hm; clear hm
          obtain ⟨k0, k1, k2⟩ := (PB.next B1).cells
          have hc := (B1.cell (p := ⟨x, off + j, none⟩) hx).trans hc0
          cases hv : vlanB m with
          | false =>
            have hD := Lib.hid hv; clear hv
            go_wp2_with (go_at_call 22; refine (in_any _ _).mono ?_; rintro e w' ⟨rfl, rfl⟩; rw [hD.out])
            go_ret
            refine ⟨ret_bool ?_, bw_trans BB.out B1⟩
            rw [HPR.out]; exact (not_rise_vlan HM.out hD.out).symm
          | true =>
            have hD := Lib.hid hv; clear hv
            go_wp2_with (go_at_call 22; refine (in_any _ _).mono ?_; rintro e w' ⟨rfl, rfl⟩; rw [hD.out])
            clear k0 k1 k2 hc
            go_loopw [4] (fun k wr => KInv l j m W k wr) (fun k _ => j - (intOf k).toNat)
            case atStart => exact ⟨0, Nat.zero_le _, rfl, fun c m h => by omega, B1⟩
            case round =>
              clear B1
              obtain ⟨k, hk, rfl, hq, B1⟩ := hrel
              have HQ := Lib.hid hq; clear hq
              obtain ⟨k0, k1, k2⟩ := (PB.next B1).cells
              by_cases hkj : k < j
              · obtain ⟨o, ho⟩ := at_some (l := l) (k := k) (by omega)
                obtain ⟨x', off', he, _, hc1⟩ := HA.out k o ho
                cases he
                have HO := Lib.hid ho; clear ho
                have hc := (B1.cell (p := ⟨x, off + j, none⟩) hx).trans hc0
                have hc' := (B1.cell (p := ⟨x, off + k, none⟩) hx).trans hc1
                go_wp2_with fail
                by_cases hom : o < m
                · have hd3 : decide (o ≥ m) = false := by simp; omega
                  go_quiet (fail)
                  go_wp2
                  refine ⟨⟨k + 1, by omega, by go_num, ?_, below_drewN B1 _⟩, by simp [intOf]; omega⟩
                  intro c q hc hq
                  by_cases e : c = k
                  · subst e; have := HO.out.symm.trans hq; cases this; exact hom
                  · exact HQ.out c q (by omega) hq
                · have hd3 : decide (o ≥ m) = true := by simp; omega
                  go_quiet (fail)
                  go_wp2
                  go_ret
                  refine ⟨ret_bool ?_, bw_trans BB.out (below_drewN B1 _)⟩
                  rw [HPR.out]; exact (not_rise_pair HO.out HM.out hkj (by omega)).symm
              · obtain rfl : k = j := by omega
                go_wp2
                refine ⟨⟨k + 1, by omega, by go_num, upTo_succ HU.out m HM.out hD.out HQ.out, B1⟩, by simp [intOf]; omega⟩
        · obtain rfl : j = len := by omega
          obtain ⟨k0, k1, k2⟩ := (PB.next B1).cells
          go_wp2
          go_ret
          refine ⟨ret_bool ?_, bw_trans BB.out B1⟩
          rw [HPR.out]; rw [← hlen] at HU; exact (upTo_rise HU.out).symm
  · have hbad : portB ⟨t, n, l⟩ = false := by
      cases hp : portB ⟨t, n, l⟩ with
      | false => rfl
      | true =>
        exfalso
        obtain ⟨h1, h2, h3, h4, h5⟩ := port_parts hp
        refine hok ⟨by simp [vlanB]; omega, by omega, fun h => ?_⟩
        rw [h4 h] at hlen; exact hlen.symm
    have HB := Lib.hid hbad; clear hbad HP
    cases hv : vlanB n with
    | false =>
      have hC := Lib.hid hv; clear hv
      go_wp2_with (go_at_call 22; refine (in_any _ _).mono ?_; rintro e w' ⟨rfl, rfl⟩; rw [hC.out])
      go_ret
      exact ⟨ret_bool HB.out.symm, BB.out⟩
    | true =>
      have hC := Lib.hid hv
      by_cases h16 : len ≤ 16
      · have ht : t = false := by
          cases t with
          | false => rfl
          | true => exact absurd ⟨hv, h16, fun h => by cases h⟩ hok
        have hz : ¬ len = 0 := fun e => hok ⟨hv, h16, fun _ => e⟩
        subst ht
        have hd : decide ((len : Int) > 16) = false := by simp; omega
        have hd2 : ((len : Int) != 0) = true := by simp; omega
        clear hok hv
        go_wp2_with (go_at_call 22; refine (in_any _ _).mono ?_; rintro e w' ⟨rfl, rfl⟩; rw [hC.out])
        go_ret
        exact ⟨ret_bool HB.out.symm, BB.out⟩
      · have hd : decide ((len : Int) > 16) = true := by simp; omega
        clear hok hv
        go_wp2_with (go_at_call 22; refine (in_any _ _).mono ?_; rintro e w' ⟨rfl, rfl⟩; rw [hC.out])
        go_ret
        exact ⟨ret_bool HB.out.symm, BB.out⟩

/-- Where a number stands in a row: behind the places ahead of it. -/
def IInv (l : List Int) (len : Nat) (v : Int) (w : World) (i : Value) (wr : World) : Prop :=
  ∃ j : Nat, j ≤ len ∧ i = .int .i64 (j : Nat) ∧ (∀ c m, c < j → l[c]? = some m → m ≠ v) ∧ w = wr
theorem mem_of_at {l : List Int} {k : Nat} {v : Int} (h : l[k]? = some v) : decide (v ∈ l) = true := decide_eq_true (List.mem_of_getElem? h)
theorem not_mem_upto {l : List Int} {v : Int} (h : ∀ c m, c < l.length → l[c]? = some m → m ≠ v) : decide (v ∈ l) = false := by
  refine decide_eq_false fun hm => ?_
  obtain ⟨c, hc⟩ := List.getElem?_of_mem hm
  exact h c v (List.getElem?_eq_some_iff.1 hc).1 hc rfl

set_option maxHeartbeats 1000000 in
theorem index_any (a : Option Addr) (len cap : Nat) (l : List Int) (v : Int) (w : World) (h : IsRow w a len l) :
    Calls Try.prog 48 #[.slice a len cap, .int .i64 v] w fun e w' => (∃ r : Int, e = .returned (.int .i64 r) ∧ decide (r ≥ 0) = decide (v ∈ l)) ∧ w = w' := by
  have hlen := h.length
  have hbd := h.bound
  have HA := Lib.hid h.at_
  clear h
  unfold maxLen at hbd
  go_enter Try.func48, Try.ntmps48
  go_wp2_with fail
  go_loopw [8] (fun i wr => IInv l len v w i wr) (fun i _ => len - (intOf i).toNat)
  case atStart => exact ⟨0, Nat.zero_le _, rfl, fun c m h => by omega, rfl⟩
  case round =>
    obtain ⟨j, hj, rfl, hq, rfl⟩ := hrel
    have HQ := Lib.hid hq; clear hq
    by_cases hjl : j < len
    · obtain ⟨n, hn⟩ := at_some (l := l) (k := j) (by omega)
      obtain ⟨x, off, rfl, hx, hc⟩ := HA.out j n hn
      have HN := Lib.hid hn; clear hn
      by_cases hvn : v = n
      · subst hvn
        go_wp2
        go_ret
        refine ⟨⟨_, rfl, ?_⟩, rfl⟩
        rw [mem_of_at HN.out]; simp
      · have hd : (v == n) = false := by simpa using hvn
        go_wp2
        refine ⟨⟨j + 1, by omega, by go_num, ?_, rfl⟩, by simp [intOf]; omega⟩
        intro c q hc hq
        by_cases e : c = j
        · subst e; have := HN.out.symm.trans hq; cases this; exact fun e => hvn e.symm
        · exact HQ.out c q (by omega) hq
    · obtain rfl : j = len := by omega
      go_wp2
      go_ret
      refine ⟨⟨_, rfl, ?_⟩, rfl⟩
      rw [← hlen] at HQ
      rw [not_mem_upto HQ.out]; simp

set_option maxHeartbeats 400000 in
theorem contains_any (a : Option Addr) (len cap : Nat) (l : List Int) (v : Int) (w : World) (h : IsRow w a len l) :
    Calls Try.prog 40 #[.slice a len cap, .int .i64 v] w fun e w' => e = .returned (.bool (decide (v ∈ l))) ∧ w = w' := by
  go_enter Try.func40, Try.ntmps40
  go_wp2_with fail
  refine (index_any a len cap l v w h).mono ?_
  rintro e w' ⟨⟨r, rfl, hr⟩, rfl⟩
  have HR := Lib.hid hr; clear hr
  go_wp2
  go_ret
  exact ⟨ret_bool HR.out, rfl⟩

set_option maxHeartbeats 1000000 in
theorem has_any (t : Bool) (n : Int) (a : Option Addr) (len cap : Nat) (l : List Int) (v : Int) (w : World) (h : IsRow w a len l) :
    Calls Try.prog 19 #[pv t n a len cap, .int .i64 v] w fun e w' => e = .returned (.bool (hasB ⟨t, n, l⟩ v)) ∧ Below w.heap.size w w' := by
  have hbd := h.bound
  unfold maxLen at hbd
  have PB := pblk_new 24 w t n a len cap
  have BB := below_box w (.cells #[.bool t, .int .i64 n, .slice a len cap] 24)
  have hI := h.next BB
  clear h
  go_enter Try.func19, Try.ntmps19
  obtain ⟨k0, k1, k2⟩ := PB.cells
  go_wp2_with fail
  have hpw := portRight_any t n a len cap l _ hI
  refine hpw.mono ?_
  clear hpw
  rintro e w1 ⟨rfl, hb1⟩
  have hI1 := Lib.hid (hI.next hb1)
  have P1 := PB.next hb1
  have B1 := Lib.hid (bw_trans BB hb1)
  clear hI PB BB hb1 k0 k1 k2
  obtain ⟨k0, k1, k2⟩ := P1.cells
  clear P1
  cases hp : portB ⟨t, n, l⟩ with
  | false =>
    have hH : hasB ⟨t, n, l⟩ v = false := by unfold hasB; rw [hp]; rfl
    have HH := Lib.hid hH; clear hH hp
    go_wp2
    go_ret
    exact ⟨ret_bool HH.out.symm, B1.out⟩
  | true =>
    cases t with
    | false =>
      have hH : hasB ⟨false, n, l⟩ v = (v == n) := by unfold hasB; rw [hp, Bool.eq_iff_iff]; simp
      have HH := Lib.hid hH; clear hH hp
      go_wp2
      go_ret
      exact ⟨ret_bool HH.out.symm, B1.out⟩
    | true =>
      have hH : hasB ⟨true, n, l⟩ v = decide (v ∈ l) := by unfold hasB; rw [hp, Bool.eq_iff_iff]; simp
      have HH := Lib.hid hH; clear hH hp
      go_wp2_with (go_at_call 40; refine (contains_any _ _ _ _ _ _ hI1.out).mono ?_; rintro e w' ⟨rfl, rfl⟩)
      go_ret
      exact ⟨ret_bool HH.out.symm, B1.out⟩

set_option maxHeartbeats 1000000 in
theorem rhas_any (t : Bool) (n : Int) (a : Option Addr) (len cap : Nat) (l : List Int) (v : Int) (w : World) (h : IsRow w a len l) :
    Calls Try.prog 25 #[pv t n a len cap, .int .i64 v] w fun e w' => e = .returned (.bool (hasB ⟨t, n, l⟩ v)) ∧ Below w.heap.size w w' := by
  have hlen := h.length
  have hbd := h.bound
  unfold maxLen at hbd
  have PB := pblk_new 27 w t n a len cap
  have BB := below_box w (.cells #[.bool t, .int .i64 n, .slice a len cap] 27)
  have hI := h.next BB
  clear h
  go_enter Try.func25, Try.ntmps25
  obtain ⟨k0, k1, k2⟩ := PB.cells
  go_wp2_with fail
  have hpw := rportRight_any t n a len cap l _ hI
  refine hpw.mono ?_
  clear hpw
  rintro e w1 ⟨rfl, hb1⟩
  have HA := Lib.hid (hI.next hb1).at_
  have P1 := PB.next hb1
  have B1 := Lib.hid (bw_trans BB hb1)
  clear hI PB BB hb1 k0 k1 k2
  obtain ⟨k0, k1, k2⟩ := P1.cells
  clear P1
  cases hp : portB ⟨t, n, l⟩ with
  | false =>
    have hH : hasB ⟨t, n, l⟩ v = false := by unfold hasB; rw [hp]; rfl
    have HH := Lib.hid hH; clear hH hp
    go_wp2
    go_ret
    exact ⟨ret_bool HH.out.symm, B1.out⟩
  | true =>
    cases t with
    | false =>
      have hH : hasB ⟨false, n, l⟩ v = (v == n) := by unfold hasB; rw [hp, Bool.eq_iff_iff]; simp
      have HH := Lib.hid hH; clear hH hp
      go_wp2
      go_ret
      exact ⟨ret_bool HH.out.symm, B1.out⟩
    | true =>
      have hH : hasB ⟨true, n, l⟩ v = decide (v ∈ l) := by unfold hasB; rw [hp, Bool.eq_iff_iff]; simp
      have HH := Lib.hid hH; clear hH hp
      obtain ⟨b, hb⟩ : ∃ b, b = w.heap.size := ⟨_, rfl⟩
      rw [← hb] at k0 k1 k2 ⊢
      clear hb
      go_wp2_with fail
      go_loopw [5] (fun i wr => IInv l len v w1 i wr) (fun i _ => len - (intOf i).toNat)
      case atStart => exact ⟨0, Nat.zero_le _, rfl, fun c m h => by omega, rfl⟩
      case round =>
        obtain ⟨j, hj, rfl, hq, rfl⟩ := hrel
        have HQ := Lib.hid hq; clear hq
        by_cases hjl : j < len
        · obtain ⟨n', hn⟩ := at_some (l := l) (k := j) (by omega)
          obtain ⟨x, off, rfl, hx, hc⟩ := HA.out j n' hn
          have HN := Lib.hid hn; clear hn
          by_cases hvn : n' = v
          · subst hvn
            go_wp2
            go_ret
            refine ⟨ret_bool ?_, B1.out⟩
            rw [HH.out, mem_of_at HN.out]
          · have hd : (n' == v) = false := by simpa using hvn
            go_wp2
            refine ⟨⟨j + 1, by omega, by go_num, ?_, rfl⟩, by simp [intOf]; omega⟩
            intro c q hc hq
            by_cases e : c = j
            · subst e; have := HN.out.symm.trans hq; cases this; exact hvn
            · exact HQ.out c q (by omega) hq
        · obtain rfl : j = len := by omega
          go_wp2
          go_ret
          refine ⟨ret_bool ?_, B1.out⟩
          rw [← hlen] at HQ
          rw [HH.out, not_mem_upto HQ.out]
end Go.Proofs.Ytanciemiinbgmaa
