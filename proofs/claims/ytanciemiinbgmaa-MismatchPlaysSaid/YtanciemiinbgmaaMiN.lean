/-
  Layer 9: the document's Blocked, Same, List.
-/
import Derived.Test.YtanciemiinbgmaaMiM
namespace Go.Proofs.Ytanciemiinbgmaa
set_option linter.unusedVariables false
set_option linter.unusedSimpArgs false
open Go.RowKit Go.Maps Pm Mm

/-- Behind j entries, none of which blocks. -/
def BInv (g : Gd) (v : Int) (W : World) (i : Value) (wr : World) : Prop :=
  ∃ j : Nat, j ≤ g.l.length ∧ i = .int .i64 (j : Nat) ∧ (∀ k x, k < j → g.l[k]? = some x → ¬ (x.vlan = v ∧ g.now < x.till)) ∧ Below W.heap.size W wr
theorem blocked_at {g : Gd} {v : Int} {k : Nat} {x : He} (h : g.l[k]? = some x) (h1 : x.vlan = v) (h2 : g.now < x.till) : blockedG g v = true := blocked_iff.2 ⟨x, List.mem_of_getElem? h, h1, h2⟩
theorem blocked_none {g : Gd} {v : Int} (h : ∀ k x, k < g.l.length → g.l[k]? = some x → ¬ (x.vlan = v ∧ g.now < x.till)) : blockedG g v = false := by
  cases hb : blockedG g v with
  | false => rfl
  | true =>
    obtain ⟨x, hx, h1, h2⟩ := blocked_iff.1 hb
    obtain ⟨k, hk⟩ := List.getElem?_of_mem hx
    exact absurd ⟨h1, h2⟩ (h k x (List.getElem?_eq_some_iff.1 hk).1 hk)

set_option maxRecDepth 20000 in
set_option maxHeartbeats 2000000 in
theorem rblocked_w (g : Gd) (a : Option Addr) (len cap : Nat) (la : Option Addr) (lc : Nat) (v : Int) (w : World) (h : DMem w g a len la lc) :
    Calls Try.prog 12 #[dv (dOf g a len cap la lc), .int .i64 v] w fun e w' => e = .returned (.bool (blockedG g v)) ∧ Below w.heap.size w w' := by
  have hfew := h.few
  obtain ⟨W, hW⟩ : ∃ W, W = w.alloc (.cells #[.bool g.po.trunk, .int .i64 g.po.native, .slice a len cap, .int .i64 g.hello, .int .i64 g.now, .slice la g.l.length lc, .int .i64 g.many, .int .i64 g.first, .int .i64 g.told] 30) := ⟨_, rfl⟩
  have kD : DBlk W w.heap.size (dOf g a len cap la lc) := by rw [hW]; exact dblk_new w (dOf g a len cap la lc)
  have kB : Below w.heap.size w W := by rw [hW]; exact below_box _ _
  have HR := Lib.hid (h.hrow.next kB)
  have HD := Lib.hid kD
  have HB := Lib.hid kB
  have HW := Lib.hid hW
  obtain ⟨nb, hnb⟩ : ∃ nb, nb = w.heap.size := ⟨_, rfl⟩
  rw [← hnb] at HD
  have HN := Lib.hid hnb
  clear h kD kB hW hnb
  go_enter Try.func12, Try.ntmps12
  go_wp2_with fail
  rw [← HW.out, ← HN.out]
  go_loopw [5] (fun i wr => BInv g v W i wr) (fun i _ => g.l.length - (intOf i).toNat)
  case atStart => exact ⟨0, Nat.zero_le _, rfl, fun k x h => by omega, Below.refl _ _⟩
  case round =>
    obtain ⟨j, hj, rfl, hq, hB⟩ := hrel
    have HQ := Lib.hid hq
    have HWB := Lib.hid hB
    obtain ⟨_, _, _, _, c4, c5, _⟩ := (HD.out.next hB).cells
    simp only at c4 c5
    clear hq hB
    by_cases hjl : j < g.l.length
    · obtain ⟨x, hx⟩ := at_some (l := g.l) (k := j) hjl
      obtain ⟨q, off, rfl, hg, h0, h1⟩ := (HR.out.next HWB.out).at_ j x hx
      obtain ⟨xv, xt⟩ := x
      simp only at h0 h1
      have HX := Lib.hid hx
      clear hx
      by_cases hv : xv = v
      · have hd1 : (xv == v) = true := by simpa using hv
        by_cases ht : g.now < xt
        · have hd2 : decide (g.now < xt) = true := decide_eq_true ht
          have HA := Lib.hid (blocked_at HX.out hv ht)
          clear hv ht
          go_wp2_with fail
          go_quiet (fail)
          go_wp2
          go_ret
          exact ⟨ret_bool HA.out.symm, bw_trans HB.out (below_drewN HWB.out _)⟩
        · have hd2 : decide (g.now < xt) = false := decide_eq_false ht
          have HA := Lib.hid ht
          clear hv ht
          go_wp2_with fail
          go_quiet (fail)
          go_wp2
          refine ⟨⟨j + 1, by omega, by go_num, ?_, below_drewN HWB.out _⟩, by simp [intOf]; omega⟩
          intro k y hk hy
          by_cases e : k = j
          · subst e; have := HX.out.symm.trans hy; cases this; exact fun c => by have h1 := HA.out; have h2 : g.now < xt := c.2; omega
          · exact HQ.out k y (by omega) hy
      · have hd1 : (xv == v) = false := by simpa using hv
        have HA := Lib.hid hv
        clear hv
        go_wp2_with fail
        go_quiet (fail)
        go_wp2
        refine ⟨⟨j + 1, by omega, by go_num, ?_, below_drewN HWB.out _⟩, by simp [intOf]; omega⟩
        intro k y hk hy
        by_cases e : k = j
        · subst e; have := HX.out.symm.trans hy; cases this; exact fun c => HA.out c.1
        · exact HQ.out k y (by omega) hy
    · obtain rfl : j = g.l.length := by omega
      go_wp2
      go_ret
      exact ⟨ret_bool (blocked_none HQ.out).symm, bw_trans HB.out HWB.out⟩

/-! ### Same -/
def SInv (l m : List Int) (W : World) (i : Value) (wr : World) : Prop :=
  ∃ j : Nat, j ≤ l.length ∧ i = .int .i64 (j : Nat) ∧ (∀ k, k < j → l[k]? = m[k]?) ∧ Below W.heap.size W wr
set_option maxRecDepth 20000 in
set_option maxHeartbeats 1000000 in
theorem same_w (a1 a2 : Option Addr) (c1 c2 : Nat) (l m : List Int) (w : World) (h1 : IsRow w a1 l.length l) (h2 : IsRow w a2 m.length m) :
    Calls Try.prog 14 #[.slice a1 l.length c1, .slice a2 m.length c2] w fun e w' => e = .returned (.bool (decide (l = m))) ∧ Below w.heap.size w w' := by
  have hb1 := h1.bound
  unfold maxLen at hb1
  by_cases hlen : l.length = m.length
  · have H1 := Lib.hid h1
    have H2 := Lib.hid h2
    have hne : ((l.length : Int) != m.length) = false := by simp; omega
    clear h1 h2
    go_enter Try.func14, Try.ntmps14
    go_wp2_with fail
    go_loopw [5] (fun i wr => SInv l m w i wr) (fun i _ => l.length - (intOf i).toNat)
    case atStart => exact ⟨0, Nat.zero_le _, rfl, fun k h => by omega, Below.refl _ _⟩
    case round =>
      obtain ⟨j, hj, rfl, hq, hB⟩ := hrel
      have HQ := Lib.hid hq
      have HB := Lib.hid hB
      clear hq hB
      by_cases hjl : j < l.length
      · obtain ⟨x, hx⟩ := at_some (l := l) (k := j) hjl
        obtain ⟨y, hy⟩ := at_some (l := m) (k := j) (by omega)
        obtain ⟨q, off, rfl, hg, k0⟩ := (H1.out.next HB.out).at_ j x hx
        obtain ⟨q', off', rfl, hg', k1⟩ := (H2.out.next HB.out).at_ j y hy
        have HX := Lib.hid hx
        have HY := Lib.hid hy
        clear hx hy
        have hjm : j < m.length := by omega
        by_cases he : x = y
        · have hd : (x != y) = false := by simp [he]
          have HE := Lib.hid he
          clear he
          go_wp2_with fail
          go_quiet (fail)
          go_wp2
          refine ⟨⟨j + 1, by omega, by go_num, ?_, below_drewN HB.out _⟩, by simp [intOf]; omega⟩
          intro k hk
          by_cases e : k = j
          · subst e; rw [HX.out, HY.out, HE.out]
          · exact HQ.out k (by omega)
        · have hd : (x != y) = true := by simp [he]
          have HE := Lib.hid he
          clear he
          go_wp2_with fail
          go_quiet (fail)
          go_wp2
          go_ret
          refine ⟨ret_bool (decide_eq_false fun e => ?_).symm, below_drewN HB.out _⟩
          have := HX.out
          rw [e, HY.out] at this
          exact HE.out (Option.some.inj this).symm
      · obtain rfl : j = l.length := by omega
        go_wp2
        go_ret
        refine ⟨ret_bool (decide_eq_true ?_).symm, HB.out⟩
        refine List.ext_getElem? fun k => ?_
        by_cases hk : k < l.length
        · exact HQ.out k hk
        · rw [List.getElem?_eq_none (by omega), List.getElem?_eq_none (by omega)]
  · have hne : ((l.length : Int) != m.length) = true := by simp; omega
    have hd : decide (l = m) = false := decide_eq_false fun e => hlen (by rw [e])
    rw [hd]
    clear h1 h2 hd
    go_enter Try.func14, Try.ntmps14
    go_wp2
    go_ret
    exact ⟨rfl, Below.refl _ _⟩

/-! ### List -/
/-- Behind k VLANs. -/
def NInv (g : Gd) (W : World) (out i : Value) (wr : World) : Prop :=
  ∃ k : Nat, k ≤ 4094 ∧ i = .int .i64 ((k : Nat) + 1) ∧ wr.ownsRow W.heap.size 3 1 out (listN g k).length ((listN g k).map encZ) ∧ Below W.heap.size W wr
theorem listN_len (g : Gd) : ∀ k : Nat, (listN g k).length ≤ k
  | 0 => Nat.le_refl _
  | k + 1 => by
    have := listN_len g k
    rw [listN, List.length_append]
    split <;> simp <;> omega
theorem blocked_nil {g : Gd} (h : g.l.length = 0) (v : Int) : blockedG g v = false := by
  have : g.l = [] := List.eq_nil_of_length_eq_zero h
  unfold blockedG
  rw [this]
  rfl

set_option maxRecDepth 20000 in
set_option maxHeartbeats 2000000 in
theorem rlist_w (g : Gd) (a : Option Addr) (len cap : Nat) (la : Option Addr) (lc : Nat) (w : World) (h : DMem w g a len la lc) :
    Calls Try.prog 15 #[dv (dOf g a len cap la lc)] w fun e w' => ∃ (a' : Option Addr) (cap' : Nat), e = .returned (.slice a' (listG g).length cap') ∧ IsRow w' a' (listG g).length (listG g) ∧ Below w.heap.size w w' := by
  have hfew := h.few
  obtain ⟨i0, hi, hz0, hz1, hz2⟩ := info_parts infoI
  obtain ⟨W, hW⟩ : ∃ W, W = w.alloc (.cells #[.bool g.po.trunk, .int .i64 g.po.native, .slice a len cap, .int .i64 g.hello, .int .i64 g.now, .slice la g.l.length lc, .int .i64 g.many, .int .i64 g.first, .int .i64 g.told] 30) := ⟨_, rfl⟩
  have kD : DBlk W w.heap.size (dOf g a len cap la lc) := by rw [hW]; exact dblk_new w (dOf g a len cap la lc)
  have kB : Below w.heap.size w W := by rw [hW]; exact below_box _ _
  have HM := Lib.hid (h.next kB)
  have HD := Lib.hid kD
  have HB := Lib.hid kB
  have HW := Lib.hid hW
  obtain ⟨nb, hnb⟩ : ∃ nb, nb = w.heap.size := ⟨_, rfl⟩
  rw [← hnb] at HD
  have HN := Lib.hid hnb
  clear h kD kB hW hnb
  go_enter Try.func15, Try.ntmps15
  go_wp2_with fail
  rw [← HW.out, ← HN.out]
  go_loopw [3, 4] (fun out i wr => NInv g W out i wr) (fun _ i _ => 4095 - (intOf i).toNat)
  case atStart => exact ⟨0, Nat.zero_le _, rfl, World.ownsRow_nil _ _ _ _, Below.refl _ _⟩
  case round =>
    obtain ⟨k, hk, rfl, hown, hB⟩ := hrel
    have HO := Lib.hid hown
    have HWB := Lib.hid hB
    obtain ⟨c0, c1, c2, c3, c4, c5, c6, c7, c8⟩ := (HD.out.next hB).cells
    simp only at c0 c1 c2 c3 c4 c5 c6 c7 c8
    have HBl := Lib.hid (rblocked_w g a len cap la lc ((k : Int) + 1) wr (HM.out.next hB))
    have hkl := listN_len g k
    clear hown hB
    by_cases hkl' : k < 4094
    · cases hbv : blockedG g ((k : Int) + 1) with
      | false =>
        have HQ := Lib.hid hbv
        rw [hbv] at HBl
        clear hbv
        go_wp2_with (go_at_call 12; with_reducible refine (HBl.out).mono ?_; rintro e w5 ⟨rfl, hb5⟩)
        all_goals first
          | (refine ⟨⟨k + 1, by omega, by go_num, ?_, HWB.out.trans (hb5.mono HWB.out.size)⟩, by simp [intOf]; omega⟩
             rw [listN, HQ.out, if_neg Bool.false_ne_true, List.append_nil]
             exact own_next HO.out hb5)
          | (refine ⟨⟨k + 1, by omega, by go_num, ?_, HWB.out⟩, by simp [intOf]; omega⟩
             rw [listN, HQ.out, if_neg Bool.false_ne_true, List.append_nil]
             exact HO.out)
      | true =>
        have hl0 : ¬ g.l.length = 0 := fun e => by rw [blocked_nil e] at hbv; cases hbv
        have hpos : 0 < g.l.length := by omega
        have HQ := Lib.hid hbv
        rw [hbv] at HBl
        clear hbv hl0
        go_wp2_with (first
          | (go_at_call 12; with_reducible refine (HBl.out).mono ?_; rintro e w5 ⟨rfl, hb5⟩; have O5 := own_next HO.out hb5; have B5 := HWB.out.trans (hb5.mono HWB.out.size); have hs5 := B5.size)
          | (at_builtin; refine wpList_append_lies _ (by rfl) _ _ _ (by rfl) W.heap.size 3 i0 (.int .i64 0) 1 8 Try.underlying22 hi hz0 hz1 hz2 rfl (by decide) _ _ _ (by rfl) (O5.alloc _) ⟨w5.heap.size, 0, none⟩ 1 1 [encZ ((k : Int) + 1)] (by rfl) rfl (cell_one_new w5 (encZ ((k : Int) + 1)) 3) (by intro u hu; simp at hu; subst hu; rfl) (by decide) (by unfold maxLen; omega) (by omega) (by simp; omega) _ rfl ?_; intro q cap7 y hown hgrow hat hlt))
        all_goals first
          | (exfalso; omega)
          | skip
        have hO7 := own_block O5
        refine ⟨⟨k + 1, by omega, by go_num, ?_, ?_⟩, by simp [intOf]; omega⟩
        · rw [listN, HQ.out, if_pos rfl, List.map_append, List.length_append]
          exact hown
        · refine (B5.trans ((below_box w5 _).mono hs5)).grown hgrow (by simp; omega) (fun q e => ?_)
          rcases hO7 with h0 | ⟨q', h0, h1⟩
          · rw [h0] at e; cases e
          · rw [h0] at e; cases e; exact h1
    · obtain rfl : k = 4094 := by omega
      go_wp2
      obtain ⟨a', cap', rfl, hr, _, _⟩ := row_owned HO.out rfl (by unfold maxLen; omega)
      go_ret
      exact ⟨a', cap', rfl, hr, bw_trans HB.out HWB.out⟩
end Go.Proofs.Ytanciemiinbgmaa
