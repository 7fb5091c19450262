/-
  Layer 8: Right of the package, and the document's.
-/
import Derived.Test.YtbiggckddoeghaaRoD
import Derived.Lib.SliceRun
namespace Go.Proofs.Ytbiggckddoeghaa
set_option linter.unusedVariables false
set_option linter.unusedSimpArgs false
open Go.RowKit Vm Rm

theorem right_long {l : List Inf} (h : 16 < l.length) : rightR l = false := by
  unfold rightR
  rw [decide_eq_false (by omega)]
  rfl
/-- Behind k rounds: the first k are right. -/
def RInv (l : List Inf) (n : Nat) (w : World) (v : Value) (wr : World) : Prop :=
  ∃ k : Nat, k ≤ n ∧ v = .int .i64 (k : Nat) ∧ rightR (l.take k) = true ∧ Below w.heap.size w wr

set_option maxHeartbeats 1000000 in
theorem right_w (a : Option Addr) (cap : Nat) (l : List Inf) (R : Bool) (w : World) (h : IRow w a l) (hl : l.length ≤ 1000) (hcap : l.length ≤ cap) (hR : Hid (rightR l = R)) :
    Calls Try.prog 60 #[.slice a l.length cap] w fun e w' => e = .returned (.bool R) ∧ Below w.heap.size w w' := by
  obtain ⟨n, hn⟩ : ∃ n, l.length = n := ⟨_, rfl⟩
  have HN := Lib.hid hn
  by_cases h16 : 16 < n
  · have hy : R = false := by rw [← hR.out]; exact right_long (by omega)
    subst hy
    rw [hn] at hl hcap ⊢
    clear h hn hR
    go_enter Try.func60, Try.ntmps60
    go_wp2
    go_ret
    exact ⟨rfl, Below.refl _ _⟩
  rw [hn] at hl hcap ⊢
  have HA := Lib.hid h
  clear h hn
  go_enter Try.func60, Try.ntmps60
  go_wp2_with fail
  go_loopw [11] (fun v wr => RInv l n w v wr) (fun v _ => n - (intOf v).toNat)
  case atStart => exact ⟨0, Nat.zero_le _, rfl, right_zero l, Below.refl _ _⟩
  case round =>
    obtain ⟨k, hk, rfl, hr, hG⟩ := hrel
    by_cases hkl : k < n
    · obtain ⟨⟨xi, xc, xs, ⟨r, q, b, p⟩⟩, hx⟩ := at_some (l := l) (k := k) (by rw [HN.out]; exact hkl)
      have hA := HA.out.next hG
      have ok := hA.ok hx
      obtain ⟨g, o, rfl, hgr, q0, q1, q2, q3, q4, q5, q6⟩ := hA.at_ k _ hx
      simp only at q0 q1 q2 q3 q4 q5 q6
      have hnx := right_next hx (by omega)
      rw [hr, Bool.true_and] at hnx
      obtain ⟨I, hI⟩ : ∃ I, infB ⟨xi, xc, xs, ⟨r, q, b, p⟩⟩ = I := ⟨_, rfl⟩
      obtain ⟨C, hC⟩ : ∃ C, clashB (l.take k) xi = C := ⟨_, rfl⟩
      simp only at hnx
      rw [hI, hC] at hnx
      have HX := Lib.hid hnx
      have HR := Lib.hid hr
      have HA2 := Lib.hid hA
      have HOK := Lib.hid ok
      have CP := Lib.hid (fun w' => port_w xi xc xs r q b p I w' (Lib.hid hI) ok.id ok.cost ok.vec.c)
      have HC := Lib.hid hC
      have hlt : (l.take k).length = k := by rw [List.length_take, HN.out]; omega
      have HL := Lib.hid hlt
      clear hnx hr hA ok hI hC hx hlt
      go_wp2_with fail
      (with_reducible refine (CP.out _).mono ?_)
      rintro e w1 ⟨rfl, hb1⟩
      have K := (iblk_new 98 wr xi xc xs r q b p).next hb1
      have hB1 := bw_trans (below_box wr _) hb1
      clear hb1
      cases I with
      | false =>
        have hy : R = false := by rw [← hR.out]; exact right_not HX.out
        subst hy
        clear hR
        go_wp2
        go_ret
        exact ⟨rfl, bw_trans hG hB1⟩
      | true =>
        have CC := contains_w (some ⟨g, o, none⟩) cap wr.heap.size (l.take k) xi C w1 ((HA2.out.next hB1).take k) (by rw [HL.out]; omega) K.cells.1 K.lt HC
        rw [HL.out] at CC
        have hkn : (k : Int) ≤ cap := by omega
        cases C with
        | true =>
          have hy : R = false := by rw [← hR.out]; exact right_not HX.out
          subst hy
          clear hR K
          go_wp2_with fail
          refine CC.mono ?_
          clear CC
          rintro e w2 ⟨rfl, hb2⟩
          go_wp2
          go_ret
          exact ⟨rfl, bw_trans (bw_trans hG hB1) hb2⟩
        | false =>
          go_wp2_with fail
          refine CC.mono ?_
          clear CC
          rintro e w2 ⟨rfl, hb2⟩
          go_wp2_with fail
          exact ⟨⟨k + 1, by omega, by go_num, HX.out, bw_trans (bw_trans hG hB1) hb2⟩, by simp [intOf]; omega⟩
    · obtain rfl : k = n := by omega
      have hy : R = true := by rw [← hR.out, ← hr, ← HN.out, List.take_length]
      subst hy
      go_wp2
      go_ret
      exact ⟨rfl, hG⟩

/-! ### The document's Right -/
/-- Behind k rounds of the inner loop, in the outer one's round m: no earlier Id is p's. -/
theorem clash_step {l : List Inf} {i : Int} {k : Nat} {x : Inf} (h : ∀ j y, j < k → l[j]? = some y → ¬ y.id = i) (hx : l[k]? = some x) (hn : ¬ x.id = i) : ∀ j y, j < k + 1 → l[j]? = some y → ¬ y.id = i := by
  intro j y hj hy
  by_cases e : j = k
  · subst e; rw [hx] at hy; cases hy; exact hn
  · exact h j y (by omega) hy
theorem clash_take {l : List Inf} {i : Int} {k : Nat} (h : ∀ j y, j < k → l[j]? = some y → ¬ y.id = i) : clashB (l.take k) i = false := by
  refine clash_no fun j x hj hx => ?_
  rw [List.length_take] at hj
  rw [take_at (by omega)] at hx
  exact h j x (by omega) hx
def R2Inv (l : List Inf) (n : Nat) (w : World) (v : Value) (wr : World) : Prop :=
  ∃ k : Nat, k ≤ n ∧ v = .int .i64 (k : Nat) ∧ rightR (l.take k) = true ∧ Below w.heap.size w wr

set_option maxRecDepth 20000 in
set_option maxHeartbeats 2000000 in
theorem right8_w (a : Option Addr) (cap : Nat) (l : List Inf) (R : Bool) (w : World) (h : IRow w a l) (hl : l.length ≤ 1000) (hR : Hid (rightR l = R)) :
    Calls Try.prog 17 #[.slice a l.length cap] w fun e w' => e = .returned (.bool R) ∧ Below w.heap.size w w' := by
  obtain ⟨n, hn⟩ : ∃ n, l.length = n := ⟨_, rfl⟩
  have HN := Lib.hid hn
  by_cases h16 : 16 < n
  · have hy : R = false := by rw [← hR.out]; exact right_long (by omega)
    subst hy
    rw [hn] at hl ⊢
    clear h hn hR
    go_enter Try.func17, Try.ntmps17
    go_wp2
    go_ret
    exact ⟨rfl, Below.refl _ _⟩
  rw [hn] at hl ⊢
  have HA := Lib.hid h
  clear h hn
  go_enter Try.func17, Try.ntmps17
  go_wp2_with fail
  go_loopw [3] (fun v wr => R2Inv l n w v wr) (fun v _ => n - (intOf v).toNat)
  case atStart => exact ⟨0, Nat.zero_le _, rfl, right_zero l, Below.refl _ _⟩
  case round =>
    obtain ⟨k, hk, rfl, hr, hG⟩ := hrel
    by_cases hkl : k < n
    · obtain ⟨⟨xi, xc, xs, ⟨r, q, b, p⟩⟩, hx⟩ := at_some (l := l) (k := k) (by rw [HN.out]; exact hkl)
      have hA := HA.out.next hG
      have ok := hA.ok hx
      obtain ⟨g, o, rfl, hgr, q0, q1, q2, q3, q4, q5, q6⟩ := hA.at_ k _ hx
      simp only at q0 q1 q2 q3 q4 q5 q6
      have hnx := right_next hx (by omega)
      rw [hr, Bool.true_and] at hnx
      simp only at hnx
      have hk1 : (k : Int) < n := by omega
      cases hI : infB ⟨xi, xc, xs, ⟨r, q, b, p⟩⟩ with
      | false =>
        have hy : R = false := by rw [← hR.out]; exact right_not (by rw [hnx, hI]; rfl)
        subst hy
        obtain ⟨⟨oi0, oi1⟩, ⟨oc0, oc1⟩, ⟨os0, os1⟩, ⟨or0, or1⟩, ⟨oq0, oq1⟩, ⟨ob0, ob1⟩, ⟨op0, op1⟩⟩ := ok
        simp only at oi0 oi1 oc0 oc1 os0 os1 or0 or1 oq0 oq1 ob0 ob1 op0 op1
        have hI2 := of_decide_eq_false hI
        simp only [zeroV, Vc.mk.injEq] at hI2
        have HI := Lib.hid hI2
        clear hR hnx hI hI2 hr hx hA
        go_wp2
        all_goals first
          | (go_ret; exact ⟨rfl, bw_trans hG (below_box _ _)⟩)
          | (exfalso; refine HI.out ⟨⟨by omega, by omega⟩, by omega, ⟨by omega, by omega⟩, by omega, fun hs => ?_⟩; first | omega | exact ⟨by assumption, by assumption, by assumption, by simpa using ‹(p != 0) = false›⟩)
      | true =>
        have hx7 := hnx
        rw [hI, Bool.true_and] at hx7
        have HX := Lib.hid hx7
        have HX2 := Lib.hid hx
        obtain ⟨⟨i1, i2⟩, i3, ⟨i4, i5⟩, i6, i7⟩ := of_decide_eq_true hI
        simp only [zeroV, Vc.mk.injEq] at i1 i2 i3 i4 i5 i6 i7
        clear hnx hx7 hI hr hA
        by_cases h3 : xs < 3
        · obtain ⟨rfl, rfl, rfl, rfl⟩ := i7 h3
          clear ok
          go_wp2_with fail
          go_loopw [5] (fun v w2 => ∃ j : Nat, j ≤ k ∧ v = .int .i64 (j : Nat) ∧ (∀ i x, i < j → l[i]? = some x → ¬ x.id = xi) ∧ IBlk 86 w2 wr.heap.size xi xc xs 0 0 0 0 ∧ Below wr.heap.size wr w2) (fun v _ => k - (intOf v).toNat)
          case atStart => exact ⟨0, Nat.zero_le _, rfl, fun j x h => by omega, iblk_new _ _ _ _ _ _ _ _ _, below_box _ _⟩
          case round =>
            rename_i w2
            obtain ⟨j, hj, rfl, hno, hK, hB⟩ := hrel
            by_cases hjk : j < k
            · obtain ⟨⟨yi, yc, ys, ⟨yr, yq, yb, yp⟩⟩, hy⟩ := at_some (l := l) (k := j) (by rw [HN.out]; omega)
              obtain ⟨g', o', e', hgr', y0, _⟩ := (HA.out.next (bw_trans hG hB)).at_ j _ hy
              obtain ⟨rfl, rfl⟩ : g = g' ∧ o = o' := by cases e'; exact ⟨rfl, rfl⟩
              simp only at y0
              have z0 := hK.cells.1
              have hlw := hK.lt
              have HNO := Lib.hid hno
              have HY := Lib.hid hy
              have HK := Lib.hid hK
              have hjn : (j : Int) < n := by omega
              have hjk2 : (j : Int) < k := by omega
              clear hno hy hK e'
              by_cases he : yi = xi
              · have hy2 : R = false := by rw [← hR.out]; exact right_not (by rw [HX.out, clash_yes (l := l.take k) (by rw [take_at hjk]; exact HY.out) he]; rfl)
                subst hy2
                have he2 : (yi == xi) = true := beq_iff_eq.2 he
                subst he
                go_wp2_with fail
                go_quiet (fail)
                go_wp2
                go_ret
                exact ⟨rfl, bw_trans hG (below_drewN hB _)⟩
              · have he2 : (yi == xi) = false := beq_eq_false_iff_ne.2 he
                have HE := Lib.hid he
                clear he
                go_wp2_with fail
                go_quiet (fail)
                go_wp2_with fail
                exact ⟨⟨j + 1, by omega, by go_num, clash_step HNO.out HY.out HE.out, HK.out, below_drewN hB _⟩, by simp [intOf]; omega⟩
            · obtain rfl : j = k := by omega
              have HC := Lib.hid (clash_take hno)
              clear hno hK
              go_wp2_with fail
              exact ⟨⟨j + 1, by omega, by go_num, by rw [HX.out, HC.out]; rfl, bw_trans hG hB⟩, by simp [intOf]; omega⟩
        · have h3' : xs = 3 := by omega
          subst h3'
          clear ok
          go_wp2_with fail
          go_loopw [5] (fun v w2 => ∃ j : Nat, j ≤ k ∧ v = .int .i64 (j : Nat) ∧ (∀ i x, i < j → l[i]? = some x → ¬ x.id = xi) ∧ IBlk 86 w2 wr.heap.size xi xc 3 r q b p ∧ Below wr.heap.size wr w2) (fun v _ => k - (intOf v).toNat)
          case atStart => exact ⟨0, Nat.zero_le _, rfl, fun j x h => by omega, iblk_new _ _ _ _ _ _ _ _ _, below_box _ _⟩
          case round =>
            rename_i w2
            obtain ⟨j, hj, rfl, hno, hK, hB⟩ := hrel
            by_cases hjk : j < k
            · obtain ⟨⟨yi, yc, ys, ⟨yr, yq, yb, yp⟩⟩, hy⟩ := at_some (l := l) (k := j) (by rw [HN.out]; omega)
              obtain ⟨g', o', e', hgr', y0, _⟩ := (HA.out.next (bw_trans hG hB)).at_ j _ hy
              obtain ⟨rfl, rfl⟩ : g = g' ∧ o = o' := by cases e'; exact ⟨rfl, rfl⟩
              simp only at y0
              have z0 := hK.cells.1
              have hlw := hK.lt
              have HNO := Lib.hid hno
              have HY := Lib.hid hy
              have HK := Lib.hid hK
              have hjn : (j : Int) < n := by omega
              have hjk2 : (j : Int) < k := by omega
              clear hno hy hK e'
              by_cases he : yi = xi
              · have hy2 : R = false := by rw [← hR.out]; exact right_not (by rw [HX.out, clash_yes (l := l.take k) (by rw [take_at hjk]; exact HY.out) he]; rfl)
                subst hy2
                have he2 : (yi == xi) = true := beq_iff_eq.2 he
                subst he
                go_wp2_with fail
                go_quiet (fail)
                go_wp2
                go_ret
                exact ⟨rfl, bw_trans hG (below_drewN hB _)⟩
              · have he2 : (yi == xi) = false := beq_eq_false_iff_ne.2 he
                have HE := Lib.hid he
                clear he
                go_wp2_with fail
                go_quiet (fail)
                go_wp2_with fail
                exact ⟨⟨j + 1, by omega, by go_num, clash_step HNO.out HY.out HE.out, HK.out, below_drewN hB _⟩, by simp [intOf]; omega⟩
            · obtain rfl : j = k := by omega
              have HC := Lib.hid (clash_take hno)
              clear hno hK
              go_wp2_with fail
              exact ⟨⟨j + 1, by omega, by go_num, by rw [HX.out, HC.out]; rfl, bw_trans hG hB⟩, by simp [intOf]; omega⟩
    · obtain rfl : k = n := by omega
      have hy : R = true := by rw [← hR.out, ← hr, ← HN.out, List.take_length]
      subst hy
      go_wp2
      go_ret
      exact ⟨rfl, hG⟩
end Go.Proofs.Ytbiggckddoeghaa
