/-
  Layer 8: Right of the package, and the document's.
-/
import Derived.Test.YtojfmnndfophhaaGreatRoD
import Derived.Lib.SliceRun
namespace Go.Proofs.YtojfmnndfophhaaGreat
set_option linter.unusedVariables false
set_option linter.unusedSimpArgs false
open Go.RowKit Vm Rm

theorem right_long {l : List Inf} (h : 16 < l.length) : rightR l = false := by
  unfold rightR
  rw [decide_eq_false (by omega)]
  rfl
/-- Behind k rounds: the first k are right. -/
def RInv (l : List Inf) (n : Nat) (w : World) (v : Value) (wr : World) : Prop :=
  ∃ k : Nat, k ≤ n ∧ v = .int .i64 (k : Nat) ∧ rightR (l.take k) = true ∧ Below w.heap.size w wr

set_option maxHeartbeats 1000000 in
theorem right_w (a : Option Addr) (cap : Nat) (l : List Inf) (R : Bool) (w : World) (h : IRow w a l) (hl : l.length ≤ 1000) (hcap : l.length ≤ cap) (hR : Hid (rightR l = R)) :
    Calls Tryz.prog 42 #[.slice a l.length cap] w fun e w' => e = .returned (.bool R) ∧ Below w.heap.size w w' := by
  obtain ⟨n, hn⟩ : ∃ n, l.length = n := ⟨_, rfl⟩
  have HN := Lib.hid hn
  by_cases h16 : 16 < n
  · have hy : R = false := by rw [← hR.out]; exact right_long (by omega)
    subst hy
    rw [hn] at hl hcap ⊢
    clear h hn hR
    go_enter Tryz.func42, Tryz.ntmps42
    go_wp2
    go_ret
    exact ⟨rfl, Below.refl _ _⟩
  rw [hn] at hl hcap ⊢
  have HA := Lib.hid h
  clear h hn
  go_enter Tryz.func42, Tryz.ntmps42
  go_wp2_with fail
  go_loopw [11] (fun v wr => RInv l n w v wr) (fun v _ => n - (intOf v).toNat)
  case atStart => exact ⟨0, Nat.zero_le _, rfl, right_zero l, Below.refl _ _⟩
  case round =>
    obtain ⟨k, hk, rfl, hr, hG⟩ := hrel
    by_cases hkl : k < n
    · obtain ⟨⟨xi, xc, xs, ⟨r, q, b, p⟩⟩, hx⟩ := at_some (l := l) (k := k) (by rw [HN.out]; exact hkl)
      have hA := HA.out.next hG
      have ok := hA.ok hx
      obtain ⟨g, o, rfl, hgr, q0, q1, q2, q3, q4, q5, q6⟩ := hA.at_ k _ hx
      simp only at q0 q1 q2 q3 q4 q5 q6
      have hnx := right_next hx (by omega)
      rw [hr, Bool.true_and] at hnx
      obtain ⟨I, hI⟩ : ∃ I, infB ⟨xi, xc, xs, ⟨r, q, b, p⟩⟩ = I := ⟨_, rfl⟩
      obtain ⟨C, hC⟩ : ∃ C, clashB (l.take k) xi = C := ⟨_, rfl⟩
      simp only at hnx
      rw [hI, hC] at hnx
      have HX := Lib.hid hnx
      have HR := Lib.hid hr
      have HA2 := Lib.hid hA
      have HOK := Lib.hid ok
      have CP := Lib.hid (fun w' => port_w xi xc xs r q b p I w' (Lib.hid hI) ok.id ok.cost ok.vec.c)
      have HC := Lib.hid hC
      have hlt : (l.take k).length = k := by rw [List.length_take, HN.out]; omega
      have HL := Lib.hid hlt
      clear hnx hr hA ok hI hC hx hlt
      go_wp2_with fail
      (with_reducible refine (CP.out _).mono ?_)
      rintro e w1 ⟨rfl, hb1⟩
      have K := (iblk_new 81 wr xi xc xs r q b p).next hb1
      have hB1 := bw_trans (below_box wr _) hb1
      clear hb1
      cases I with
      | false =>
        have hy : R = false := by rw [← hR.out]; exact right_not HX.out
        subst hy
        clear hR
        go_wp2
        go_ret
        exact ⟨rfl, bw_trans hG hB1⟩
      | true =>
        have CC := contains_w (some ⟨g, o, none⟩) cap wr.heap.size (l.take k) xi C w1 ((HA2.out.next hB1).take k) (by rw [HL.out]; omega) K.cells.1 K.lt HC
        rw [HL.out] at CC
        have hkn : (k : Int) ≤ cap := by omega
        cases C with
        | true =>
          have hy : R = false := by rw [← hR.out]; exact right_not HX.out
          subst hy
          clear hR K
          go_wp2_with fail
          refine CC.mono ?_
          clear CC
          rintro e w2 ⟨rfl, hb2⟩
          go_wp2
          go_ret
          exact ⟨rfl, bw_trans (bw_trans hG hB1) hb2⟩
        | false =>
          go_wp2_with fail
          refine CC.mono ?_
          clear CC
          rintro e w2 ⟨rfl, hb2⟩
          go_wp2_with fail
          exact ⟨⟨k + 1, by omega, by go_num, HX.out, bw_trans (bw_trans hG hB1) hb2⟩, by simp [intOf]; omega⟩
    · obtain rfl : k = n := by omega
      have hy : R = true := by rw [← hR.out, ← hr, ← HN.out, List.take_length]
      subst hy
      go_wp2
      go_ret
      exact ⟨rfl, hG⟩

/-! ### The document's Right -/
/-- Behind k rounds of the inner loop, in the outer one's round m: no earlier Id is p's. -/
theorem clash_step {l : List Inf} {i : Int} {k : Nat} {x : Inf} (h : ∀ j y, j < k → l[j]? = some y → ¬ y.id = i) (hx : l[k]? = some x) (hn : ¬ x.id = i) : ∀ j y, j < k + 1 → l[j]? = some y → ¬ y.id = i := by
  intro j y hj hy
  by_cases e : j = k
  · subst e; rw [hx] at hy; cases hy; exact hn
  · exact h j y (by omega) hy
theorem clash_take {l : List Inf} {i : Int} {k : Nat} (h : ∀ j y, j < k → l[j]? = some y → ¬ y.id = i) : clashB (l.take k) i = false := by
  refine clash_no fun j x hj hx => ?_
  rw [List.length_take] at hj
  rw [take_at (by omega)] at hx
  exact h j x (by omega) hx
def R2Inv (l : List Inf) (n : Nat) (w : World) (v : Value) (wr : World) : Prop :=
  ∃ k : Nat, k ≤ n ∧ v = .int .i64 (k : Nat) ∧ rightR (l.take k) = true ∧ Below w.heap.size w wr

end Go.Proofs.YtojfmnndfophhaaGreat
