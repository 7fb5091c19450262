/-
  Walks of layer 4: Print.
-/
import Derived.Test.YtaifkepojfhgkaaDoorSsMath
import Derived.Test.YtaifkepojfhgkaaDoorBpQ
namespace Go.Proofs.YtaifkepojfhgkaaDoor
set_option linter.unusedVariables false
set_option linter.unusedSimpArgs false
open Go.RowKit Bm

set_option maxHeartbeats 400000 in
theorem vlan_any (n : Int) (w : World) :
    Calls Tryd.prog 11 #[.int .i64 n] w fun e w' => e = .returned (.bool (vlanB n)) ∧ w = w' := by
  go_enter Tryd.func11, Tryd.ntmps11
  go_wp2
  all_goals go_ret
  all_goals refine ⟨ret_bool ?_, rfl⟩
  all_goals (unfold vlanB; rw [Bool.eq_iff_iff]; simp; omega)
theorem vlan_w (n : Int) (R : Bool) (w : World) (h : Hid (vlanB n = R)) :
    Calls Tryd.prog 11 #[.int .i64 n] w fun e w' => e = .returned (.bool R) ∧ w = w' := by
  have H := vlan_any n w
  rw [h.out] at H
  exact H

theorem tag_two (v : Int) : tagOf v = (⟨#[0, 0, 0, 0, 2]⟩ : ByteArray) ++ ⟨#[UInt8.ofNat (v.toNat / 256 % 256), UInt8.ofNat (v.toNat % 256)]⟩ := by
  apply bytes_ext
  simp [tagOf]

set_option maxHeartbeats 1000000 in
theorem sprint_w (k f r c b p a m h d v : Int) (w : World) (X : ByteArray) (E : Int) (hX : Hid (sprintR ⟨k, f, r, c, b, p, a, m, h, d⟩ v = (X, E))) (hS : Sizes w) (hok : Bp.ok ⟨k, f, r, c, b, p, a, m, h, d⟩) :
    Calls Tryd.prog 6 #[bv k f r c b p a m h d, .int .i64 v] w fun e w' => e = .returned (.tuple #[.string X, .int .i64 E]) ∧ Below w.heap.size w w' := by
  obtain ⟨⟨T, F⟩, hT⟩ : ∃ q, printR ⟨k, f, r, c, b, p, a, m, h, d⟩ = q := ⟨_, rfl⟩
  have HT := Lib.hid hT
  have HO := Lib.hid hok
  clear hok
  unfold bv
  go_enter Tryd.func6, Tryd.ntmps6
  go_wp2_with fail
  refine (print_w k f r c b p a m h d _ T F HT (hS.next (below_box w _)) HO.out).mono ?_
  rintro e w1 ⟨rfl, hb1⟩
  have k1 := (blk_new 26 w k f r c b p a m h d).next hb1
  have B1 := bw_trans (below_box w _) hb1
  clear hb1 hS
  have y := k1.cells
  obtain ⟨c0, c1, c2, c3, c4, c5, c6, c7, c8, c9⟩ := y
  unfold printR at hT
  rcases sprint_cases hX.out with ⟨rfl, rfl, hc⟩ | ⟨hr, hk, hv, rfl, rfl⟩ | ⟨hr, hk, hv, rfl, hXe⟩
  · rcases hc with hr | hk
    · rw [hr] at hT
      simp at hT
      obtain ⟨rfl, rfl⟩ := hT
      clear HT HO hX
      go_wp2
      go_ret2
      exact ⟨rfl, B1⟩
    · obtain rfl : k = 2 := hk
      cases hr : rightB ⟨2, f, r, c, b, p, a, m, h, d⟩ with
      | false =>
        rw [hr] at hT
        simp at hT
        obtain ⟨rfl, rfl⟩ := hT
        clear HT HO hX hr
        go_wp2
        go_ret2
        exact ⟨rfl, B1⟩
      | true =>
        rw [hr] at hT
        simp only [if_true, Prod.mk.injEq] at hT
        obtain ⟨rfl, rfl⟩ := hT
        clear HT HO hX hr
        go_wp2
        go_ret2
        exact ⟨rfl, B1⟩
  · rw [hr] at hT
    simp only [if_true, Prod.mk.injEq] at hT
    obtain ⟨hT, rfl⟩ := hT
    have HV := Lib.hid hv
    have hk2 : ¬ k = 2 := hk
    clear HT HO hX hr hT hv hk
    go_wp2_with (go_at_call 11; refine (vlan_w _ _ _ HV).mono ?_; rintro e w' ⟨rfl, rfl⟩)
    all_goals go_ret2
    exact ⟨rfl, B1⟩
  · rw [hr] at hT
    simp only [if_true, Prod.mk.injEq] at hT
    obtain ⟨hT, rfl⟩ := hT
    have HV := Lib.hid hv
    have hk2 : ¬ k = 2 := hk
    have hz : T.size ≤ 36 := by
      rw [← hT, bytes_size _ hr]
      unfold sizeN; repeat' split
      all_goals omega
    have hv' := hv
    simp only [vlanB, decide_eq_true_eq] at hv'
    obtain ⟨v1, v2⟩ := hv'
    have HXe := Lib.hid hXe
    clear HT HO hX hr hv hk hXe
    have hcv := convAt #[.int .u8 (v / 256), .int .u8 (v % 256)] ⟨#[UInt8.ofNat (v.toNat / 256 % 256), UInt8.ofNat (v.toNat % 256)]⟩ w1 w1.heap.size 2 rfl (by
      have e1 : (v / 256) = ((v.toNat / 256 % 256 : Nat) : Int) := by omega
      have e2 : (v % 256) = ((v.toNat % 256 : Nat) : Int) := by omega
      rw [e1, e2, byte_int ((v.toNat / 256 % 256 : Nat) : Int) (by omega) (by omega), byte_int ((v.toNat % 256 : Nat) : Int) (by omega) (by omega)]
      rfl) rfl (by show 2 ≤ 1000; omega) rfl
    have hone : (⟨#[UInt8.ofNat (v.toNat / 256 % 256), UInt8.ofNat (v.toNat % 256)]⟩ : ByteArray).size = 2 := rfl
    have hsum : (T ++ (⟨#[0, 0, 0, 0, 2]⟩ : ByteArray)).size = T.size + 5 := ByteArray.size_append
    go_wp2_with (go_at_call 11; refine (vlan_w _ _ _ HV).mono ?_; rintro e w' ⟨rfl, rfl⟩)
    all_goals go_ret2
    refine ⟨?_, bw_alloc B1 _⟩
    rw [HXe.out, hT, tag_two v, ← app_assoc]
    rfl
end Go.Proofs.YtaifkepojfhgkaaDoor
