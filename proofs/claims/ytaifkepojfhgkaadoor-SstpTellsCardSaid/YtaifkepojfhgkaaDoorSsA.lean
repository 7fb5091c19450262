/-
  Walks of layer 4: the closure that asks what stands behind a BPDU, heardVlan.
-/
import Derived.Test.YtaifkepojfhgkaaDoorSsW
namespace Go.Proofs.YtaifkepojfhgkaaDoor
set_option linter.unusedVariables false
set_option linter.unusedSimpArgs false
open Go.RowKit Bm

set_option maxHeartbeats 400000 in
theorem behind_any (s : ByteArray) (n i b1 b2 : Nat) (w : World) (h1 : One 9 w b1 (.string s)) (h2 : One 3 w b2 (.int .i64 (n : Int))) (hs : s.size ≤ maxLen) (hA : n + i < s.size) :
    Calls Tryd.prog 16 #[.int .i64 i, .pointer (some ⟨b1, 0, none⟩), .pointer (some ⟨b2, 0, none⟩)] w fun e w' => e = .returned (.int .u8 (byteN s (n + i))) ∧ w = w' := by
  unfold maxLen at hs
  have q1 := h1.cell
  have q2 := h2.cell
  have HB := Lib.hid (byteN_get s (n + i) hA)
  go_enter Tryd.func16, Tryd.ntmps16
  go_wp2
  go_ret
  refine ⟨?_, rfl⟩
  rw [HB.out]
  rfl

theorem behind_q (s : ByteArray) (n i b1 b2 : Nat) (I : Int) (w : World) (hI : I = (i : Int)) (h1 : One 9 w b1 (.string s)) (h2 : One 3 w b2 (.int .i64 (n : Int))) (hs : s.size ≤ maxLen) (hA : n + i < s.size) :
    Calls Tryd.prog 16 #[.int .i64 I, .pointer (some ⟨b1, 0, none⟩), .pointer (some ⟨b2, 0, none⟩)] w fun e w' => e = .returned (.int .u8 (byteN s (n + i))) ∧ w' = w := by
  subst hI
  exact (behind_any s n i b1 b2 w h1 h2 hs hA).mono fun _ _ h => ⟨h.1, h.2.symm⟩

theorem behind_w (s : ByteArray) (n i b1 b2 B : Nat) (I : Int) (w : World) (hB : Hid (byteN s (n + i) = B)) (hI : I = (i : Int)) (h1 : One 9 w b1 (.string s)) (h2 : One 3 w b2 (.int .i64 (n : Int))) (hs : s.size ≤ maxLen) (hA : n + i < s.size) :
    Calls Tryd.prog 16 #[.int .i64 I, .pointer (some ⟨b1, 0, none⟩), .pointer (some ⟨b2, 0, none⟩)] w fun e w' => e = .returned (.int .u8 (B : Int)) ∧ w' = w := by
  have H := behind_q s n i b1 b2 I w hI h1 h2 hs hA
  rw [hB.out] at H
  exact H
theorem One.drewN {T : TypeId} {w : World} {b : Nat} {v : Value} (h : One T w b v) (n : Nat) : One T (w.drewN n) b v := h
/-- What the bytes behind a BPDU begin with. -/
def headN (m : Nat) : Nat := if m = 4 then 2 else 0
/-- Behind j rounds. -/
def HInv (s : ByteArray) (n b1 b2 : Nat) (w : World) (i : Value) (wr : World) : Prop :=
  ∃ j : Nat, j ≤ 5 ∧ i = .int .i64 j ∧ (∀ m, m < j → byteN s (n + m) = headN m) ∧ One 9 wr b1 (.string s) ∧ One 3 wr b2 (.int .i64 (n : Int)) ∧ Below w.heap.size w wr
theorem behind_form {s : ByteArray} {n j : Nat} {V E : Int} (h : behindR s n = (V, E)) (hl : ¬ s.size < n + 7) (hj : j < 5) (hb : byteN s (n + j) ≠ headN j) : V = 0 ∧ E = 2 := by
  unfold behindR at h
  have hj' : j = 0 ∨ j = 1 ∨ j = 2 ∨ j = 3 ∨ j = 4 := by omega
  rw [if_neg hl, if_pos (by rcases hj' with rfl | rfl | rfl | rfl | rfl <;> simp [headN] at hb <;> simp [hb])] at h
  simp at h
  exact ⟨h.1.symm, h.2.symm⟩
theorem behind_more {s : ByteArray} {n : Nat} {V E : Int} (h : behindR s n = (V, E)) (hl : ¬ s.size < n + 7) (hb : ∀ m, m < 5 → byteN s (n + m) = headN m) :
    (vlanB ((byteN s (n + 5) * 256 + byteN s (n + 6) : Nat) : Int) = false ∧ V = 0 ∧ E = 1) ∨ (vlanB ((byteN s (n + 5) * 256 + byteN s (n + 6) : Nat) : Int) = true ∧ V = ((byteN s (n + 5) * 256 + byteN s (n + 6) : Nat) : Int) ∧ E = 0) := by
  have h0 := hb 0 (by omega)
  have h1 := hb 1 (by omega)
  have h2 := hb 2 (by omega)
  have h3 := hb 3 (by omega)
  have h4 := hb 4 (by omega)
  simp [headN] at h0 h1 h2 h3 h4
  unfold behindR at h
  rw [if_neg hl, if_neg (by omega)] at h
  by_cases hv : byteN s (n + 5) * 256 + byteN s (n + 6) < 1 ∨ 4094 < byteN s (n + 5) * 256 + byteN s (n + 6)
  · rw [if_pos hv] at h
    simp at h
    refine Or.inl ⟨?_, h.1.symm, h.2.symm⟩
    simp only [vlanB, decide_eq_false_iff_not]
    omega
  · rw [if_neg hv] at h
    simp only [Prod.mk.injEq] at h
    refine Or.inr ⟨?_, h.1.symm, h.2.symm⟩
    simp only [vlanB, decide_eq_true_eq]
    omega

set_option maxHeartbeats 2000000 in
theorem heardVlan_w (s : ByteArray) (n b1 b2 : Nat) (L V E : Int) (w : World) (hX : Hid (behindR s n = (V, E))) (hL : L = (s.size : Int) - n) (h1 : One 9 w b1 (.string s)) (h2 : One 3 w b2 (.int .i64 (n : Int))) (hs : s.size ≤ maxLen) (hn : n ≤ 36) :
    Calls Tryd.prog 15 #[.int .i64 L, .func (.func 16) #[] #[.pointer (some ⟨b1, 0, none⟩), .pointer (some ⟨b2, 0, none⟩)]] w fun e w' => e = .returned (.tuple #[.int .i64 V, .int .i64 E]) ∧ Below w.heap.size w w' := by
  have HS := Lib.hid hs
  unfold maxLen at hs
  by_cases hl : s.size < n + 7
  · have h := hX.out
    unfold behindR at h
    rw [if_pos hl] at h
    simp at h
    obtain ⟨rfl, rfl⟩ := h
    clear hX
    go_enter Tryd.func15, Tryd.ntmps15
    go_wp2
    go_ret2
    exact ⟨rfl, Below.refl _ _⟩
  have HL := Lib.hid hl
  go_enter Tryd.func15, Tryd.ntmps15
  go_wp2_with fail
  go_loopw [11] (fun i wr => HInv s n b1 b2 w i wr) (fun i _ => 5 - (intOf i).toNat)
  case atStart => exact ⟨0, by omega, rfl, fun m h => absurd h (by omega), h1, h2, Below.refl _ _⟩
  case round =>
    clear h1 h2
    obtain ⟨j, hj, rfl, hh, o1, o2, hb⟩ := hrel
    have HH := Lib.hid hh; clear hh
    by_cases hj5 : j < 5
    · obtain ⟨B, hB⟩ : ∃ B, byteN s (n + j) = B := ⟨_, rfl⟩
      have hx : Hid (n + j < s.size) := Lib.hid (by omega)
      by_cases hq : B = headN j
      · have HN : Hid (∀ m, m < j + 1 → byteN s (n + m) = headN m) := Lib.hid (fun m hm => by
          rcases Nat.lt_or_ge m j with h | h
          · exact HH.out m h
          · obtain rfl : m = j := by omega
            exact hB.trans hq)
        have HB := Lib.hid hB; clear hB
        obtain rfl | rfl | rfl | rfl | rfl : j = 0 ∨ j = 1 ∨ j = 2 ∨ j = 3 ∨ j = 4 := by omega
        · have hd : ((B : Int) != (((⟨#[0, 0, 0, 0, 2]⟩ : ByteArray)[0]'(by decide)).toNat : Int)) = false := by
            rw [hq]; rfl
          go_wp2_with fail
          go_quiet ((go_at_call 16; exact Calls.quiet_of_same (behind_w s n 0 b1 b2 B 0 _ HB rfl (o1.drewN _) (o2.drewN _) HS.out hx.out)))
          go_wp2
          go_roundw
          case rel => exact ⟨1, by omega, rfl, HN.out, o1.drewN _, o2.drewN _, below_drewN hb _⟩
          case measure => simp [intOf]
        · have hd : ((B : Int) != (((⟨#[0, 0, 0, 0, 2]⟩ : ByteArray)[1]'(by decide)).toNat : Int)) = false := by
            rw [hq]; rfl
          go_wp2_with fail
          go_quiet ((go_at_call 16; exact Calls.quiet_of_same (behind_w s n 1 b1 b2 B 1 _ HB rfl (o1.drewN _) (o2.drewN _) HS.out hx.out)))
          go_wp2
          go_roundw
          case rel => exact ⟨2, by omega, rfl, HN.out, o1.drewN _, o2.drewN _, below_drewN hb _⟩
          case measure => simp [intOf]
        · have hd : ((B : Int) != (((⟨#[0, 0, 0, 0, 2]⟩ : ByteArray)[2]'(by decide)).toNat : Int)) = false := by
            rw [hq]; rfl
          go_wp2_with fail
          go_quiet ((go_at_call 16; exact Calls.quiet_of_same (behind_w s n 2 b1 b2 B 2 _ HB rfl (o1.drewN _) (o2.drewN _) HS.out hx.out)))
          go_wp2
          go_roundw
          case rel => exact ⟨3, by omega, rfl, HN.out, o1.drewN _, o2.drewN _, below_drewN hb _⟩
          case measure => simp [intOf]
        · have hd : ((B : Int) != (((⟨#[0, 0, 0, 0, 2]⟩ : ByteArray)[3]'(by decide)).toNat : Int)) = false := by
            rw [hq]; rfl
          go_wp2_with fail
          go_quiet ((go_at_call 16; exact Calls.quiet_of_same (behind_w s n 3 b1 b2 B 3 _ HB rfl (o1.drewN _) (o2.drewN _) HS.out hx.out)))
          go_wp2
          go_roundw
          case rel => exact ⟨4, by omega, rfl, HN.out, o1.drewN _, o2.drewN _, below_drewN hb _⟩
          case measure => simp [intOf]
        · have hd : ((B : Int) != (((⟨#[0, 0, 0, 0, 2]⟩ : ByteArray)[4]'(by decide)).toNat : Int)) = false := by
            rw [hq]; rfl
          go_wp2_with fail
          go_quiet ((go_at_call 16; exact Calls.quiet_of_same (behind_w s n 4 b1 b2 B 4 _ HB rfl (o1.drewN _) (o2.drewN _) HS.out hx.out)))
          go_wp2
          go_roundw
          case rel => exact ⟨5, by omega, rfl, HN.out, o1.drewN _, o2.drewN _, below_drewN hb _⟩
          case measure => simp [intOf]
      · obtain ⟨rfl, rfl⟩ := behind_form hX.out HL.out hj5 (by rw [hB]; exact hq)
        have HB := Lib.hid hB; clear hB
        obtain rfl | rfl | rfl | rfl | rfl : j = 0 ∨ j = 1 ∨ j = 2 ∨ j = 3 ∨ j = 4 := by omega
        · have hd : ((B : Int) != (((⟨#[0, 0, 0, 0, 2]⟩ : ByteArray)[0]'(by decide)).toNat : Int)) = true := by
            have e : (((⟨#[0, 0, 0, 0, 2]⟩ : ByteArray)[0]'(by decide)).toNat : Int) = 0 := rfl
            simp [headN] at hq
            rw [e]
            simp only [bne_iff_ne, ne_eq]
            omega
          go_wp2_with fail
          go_quiet ((go_at_call 16; exact Calls.quiet_of_same (behind_w s n 0 b1 b2 B 0 _ HB rfl (o1.drewN _) (o2.drewN _) HS.out hx.out)))
          go_wp2
          go_ret2
          exact ⟨rfl, below_drewN hb _⟩
        · have hd : ((B : Int) != (((⟨#[0, 0, 0, 0, 2]⟩ : ByteArray)[1]'(by decide)).toNat : Int)) = true := by
            have e : (((⟨#[0, 0, 0, 0, 2]⟩ : ByteArray)[1]'(by decide)).toNat : Int) = 0 := rfl
            simp [headN] at hq
            rw [e]
            simp only [bne_iff_ne, ne_eq]
            omega
          go_wp2_with fail
          go_quiet ((go_at_call 16; exact Calls.quiet_of_same (behind_w s n 1 b1 b2 B 1 _ HB rfl (o1.drewN _) (o2.drewN _) HS.out hx.out)))
          go_wp2
          go_ret2
          exact ⟨rfl, below_drewN hb _⟩
        · have hd : ((B : Int) != (((⟨#[0, 0, 0, 0, 2]⟩ : ByteArray)[2]'(by decide)).toNat : Int)) = true := by
            have e : (((⟨#[0, 0, 0, 0, 2]⟩ : ByteArray)[2]'(by decide)).toNat : Int) = 0 := rfl
            simp [headN] at hq
            rw [e]
            simp only [bne_iff_ne, ne_eq]
            omega
          go_wp2_with fail
          go_quiet ((go_at_call 16; exact Calls.quiet_of_same (behind_w s n 2 b1 b2 B 2 _ HB rfl (o1.drewN _) (o2.drewN _) HS.out hx.out)))
          go_wp2
          go_ret2
          exact ⟨rfl, below_drewN hb _⟩
        · have hd : ((B : Int) != (((⟨#[0, 0, 0, 0, 2]⟩ : ByteArray)[3]'(by decide)).toNat : Int)) = true := by
            have e : (((⟨#[0, 0, 0, 0, 2]⟩ : ByteArray)[3]'(by decide)).toNat : Int) = 0 := rfl
            simp [headN] at hq
            rw [e]
            simp only [bne_iff_ne, ne_eq]
            omega
          go_wp2_with fail
          go_quiet ((go_at_call 16; exact Calls.quiet_of_same (behind_w s n 3 b1 b2 B 3 _ HB rfl (o1.drewN _) (o2.drewN _) HS.out hx.out)))
          go_wp2
          go_ret2
          exact ⟨rfl, below_drewN hb _⟩
        · have hd : ((B : Int) != (((⟨#[0, 0, 0, 0, 2]⟩ : ByteArray)[4]'(by decide)).toNat : Int)) = true := by
            have e : (((⟨#[0, 0, 0, 0, 2]⟩ : ByteArray)[4]'(by decide)).toNat : Int) = 2 := rfl
            simp [headN] at hq
            rw [e]
            simp only [bne_iff_ne, ne_eq]
            omega
          go_wp2_with fail
          go_quiet ((go_at_call 16; exact Calls.quiet_of_same (behind_w s n 4 b1 b2 B 4 _ HB rfl (o1.drewN _) (o2.drewN _) HS.out hx.out)))
          go_wp2
          go_ret2
          exact ⟨rfl, below_drewN hb _⟩
    · obtain rfl : j = 5 := by omega
      obtain ⟨x, hx⟩ : ∃ x, byteN s (n + 5) = x := ⟨_, rfl⟩
      obtain ⟨y, hy⟩ : ∃ y, byteN s (n + 6) = y := ⟨_, rfl⟩
      have lx : x < 256 := hx ▸ byteN_lt s _
      have ly : y < 256 := hy ▸ byteN_lt s _
      have HM := Lib.hid (behind_more hX.out HL.out HH.out)
      rw [hx, hy] at HM
      have hx5 : Hid (n + 5 < s.size) := Lib.hid (by omega)
      have hx6 : Hid (n + 6 < s.size) := Lib.hid (by omega)
      have HX := Lib.hid hx; clear hx
      have HY := Lib.hid hy; clear hy
      go_wp2_with fail
      refine wp_loop_rounds 3 ?_
      rw [rounds_succ]
      go_wp2_with fail
      refine (behind_w s n 5 b1 b2 x 5 _ HX rfl o1 o2 HS.out hx5.out).mono ?_
      rintro e v1 ⟨rfl, rfl⟩
      have j0 : bits .or .i64 0 (x : Int) = (x : Int) := by
        have h := i64_join 0 x (by omega) lx
        simpa using h
      go_wp2_with fail
      clear j0
      rw [rounds_succ]
      go_wp2_with fail
      refine (behind_w s n 6 b1 b2 y 6 _ HY rfl o1 o2 HS.out hx6.out).mono ?_
      rintro e v1 ⟨rfl, rfl⟩
      go_wp2_with fail
      rw [rounds_succ]
      go_wp2_with fail
      rw [i64_join x y (by omega) ly]
      rcases HM.out with ⟨hv, rfl, rfl⟩ | ⟨hv, rfl, rfl⟩
      · have HV := Lib.hid hv
        clear hv HM
        refine (vlan_w _ _ _ HV).mono ?_
        rintro e v1 ⟨rfl, rfl⟩
        go_wp2
        go_ret2
        exact ⟨rfl, hb⟩
      · have HV := Lib.hid hv
        clear hv HM
        refine (vlan_w _ _ _ HV).mono ?_
        rintro e v1 ⟨rfl, rfl⟩
        go_wp2
        go_ret2
        exact ⟨rfl, hb⟩
end Go.Proofs.YtaifkepojfhgkaaDoor
