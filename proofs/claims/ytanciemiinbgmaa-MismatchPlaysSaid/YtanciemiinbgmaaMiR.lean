/-
  The laws of layer 9: awake.
-/
import Derived.Test.YtanciemiinbgmaaMiQ
namespace Go.Proofs.Ytanciemiinbgmaa
set_option linter.unusedVariables false
set_option linter.unusedSimpArgs false
open Go.RowKit Go.Maps Pm Mm

theorem Kept2.under {tb mb B : Nat} {a w w' : World} (h : Kept2 tb mb w w') (hb : Below B a w) (h1 : B ≤ tb) (h2 : B ≤ mb) (h3 : B ≤ a.heap.size) : Below B a w' := h.below hb h1 h2 (Nat.le_trans h3 hb.size)
theorem aw1 (b mb : Nat) (a : Option Addr) (len cap : Nat) (w : World) (h : IsG w b mb a len cap A0) : Calls Try.prog 9 #[.pointer (some ⟨b, 0, none⟩), .int .i64 1, .int .i64 1, .int .i64 9] w fun e w' => e = .returned (.int .i64 0) ∧ IsG w' b mb a len cap A1 ∧ Kept2 b mb w w' := by
  have := hear_w b mb a len cap A0 1 1 9 w h (by decide)
  rw [a_facts.1] at this
  exact this
theorem aw2 (b mb : Nat) (a : Option Addr) (len cap : Nat) (w : World) (h : IsG w b mb a len cap A1) : Calls Try.prog 9 #[.pointer (some ⟨b, 0, none⟩), .int .i64 1, .int .i64 2, .int .i64 10] w fun e w' => e = .returned (.int .i64 0) ∧ IsG w' b mb a len cap A2 ∧ Kept2 b mb w w' := by
  have := hear_w b mb a len cap A1 1 2 10 w h (by rw [a_facts.2.2.2.2.2.2]; omega)
  rw [a_facts.2.1] at this
  exact this
theorem aw3 (b mb : Nat) (a : Option Addr) (len cap : Nat) (w : World) (h : IsG w b mb a len cap A2) : Calls Try.prog 9 #[.pointer (some ⟨b, 0, none⟩), .int .i64 9, .int .i64 1, .int .i64 10] w fun e w' => e = .returned (.int .i64 5) ∧ IsG w' b mb a len cap A2 ∧ Kept2 b mb w w' := by
  have := hear_w b mb a len cap A2 9 1 10 w h (by rw [a_facts.2.2.2.2.2.1]; omega)
  rw [a_same] at this
  exact this
theorem aw4 (b mb : Nat) (a : Option Addr) (len cap : Nat) (w : World) (h : IsG w b mb a len cap A2) : Calls Try.prog 16 #[.pointer (some ⟨b, 0, none⟩)] w fun e w' => e = .returned (.tuple #[.int .i64 1, .int .i64 2, .bool true]) ∧ IsG w' b mb a len cap A2 ∧ Below w.heap.size w w' := by
  have := first_w b mb a len cap A2 w h
  rw [a_facts.2.2.2.1, a_facts.2.2.2.2.1, a_facts.2.2.2.2.2.1] at this
  refine this.mono ?_
  rintro e w' ⟨rfl, hb⟩
  exact ⟨rfl, h.next hb, hb⟩
theorem aw5 (b mb : Nat) (a : Option Addr) (len cap : Nat) (w : World) (h : IsG w b mb a len cap A2) : Calls Try.prog 13 #[.pointer (some ⟨b, 0, none⟩), .int .i64 15] w fun e w' => ∃ g o c : Nat, e = .returned (.slice (some ⟨g, o, none⟩) 2 c) ∧ (w'.cell? ⟨g, o, none⟩ = some (.int .i64 1) ∧ w'.cell? ⟨g, o + 1, none⟩ = some (.int .i64 2)) ∧ IsG w' b mb a len cap A4 ∧ Kept2 b mb w w' := by
  have := list_w b mb a len cap A2 15 w h a_blocked.2.2.2.1 (by rw [a_facts.2.2.2.2.2.1]; omega)
  refine this.mono ?_
  rintro e w' ⟨a', c, rfl, hr, hg, hk⟩
  have hl : listG (atG A2 15) = [1, 2] := a_list
  rw [hl] at hr ⊢
  obtain ⟨g, o, rfl, hg1, h0⟩ := hr.at_ 0 1 rfl
  obtain ⟨g', o', e', _, h1⟩ := hr.at_ 1 2 rfl
  cases e'
  exact ⟨g, o, c, rfl, ⟨h0, h1⟩, hg, hk⟩
theorem aw6 (b mb : Nat) (a : Option Addr) (len cap : Nat) (w : World) (h : IsG w b mb a len cap A4) : Calls Try.prog 11 #[.pointer (some ⟨b, 0, none⟩), .int .i64 2, .int .i64 15] w fun e w' => e = .returned (.bool true) ∧ IsG w' b mb a len cap (atG A4 15) ∧ Kept2 b mb w w' := by
  have := blocked_w b mb a len cap A4 2 15 w h (by unfold inI64; omega)
  rw [a_blocked.1, a_blocked.2.2.2.1] at this
  exact this
theorem aw7 (b mb : Nat) (a : Option Addr) (len cap : Nat) (w : World) (h : IsG w b mb a len cap (atG A4 15)) : Calls Try.prog 11 #[.pointer (some ⟨b, 0, none⟩), .int .i64 3, .int .i64 15] w fun e w' => e = .returned (.bool false) ∧ IsG w' b mb a len cap (atG (atG A4 15) 15) ∧ Kept2 b mb w w' := by
  have := blocked_w b mb a len cap (atG A4 15) 3 15 w h (by unfold inI64; omega)
  rw [a_blocked.2.1, a_blocked.2.2.2.1] at this
  exact this
theorem aw8 (b mb : Nat) (a : Option Addr) (len cap : Nat) (w : World) (h : IsG w b mb a len cap (atG (atG A4 15) 15)) : Calls Try.prog 11 #[.pointer (some ⟨b, 0, none⟩), .int .i64 2, .int .i64 16] w fun e w' => e = .returned (.bool false) ∧ IsG w' b mb a len cap (atG (atG (atG A4 15) 15) 16) ∧ Kept2 b mb w w' := by
  have := blocked_w b mb a len cap (atG (atG A4 15) 15) 2 16 w h (by unfold inI64; omega)
  rw [a_blocked.2.2.1, a_blocked.2.2.2.2] at this
  exact this
theorem aw9 (b mb : Nat) (a : Option Addr) (len cap : Nat) (w : World) (h : IsG w b mb a len cap (atG (atG (atG A4 15) 15) 16)) : Calls Try.prog 17 #[.pointer (some ⟨b, 0, none⟩)] w fun e w' => e = .returned (.int .i64 1) ∧ w = w' := by
  have := heard_w b mb a len cap _ w h
  rw [at_many, at_many, at_many, show A4.many = 1 by rw [a_is]] at this
  exact this
theorem row3 (w : World) : IsRow (w.alloc (.cells #[.int .i64 1, .int .i64 2, .int .i64 3] 3)) (some ⟨w.heap.size, 0, none⟩) 3 [1, 2, 3] := by
  have h := heap_alloc_new w (.cells #[.int .i64 1, .int .i64 2, .int .i64 3] 3)
  refine ⟨rfl, by unfold maxLen; omega, fun k n hk => ⟨w.heap.size, 0, rfl, by simp, ?_⟩⟩
  simp only [World.cell?, h]
  match k, hk with
  | 0, hk => simp at hk; subst hk; rfl
  | 1, hk => simp at hk; subst hk; rfl
  | 2, hk => simp at hk; subst hk; rfl
theorem aw0 (w : World) : Calls Try.prog 6 #[pv true 1 (some ⟨w.heap.size, 0, none⟩) 3 3, .int .i64 2] (w.alloc (.cells #[.int .i64 1, .int .i64 2, .int .i64 3] 3)) fun e w' => ∃ (b mb : Nat) (a' : Option Addr) (cap' : Nat), e = .returned (.tuple #[.pointer (some ⟨b, 0, none⟩), .int .i64 0]) ∧ IsG w' b mb a' 3 cap' A0 ∧ w.heap.size ≤ b ∧ w.heap.size ≤ mb ∧ Below w.heap.size w w' := by
  refine (new_w true 1 _ 3 3 [1, 2, 3] 2 _ (row3 w) (by decide) (by omega) (by omega)).mono ?_
  rintro e w' ⟨b, mb, a', cap', rfl, hg, h1, h2, _, hb⟩
  rw [size_box] at h1 h2
  exact ⟨b, mb, a', cap', rfl, hg, by omega, by omega, bw_trans (below_box _ _) hb⟩
theorem aw00 (w : World) : Calls Try.prog 6 #[pv false 0 none 0 0, .int .i64 2] w fun e w' => e = .returned (.tuple #[.pointer none, .int .i64 2]) ∧ Below w.heap.size w w' := new_form false 0 none 0 0 [] 2 w (row_none w none) (by decide)
theorem aw000 (w : World) : Calls Try.prog 6 #[pv false 1 none 0 0, .int .i64 0] w fun e w' => e = .returned (.tuple #[.pointer none, .int .i64 1]) ∧ Below w.heap.size w w' := new_range false 1 none 0 0 [] 0 w (row_none w none) (by decide) (by omega)

set_option maxRecDepth 20000 in
set_option maxHeartbeats 8000000 in
theorem awake_w (w : World) :
    Calls Try.prog 5 #[] w fun e w' => e = .returned (.bool true) ∧ Below w.heap.size w w' := by
  go_enter Try.func5, Try.ntmps5
  go_wp2_with (first
    | (go_at_call 6; with_reducible refine (aw0 w).mono ?_; rintro e w1 ⟨b, mb, a', cap', rfl, t1, g1, g2, hb1⟩; have T1 := Lib.hid t1; have G := Lib.hid (And.intro g1 g2); have B1 := Lib.hid hb1; clear t1 g1 g2 hb1)
    | (go_at_call 6; with_reducible refine (aw00 w1).mono ?_; rintro e w2 ⟨rfl, hb2⟩; have T2 := Lib.hid (T1.out.next hb2); have B2 := Lib.hid (bw_trans B1.out hb2); clear hb2)
    | (go_at_call 6; with_reducible refine (aw000 w2).mono ?_; rintro e w3 ⟨rfl, hb3⟩; have T3 := Lib.hid (T2.out.next hb3); have B3 := Lib.hid (bw_trans B2.out hb3); clear hb3)
    | (go_at_call 9; with_reducible refine (aw1 b mb a' 3 cap' w3 T3.out).mono ?_; rintro e w4 ⟨rfl, t4, k4⟩; have T4 := Lib.hid t4; have B4 := Lib.hid (k4.under B3.out G.out.1 G.out.2 (Nat.le_refl _)); clear t4 k4)
    | (go_at_call 9; with_reducible refine (aw2 b mb a' 3 cap' w4 T4.out).mono ?_; rintro e w5 ⟨rfl, t5, k5⟩; have T5 := Lib.hid t5; have B5 := Lib.hid (k5.under B4.out G.out.1 G.out.2 (Nat.le_refl _)); clear t5 k5)
    | (go_at_call 9; with_reducible refine (aw3 b mb a' 3 cap' w5 T5.out).mono ?_; rintro e w6 ⟨rfl, t6, k6⟩; have T6 := Lib.hid t6; have B6 := Lib.hid (k6.under B5.out G.out.1 G.out.2 (Nat.le_refl _)); clear t6 k6)
    | (go_at_call 16; with_reducible refine (aw4 b mb a' 3 cap' w6 T6.out).mono ?_; rintro e w7 ⟨rfl, t7, hb7⟩; have T7 := Lib.hid t7; have B7 := Lib.hid (bw_trans B6.out hb7); clear t7 hb7)
    | (go_at_call 13; with_reducible refine (aw5 b mb a' 3 cap' w7 T7.out).mono ?_; rintro e w8 ⟨lg, lo, lcap, rfl, ⟨q0, q1⟩, t8, k8⟩; have T8 := Lib.hid t8; have B8 := Lib.hid (k8.under B7.out G.out.1 G.out.2 (Nat.le_refl _)); clear t8 k8)
    | (go_at_call 11; with_reducible refine (aw6 b mb a' 3 cap' w8 T8.out).mono ?_; rintro e w9 ⟨rfl, t9, k9⟩; have T9 := Lib.hid t9; have B9 := Lib.hid (k9.under B8.out G.out.1 G.out.2 (Nat.le_refl _)); clear t9 k9)
    | (go_at_call 11; with_reducible refine (aw7 b mb a' 3 cap' w9 T9.out).mono ?_; rintro e w10 ⟨rfl, t10, k10⟩; have T10 := Lib.hid t10; have B10 := Lib.hid (k10.under B9.out G.out.1 G.out.2 (Nat.le_refl _)); clear t10 k10)
    | (go_at_call 11; with_reducible refine (aw8 b mb a' 3 cap' w10 T10.out).mono ?_; rintro e w11 ⟨rfl, t11, k11⟩; have T11 := Lib.hid t11; have B11 := Lib.hid (k11.under B10.out G.out.1 G.out.2 (Nat.le_refl _)); clear t11 k11)
    | (go_at_call 17; with_reducible refine (aw9 b mb a' 3 cap' w11 T11.out).mono ?_; rintro e w11' ⟨rfl, rfl⟩))
  go_ret
  exact ⟨rfl, B11.out⟩
end Go.Proofs.Ytanciemiinbgmaa
