/-
  The laws of layer 7: awake.
-/
import Derived.Test.YtkpfdaomhkcokaaFdR
namespace Go.Proofs.Ytkpfdaomhkcokaa
set_option linter.unusedVariables false
set_option linter.unusedSimpArgs false
open Go.RowKit Go.Maps Dm

theorem aw0 (w : World) : Calls Try.prog 8 #[.int .i64 1] w fun e w' => ∃ tb mb : Nat, e = .returned (.tuple #[.pointer (some ⟨tb, 0, none⟩), .int .i64 0]) ∧ IsTab w' tb mb 1 S0 ∧ w.heap.size ≤ tb ∧ w.heap.size ≤ mb ∧ Below w.heap.size w w' := new_w 1 w ⟨Nat.le_refl _, by omega⟩
theorem aw00 (w : World) : Calls Try.prog 8 #[.int .i64 0] w fun e w' => e = .returned (.tuple #[.pointer none, .int .i64 1]) ∧ w = w' := new_bad 0 w (by omega)

theorem aw10 (tb mb : Nat) (w : World) (h : IsTab w tb mb 1 S2) : Calls Try.prog 10 #[.pointer (some ⟨tb, 0, none⟩)] w fun e w' => ∃ g o cap : Nat, e = .returned (.slice (some ⟨g, o, none⟩) 1 cap) ∧ 1 ≤ cap ∧ (w'.cell? ⟨g, o, none⟩ = some (.int .i64 2) ∧ w'.cell? ⟨g, o + 1, none⟩ = some (.string macA) ∧ w'.cell? ⟨g, o + 2, none⟩ = some (.int .i64 4) ∧ w'.cell? ⟨g, o + 3, none⟩ = some (.int .i64 6) ∧ w'.cell? ⟨g, o + 4, none⟩ = some (.bool false)) ∧ Below w.heap.size w w' := by
  refine (list_w tb mb 1 S2 w h).mono ?_
  rintro e w' ⟨a, cap, rfl, hc, hr, _, hb⟩
  obtain ⟨g, o, rfl, hg, k⟩ := hr.at_ 0 ⟨2, macA, 4, 6, false⟩ rfl
  rw [Nat.zero_mul, Nat.add_zero] at k
  exact ⟨g, o, cap, rfl, hc, k, hb⟩

set_option maxRecDepth 20000 in
set_option maxHeartbeats 8000000 in
theorem awake_w (w : World) :
    Calls Try.prog 6 #[] w fun e w' => e = .returned (.bool true) ∧ Below w.heap.size w w' := by
  go_enter Try.func6, Try.ntmps6
  go_wp2_with (first
    | (go_at_call 8; with_reducible refine (aw0 w).mono ?_; rintro e w1 ⟨tb, mb, rfl, t1, g1, g2, hb1⟩; have T1 := Lib.hid t1; have G := Lib.hid (And.intro g1 g2); have B1 := Lib.hid hb1; clear t1 g1 g2 hb1)
    | (go_at_call 8; with_reducible refine (aw00 w1).mono ?_; rintro e w1' ⟨rfl, rfl⟩)
    | (go_at_call 14; with_reducible refine (aw1 tb mb w1 T1.out).mono ?_; rintro e w2 ⟨rfl, t2, k2⟩; have T2 := Lib.hid t2; have B2 := Lib.hid (k2.under B1.out G.out.1 G.out.2); clear t2 k2)
    | (go_at_call 14; with_reducible refine (aw2 tb mb w2 T2.out).mono ?_; rintro e w3 ⟨rfl, t3, k3⟩; have T3 := Lib.hid t3; have B3 := Lib.hid (k3.under B2.out G.out.1 G.out.2); clear t3 k3)
    | (go_at_call 12; with_reducible refine (aw8 tb mb w3 T3.out).mono ?_; rintro e w4 ⟨rfl, k4⟩; have T4 := Lib.hid (T3.out.next k4.below); have B4 := Lib.hid (B3.out.trans (k4.below.mono B3.out.size)); clear k4)
    | (go_at_call 12; with_reducible refine (aw9 tb mb w4 T4.out).mono ?_; rintro e w5 ⟨rfl, k5⟩; have T5 := Lib.hid (T4.out.next k5.below); have B5 := Lib.hid (B4.out.trans (k5.below.mono B4.out.size)); clear k5)
    | (go_at_call 14; with_reducible refine (aw3 tb mb w5 T5.out).mono ?_; rintro e w6 ⟨rfl, t6, k6⟩; have T6 := Lib.hid t6; have B6 := Lib.hid (k6.under B5.out G.out.1 G.out.2); clear t6 k6)
    | (go_at_call 15; with_reducible refine (aw4 tb mb w6 T6.out).mono ?_; rintro e w7 ⟨rfl, t7, k7⟩; have T7 := Lib.hid t7; have B7 := Lib.hid (k7.under B6.out G.out.1 G.out.2); clear t7 k7)
    | (go_at_call 10; go_loud (with_reducible refine (aw10 tb mb w7 T7.out).mono ?_; rintro e w8 ⟨g, o, cap8, he8, hc8, hq8, hb8⟩; subst he8; obtain ⟨q0, q1, q2, q3, q4⟩ := hq8; have T8 := Lib.hid (T7.out.next hb8); have B8 := Lib.hid (B7.out.trans (hb8.mono B7.out.size)); clear hb8))
    | (go_at_call 11; with_reducible refine (learned_w tb mb 1 S2 w8 T8.out (by decide)).mono ?_; rintro e w8' ⟨rfl, rfl⟩)
    | (go_at_call 16; with_reducible refine (aw5 tb mb w8 T8.out).mono ?_; rintro e w9 ⟨rfl, t9, k9⟩; have T9 := Lib.hid t9; have B9 := Lib.hid (k9.under B8.out G.out.1 G.out.2); clear t9 k9)
    | (go_at_call 16; with_reducible refine (aw6 tb mb w9 T9.out).mono ?_; rintro e w10 ⟨rfl, t10, k10⟩; have T10 := Lib.hid t10; have B10 := Lib.hid (k10.under B9.out G.out.1 G.out.2); clear t10 k10)
    | (go_at_call 17; with_reducible refine (aw7 tb mb w10 T10.out).mono ?_; rintro e w11 ⟨rfl, t11, k11⟩; have B11 := Lib.hid (k11.under B10.out G.out.1 G.out.2); clear t11 k11))
  go_ret
  exact ⟨rfl, B11.out⟩
end Go.Proofs.Ytkpfdaomhkcokaa
