/-
  Walk of layer 1's statements' own opening: answers that the document fixes (awake), and what is small enough (Few).
-/
import Derived.Test.YtbpgaeeihfknfaaFrC
namespace Go.Proofs.Ytbpgaeeihfknfaa
set_option linter.unusedVariables false
set_option linter.unusedSimpArgs false
open Go.RowKit Fm

abbrev kd : ByteArray := ⟨#[65, 66, 67, 68, 69, 70]⟩
abbrev ks : ByteArray := ⟨#[98, 98, 99, 100, 101, 102]⟩
abbrev kx : ByteArray := ⟨#[120]⟩
abbrev kp : ByteArray := ⟨#[65, 66, 67, 68, 69, 70, 98, 98, 99, 100, 101, 102, 8, 0, 120]⟩
abbrev kt : ByteArray := ⟨#[65, 66, 67, 68, 69, 70, 98, 98, 99, 100, 101, 102, 129, 0, 0, 5, 8, 0, 120]⟩

theorem k_right : rightB ⟨kd, ks, false, 0, 0, 2048, kx⟩ = true := by decide +kernel
theorem k_right2 : rightB ⟨kd, ks, true, 0, 5, 2048, kx⟩ = true := by decide +kernel
theorem k_group : grpB kd = true := by decide +kernel
theorem k_bytes : bytesOf ⟨kd, ks, false, 0, 0, 2048, kx⟩ = kp := by decide +kernel
theorem k_bytes2 : bytesOf ⟨kd, ks, true, 0, 5, 2048, kx⟩ = kt := by decide +kernel
theorem k_within : withinB 5 4094 = true := by decide +kernel
theorem k_parse : parseR kt = (⟨kd, ks, true, 0, 5, 2048, kx⟩, 0) := by
  have e : cutF kt true = ⟨kd, ks, true, 0, 5, 2048, kx⟩ := by
    simp only [cutF]
    congr 1 <;> decide +kernel
  unfold parseR
  rw [if_neg (by decide +kernel), if_pos (by decide +kernel), if_neg (by decide +kernel), if_neg (by decide +kernel), if_neg (by decide +kernel), e, if_pos k_right2]
theorem k_parse1 : parseR kp = (⟨kd, ks, false, 0, 0, 2048, kx⟩, 0) := by
  have e : cutF kp false = ⟨kd, ks, false, 0, 0, 2048, kx⟩ := by
    simp only [cutF]
    congr 1 <;> decide +kernel
  unfold parseR
  rw [if_neg (by decide +kernel), if_neg (by decide +kernel), if_neg (by decide +kernel), e, if_pos k_right]
theorem k_parse0 : parseR ⟨#[]⟩ = (zero, 3) := by
  unfold parseR
  rw [if_pos (by decide +kernel)]

theorem kw_print (w : World) : Calls Try.prog 8 #[fv kd ks false 0 0 2048 kx] w fun e w' => e = .returned (.tuple #[.string kp, .int .i64 0]) ∧ Below w.heap.size w w' := by
  have h := print_yes kd ks false 0 0 2048 kx w k_right
  rw [k_bytes] at h
  exact h
theorem kw_print2 (w : World) : Calls Try.prog 8 #[fv kd ks true 0 5 2048 kx] w fun e w' => e = .returned (.tuple #[.string kt, .int .i64 0]) ∧ Below w.heap.size w w' := by
  have h := print_yes kd ks true 0 5 2048 kx w k_right2
  rw [k_bytes2] at h
  exact h
theorem kw_with (w : World) : Calls Try.prog 16 #[fv kd ks false 0 0 2048 kx, .int .i64 5] w fun e w' => e = .returned (.tuple #[fv kd ks true 0 5 2048 kx, .int .i64 0]) ∧ Below w.heap.size w w' :=
  with_any kd ks false 0 0 2048 kx 5 w ⟨kd, ks, true, 0, 5, 2048, kx⟩ 0 (by decide +kernel) (by decide +kernel) (by decide +kernel) (fun h => absurd (h.symm.trans k_right) (by decide)) (fun _ h => absurd (h.symm.trans k_within) (by decide)) (fun _ _ => ⟨rfl, rfl⟩)
theorem kw_parse (w : World) : Calls Try.prog 10 #[.string kt] w fun e w' => e = .returned (.tuple #[fv kd ks true 0 5 2048 kx, .int .i64 0]) ∧ Below w.heap.size w w' :=
  parse_is kt w ⟨kd, ks, true, 0, 5, 2048, kx⟩ 0 k_parse (by decide +kernel)
theorem kw_parse0 (w : World) : Calls Try.prog 10 #[.string ⟨#[]⟩] w fun e w' => e = .returned (.tuple #[zero.val, .int .i64 3]) ∧ Below w.heap.size w w' :=
  parse_is ⟨#[]⟩ w zero 3 k_parse0 (by decide +kernel)
theorem kw_cparse (b : Nat) (w : World) (h : Ctr w b 0 0) : Calls Try.prog 19 #[.pointer (some ⟨b, 0, none⟩), .string kp] w fun e w' => e = .returned (.tuple #[fv kd ks false 0 0 2048 kx, .int .i64 0]) ∧ Ctr w' b 1 0 ∧ Below b w w' :=
  cparse_is b 0 0 kp w kd ks false 0 0 2048 kx 0 k_parse1 (by omega) (by omega) (by omega) (by omega) h (by decide +kernel)
theorem kw_cparse0 (b : Nat) (w : World) (h : Ctr w b 1 0) : Calls Try.prog 19 #[.pointer (some ⟨b, 0, none⟩), .string ⟨#[]⟩] w fun e w' => e = .returned (.tuple #[zero.val, .int .i64 3]) ∧ Ctr w' b 1 1 ∧ Below b w w' :=
  cparse_is b 1 0 ⟨#[]⟩ w ⟨#[]⟩ ⟨#[]⟩ false 0 0 0 ⟨#[]⟩ 3 k_parse0 (by omega) (by omega) (by omega) (by omega) h (by decide +kernel)
theorem kw_right (w : World) : Calls Try.prog 12 #[fv kd ks false 0 0 2048 kx] w fun e w' => e = .returned (.bool true) ∧ Below w.heap.size w w' := by
  have h := right_any kd ks false 0 0 2048 kx w (by decide +kernel) (by decide +kernel) (by decide +kernel)
  rw [k_right] at h
  exact h
theorem kw_group (w : World) : Calls Try.prog 14 #[.string kd] w fun e w' => e = .returned (.bool true) ∧ w = w' := by
  have h := group_any kd w (by decide +kernel)
  rw [k_group] at h
  exact h

set_option maxHeartbeats 1000000 in
set_option maxRecDepth 100000 in
theorem awake_any (w : World) : Calls Try.prog 6 #[] w fun e w' => e = .returned (.bool true) ∧ Below w.heap.size w w' := by
  go_enter Try.func6, Try.ntmps6
  go_wp2_with fail
  refine (kw_print _).mono ?_
  rintro e w1 ⟨rfl, hb1⟩
  have k1 := (blk_new w kd ks false 0 0 2048 kx).below hb1 (by simp)
  have B1 := bw_trans (below_box w _) hb1
  clear hb1
  have y := k1.cells
  obtain ⟨c0, c1, c2, c3, c4, c5, c6⟩ := y
  go_wp2_with fail
  refine (kw_with _).mono ?_
  rintro e w2 ⟨rfl, hb2⟩
  have k2 := k1.below hb2 k1.lt
  have B2 := bw_trans B1 hb2
  clear hb2 k1 B1 c0 c1 c2 c3 c4 c5 c6
  go_wp2_with fail
  refine (kw_print2 _).mono ?_
  rintro e w3 ⟨rfl, hb3⟩
  have k3 := (k2.below (below_box w2 _) k2.lt).below hb3 (Nat.lt_of_lt_of_le k2.lt (by simp))
  have g3 := (blk_new w2 kd ks true 0 5 2048 kx).below hb3 (by simp)
  have B3 := bw_trans (bw_alloc B2 _) hb3
  clear hb3 k2 B2
  go_wp2_with fail
  refine (kw_parse _).mono ?_
  rintro e w4 ⟨rfl, hb4⟩
  have k4 := k3.below hb4 k3.lt
  have g4 := g3.below hb4 g3.lt
  have B4 := bw_trans B3 hb4
  clear hb4 k3 g3 B3
  go_wp2_with fail
  refine (kw_parse0 _).mono ?_
  rintro e w5 ⟨rfl, hb5⟩
  have k5 := (k4.below (below_box w4 _) k4.lt).below hb5 (Nat.lt_of_lt_of_le k4.lt (by simp))
  have g5 := (g4.below (below_box w4 _) g4.lt).below hb5 (Nat.lt_of_lt_of_le g4.lt (by simp))
  have u5 := (blk_new w4 kd ks true 0 5 2048 kx).below hb5 (by simp)
  have B5 := bw_trans (bw_alloc B4 _) hb5
  clear hb5 k4 g4 B4
  go_wp2_with fail
  refine (new_c _).mono ?_
  rintro e w6 ⟨b, rfl, hzb, K6, hb6⟩
  have k6 := (k5.below (below_box w5 _) k5.lt).below hb6 (Nat.lt_of_lt_of_le k5.lt (by simp))
  have g6 := (g5.below (below_box w5 _) g5.lt).below hb6 (Nat.lt_of_lt_of_le g5.lt (by simp))
  have u6 := (u5.below (below_box w5 _) u5.lt).below hb6 (Nat.lt_of_lt_of_le u5.lt (by simp))
  have B6 := bw_trans (bw_alloc B5 _) hb6
  have zk : w.heap.size < b := Nat.lt_of_lt_of_le k5.lt (Nat.le_trans (by simp) hzb)
  have zg : w2.heap.size < b := Nat.lt_of_lt_of_le g5.lt (Nat.le_trans (by simp) hzb)
  have zu : w4.heap.size < b := Nat.lt_of_lt_of_le u5.lt (Nat.le_trans (by simp) hzb)
  clear hb6 k5 g5 u5 B5 hzb
  go_wp2_with fail
  refine (kw_cparse b _ K6).mono ?_
  rintro e w7 ⟨rfl, K7, hb7⟩
  have k7 := k6.below hb7 zk
  have g7 := g6.below hb7 zg
  have u7 := u6.below hb7 zu
  have B7 := B6.trans (hb7.mono (Nat.le_of_lt zk))
  clear hb7 k6 g6 u6 B6 K6
  go_wp2_with fail
  refine (kw_cparse0 b _ K7).mono ?_
  rintro e w8 ⟨rfl, K8, hb8⟩
  have k8 := k7.below hb8 zk
  have g8 := g7.below hb8 zg
  have u8 := u7.below hb8 zu
  have B8 := B7.trans (hb8.mono (Nat.le_of_lt zk))
  clear hb8 k7 g7 u7 B7 K7
  go_wp2_with fail
  refine (count_b b 1 1 _ K8).mono ?_
  rintro e w9 ⟨rfl, hb9⟩
  have k9 := k8.below hb9 k8.lt
  have g9 := g8.below hb9 g8.lt
  have u9 := u8.below hb9 u8.lt
  have B9 := bw_trans B8 hb9
  clear hb9 k8 g8 u8 B8 K8 zk zg zu
  have y := k9.cells
  obtain ⟨c0, c1, c2, c3, c4, c5, c6⟩ := y
  have y := g9.cells
  obtain ⟨p0, p1, p2, p3, p4, p5, p6⟩ := y
  have y := u9.cells
  obtain ⟨q0, q1, q2, q3, q4, q5, q6⟩ := y
  go_wp2_with fail
  refine (kw_group _).mono ?_
  rintro e w10 ⟨rfl, rfl⟩
  go_wp2_with fail
  refine (kw_right _).mono ?_
  rintro e w11 ⟨rfl, hb11⟩
  have B11 := bw_trans B9 hb11
  clear hb11 c0 c1 c2 c3 c4 c5 c6 p0 p1 p2 p3 p4 p5 p6 q0 q1 q2 q3 q4 q5 q6
  go_wp2
  go_ret
  exact ⟨rfl, B11⟩

def fewB (f : Fr) : Bool := decide (f.dst.size ≤ 20 ∧ f.src.size ≤ 20 ∧ f.pay.size ≤ 1600)
set_option maxHeartbeats 400000 in
theorem few_any (d s : ByteArray) (t : Bool) (p v ty : Int) (pl : ByteArray) (w : World) (hd : d.size ≤ maxLen) (hs : s.size ≤ maxLen) (hp : pl.size ≤ maxLen) :
    Calls Try.prog 7 #[fv d s t p v ty pl] w fun e w' => e = .returned (.bool (fewB ⟨d, s, t, p, v, ty, pl⟩)) ∧ Below w.heap.size w w' := by
  unfold maxLen at hd hs hp
  unfold fv
  go_enter Try.func7, Try.ntmps7
  go_wp2
  all_goals go_ret
  all_goals refine ⟨ret_bool ?_, below_box _ _⟩
  all_goals go_light
  all_goals (unfold fewB; rw [Bool.eq_iff_iff]; simp; omega)
end Go.Proofs.Ytbpgaeeihfknfaa
