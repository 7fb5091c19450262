/-
  Walks of layer 1: within, Group, rightTag, rightType, Right.
-/
import Derived.Test.YtjabbbaiboaicaaRows
import Derived.Test.YtjabbbaiboaicaaFrMath
import Derived.WalkKit
import Derived.WalkSpells
import Derived.WalkLawsBesides
import Derived.Lib.Hide
import Derived.Deep.Light
namespace Go.Proofs.Ytjabbbaiboaicaa
set_option linter.unusedVariables false
set_option linter.unusedSimpArgs false
open Go.RowKit Fm

theorem ret_bool {a b : Bool} (h : a = b) : Ending.returned (.bool a) = .returned (.bool b) := by rw [h]
theorem and1_u8 (b : UInt8) : (bits BinOp.and IntKind.u8 (b.toNat : Int) 1 != 0) = decide (b.toNat % 2 = 1) := by
  have h := u8_and_nat b.toNat 1 (UInt8.toNat_lt b) (by omega)
  rw [nat_mask1] at h
  rw [show ((1 : Nat) : Int) = 1 from rfl] at h
  rw [h, Bool.eq_iff_iff]; simp; omega

set_option maxHeartbeats 400000 in
theorem within_any (n m : Int) (w : World) :
    Calls Try.prog 36 #[.int .i64 n, .int .i64 m] w fun e w' => e = .returned (.bool (withinB n m)) ∧ w = w' := by
  go_enter Try.func36, Try.ntmps36
  go_wp2
  all_goals go_ret
  all_goals refine ⟨ret_bool ?_, rfl⟩
  all_goals (unfold withinB; rw [Bool.eq_iff_iff]; simp; omega)

set_option maxHeartbeats 400000 in
theorem group_any (s : ByteArray) (w : World) (hs : s.size ≤ maxLen) :
    Calls Try.prog 32 #[.string s] w fun e w' => e = .returned (.bool (grpB s)) ∧ w = w' := by
  go_enter Try.func32, Try.ntmps32
  go_wp2
  · go_ret
    refine ⟨ret_bool ?_, rfl⟩
    rw [and1_u8]; unfold grpB; rw [dif_pos (by omega)]
  · go_ret
    refine ⟨ret_bool ?_, rfl⟩
    unfold grpB; rw [dif_neg (by omega)]

theorem below_box (w : World) (o : Obj) : Below w.heap.size w (w.alloc o) := (Below.refl _ _).alloc (Nat.le_refl _) o

set_option maxHeartbeats 400000 in
theorem rightTag_any (d s : ByteArray) (t : Bool) (p v ty : Int) (pl : ByteArray) (w : World) :
    Calls Try.prog 33 #[fv d s t p v ty pl] w fun e w' => e = .returned (.bool (tagB ⟨d, s, t, p, v, ty, pl⟩)) ∧ Below w.heap.size w w' := by
  unfold fv
  go_enter Try.func33, Try.ntmps33
  go_wp2_with (go_at_call 36; refine (within_any _ _ _).mono ?_; rintro e w' ⟨rfl, rfl⟩)
  all_goals go_ret
  all_goals refine ⟨ret_bool ?_, below_box _ _⟩
  all_goals go_light
  all_goals (unfold tagB; rw [Bool.eq_iff_iff]; simp_all)

set_option maxHeartbeats 400000 in
theorem rightType_any (d s : ByteArray) (t : Bool) (p v ty : Int) (pl : ByteArray) (w : World) (hp : pl.size ≤ maxLen) :
    Calls Try.prog 34 #[fv d s t p v ty pl] w fun e w' => e = .returned (.bool (typB ⟨d, s, t, p, v, ty, pl⟩)) ∧ Below w.heap.size w w' := by
  unfold maxLen at hp
  unfold fv
  go_enter Try.func34, Try.ntmps34
  go_wp2_with (go_at_call 36; refine (within_any _ _ _).mono ?_; rintro e w' ⟨rfl, rfl⟩)
  all_goals go_ret
  all_goals refine ⟨ret_bool ?_, below_box _ _⟩
  all_goals go_light
  all_goals (unfold typB; unfold withinB at *; rw [Bool.eq_iff_iff]; simp at *; try omega)

theorem bw_trans {a b c : World} (h : Below a.heap.size a b) (k : Below b.heap.size b c) : Below a.heap.size a c := h.trans (k.mono h.size)
theorem bw_alloc {a b : World} (h : Below a.heap.size a b) (o : Obj) : Below a.heap.size a (b.alloc o) := h.alloc h.size o
theorem bcell {W w1 : World} (hb : Below W.heap.size W w1) : (∀ b o, b < W.heap.size → w1.cell? ⟨b, o, none⟩ = W.cell? ⟨b, o, none⟩) ∧ (∀ b o, b < W.heap.size → w1.frozen? ⟨b, o, none⟩ = W.frozen? ⟨b, o, none⟩) :=
  ⟨fun b o h => hb.cell (p := ⟨b, o, none⟩) h, fun b o h => hb.frozen (p := ⟨b, o, none⟩) h⟩

set_option maxHeartbeats 1000000 in
theorem right_any (d s : ByteArray) (t : Bool) (p v ty : Int) (pl : ByteArray) (w : World) (hd : d.size ≤ maxLen) (hs : s.size ≤ maxLen) (hp : pl.size ≤ maxLen) :
    Calls Try.prog 20 #[fv d s t p v ty pl] w fun e w' => e = .returned (.bool (rightB ⟨d, s, t, p, v, ty, pl⟩)) ∧ Below w.heap.size w w' := by
  unfold maxLen at hd
  unfold fv
  go_enter Try.func20, Try.ntmps20
  go_wp2_with (first
    | (go_at_call 32; refine (group_any _ _ hs).mono ?_; rintro e w' ⟨rfl, rfl⟩)
    | (go_at_call 33; refine (rightTag_any _ _ _ _ _ _ _ _).mono ?_; rintro e w1 ⟨rfl, hb1⟩; obtain ⟨hc1, hf1⟩ := bcell hb1)
    | (go_at_call 34; refine (rightType_any _ _ _ _ _ _ _ _ hp).mono ?_; rintro e w2 ⟨rfl, hb2⟩))
  all_goals go_light
  all_goals go_ret
  · exact ⟨ret_bool (by simp_all [rightB]), below_box _ _⟩
  · exact ⟨ret_bool (by simp_all [rightB]; omega), bw_trans (bw_trans (below_box _ _) hb1) hb2⟩
  · exact ⟨ret_bool (by simp_all [rightB]), bw_trans (below_box _ _) hb1⟩
  · exact ⟨ret_bool (by simp_all [rightB]; omega), below_box _ _⟩
  · exact ⟨ret_bool (by simp_all [rightB]; omega), below_box _ _⟩
end Go.Proofs.Ytjabbbaiboaicaa
