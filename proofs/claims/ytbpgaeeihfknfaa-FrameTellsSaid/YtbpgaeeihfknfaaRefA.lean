/-
  Walks of layer 1's document: Group, Right, as the document's own answer has them.
-/
import Derived.Test.YtbpgaeeihfknfaaFrEq
namespace Go.Proofs.Ytbpgaeeihfknfaa
set_option linter.unusedVariables false
set_option linter.unusedSimpArgs false
open Go.RowKit Fm

set_option maxHeartbeats 400000 in
theorem rgroup_any (s : ByteArray) (w : World) (hs : s.size ≤ maxLen) :
    Calls Try.prog 15 #[.string s] w fun e w' => e = .returned (.bool (grpB s)) ∧ w = w' := by
  go_enter Try.func15, Try.ntmps15
  go_wp2
  · go_ret
    refine ⟨ret_bool ?_, rfl⟩
    unfold grpB; rw [dif_pos (by omega)]
    rw [Bool.eq_iff_iff]; simp; omega
  · go_ret
    refine ⟨ret_bool ?_, rfl⟩
    unfold grpB; rw [dif_neg (by omega)]

theorem grp_iff (s : ByteArray) (h : s.size = 6) : grpB s = decide (((s[0]'(by omega)).toNat : Int) % 2 = 1) := by
  unfold grpB; rw [dif_pos h, Bool.eq_iff_iff]; simp; omega

def RightP (d s : ByteArray) (t : Bool) (p v ty : Int) (pl : ByteArray) : Prop :=
  d.size = 6 ∧ s.size = 6 ∧ grpB s = false ∧ (0 ≤ p ∧ p ≤ 7 ∧ 0 ≤ v ∧ v ≤ 4094) ∧ (t = true ∨ (p = 0 ∧ v = 0)) ∧ 0 ≤ ty ∧ ty ≤ 65535 ∧ ty ≠ 33024 ∧ pl.size ≤ 1500 ∧ (1536 ≤ ty ∨ ty = pl.size)
theorem right_iff {d s : ByteArray} {t : Bool} {p v ty : Int} {pl : ByteArray} : rightB ⟨d, s, t, p, v, ty, pl⟩ = true ↔ RightP d s t p v ty pl := by
  unfold rightB tagB typB withinB RightP
  cases t <;> simp <;> constructor
  all_goals (rintro ⟨h1, h2⟩; simp_all)
  all_goals omega
theorem right_no {d s : ByteArray} {t : Bool} {p v ty : Int} {pl : ByteArray} (h : ¬ RightP d s t p v ty pl) : false = rightB ⟨d, s, t, p, v, ty, pl⟩ := by
  cases hb : rightB ⟨d, s, t, p, v, ty, pl⟩
  · rfl
  · exact absurd (right_iff.1 hb) h
theorem right_yes {d s : ByteArray} {t : Bool} {p v ty : Int} {pl : ByteArray} (h : RightP d s t p v ty pl) : true = rightB ⟨d, s, t, p, v, ty, pl⟩ := (right_iff.2 h).symm

set_option maxHeartbeats 2000000 in
set_option maxRecDepth 100000 in
theorem rright_any (d s : ByteArray) (t : Bool) (p v ty : Int) (pl : ByteArray) (w : World) (hd : d.size ≤ maxLen) (hs : s.size ≤ maxLen) (hp : pl.size ≤ maxLen) :
    Calls Try.prog 13 #[fv d s t p v ty pl] w fun e w' => e = .returned (.bool (rightB ⟨d, s, t, p, v, ty, pl⟩)) ∧ Below w.heap.size w w' := by
  unfold maxLen at hd hs hp
  unfold fv
  go_enter Try.func13, Try.ntmps13
  go_wp2
  all_goals go_light
  all_goals go_ret
  all_goals refine ⟨ret_bool ?_, below_box _ _⟩
  all_goals (try simp only [beq_eq_false_iff_ne, beq_iff_eq, bne_iff_ne, bne_eq_false_iff_eq, ne_eq, Bool.not_eq_true] at *)
  all_goals first
    | (refine right_no ?_; rintro ⟨h1, h2, h3, h4, h5, h6⟩; exfalso; first | omega | (rw [grp_iff s h2] at h3; simp at h3; omega) | (subst t; simp at h5; omega))
    | (refine right_yes ⟨by omega, by omega, by rw [grp_iff s (by omega)]; simp; omega, by omega, by first | (left; rfl) | (right; omega), by omega, by omega, by omega, by omega, by omega⟩)
    | (rw [Bool.eq_iff_iff, right_iff]; constructor
       · intro h; simp at h; refine ⟨by omega, by omega, by rw [grp_iff s (by omega)]; simp; omega, by omega, by first | (left; assumption) | (right; omega), by omega, by omega, by omega, by omega, by omega⟩
       · rintro ⟨h1, h2, h3, h4, h5, h6⟩; simp; omega)
end Go.Proofs.Ytbpgaeeihfknfaa
