/-
  Layer 11: the document's Hear, of any port and any BPDU.
-/
import Derived.Test.YtbiggckddoeghaaInDe
import Derived.Test.YtbiggckddoeghaaInDg
import Derived.Test.YtbiggckddoeghaaInDh
namespace Go.Proofs.Ytbiggckddoeghaa
set_option linter.unusedVariables false
set_option linter.unusedSimpArgs false
open Go.RowKit Vm Rm Bm Im

theorem rhear_w (p X : Pt) (q : Bp) (w : World) (ho : p.vec.ok) (hqo : BpOk q) (hX : Hid (hearP p q = X)) :
    Calls Try.prog 11 #[.agg (cellsT p), bq q] w fun e w' => e = .returned (.agg (cellsT X)) ∧ Below w.heap.size w w' := by
  rw [← hX.out]
  cases hp : p.on with
  | false =>
    rw [show hearP p q = p from by unfold hearP; rw [if_pos (.inl hp)]]
    exact rhear_off_w p q w hp
  | true =>
    cases hb : heardB q with
    | false =>
      rw [show hearP p q = p from by unfold hearP; rw [if_pos (.inr hb)]]
      exact rhear_bad_w p q w hp hb
    | true =>
      have hd := heard_hd hb
      have hr := heard_range p q
      have h3 : heardP p q = 4 → q.kind = 3 := by
        intro h4
        rcases hd.kind with hk | hk
        · exfalso
          unfold heardP at h4
          rw [if_neg (by rw [hb]; simp), if_pos (.inl hk)] at h4
          revert h4
          repeat' split
          all_goals omega
        · exact hk
      have hA : hearP p q = answerP (heardP p q) (firstP p q) q := by
        unfold hearP
        rw [if_neg (show ¬ (p.on = false ∨ heardB q = false) by rw [hp, hb]; simp)]
        unfold answerP
        obtain h | h | h | h | h : heardP p q = 0 ∨ heardP p q = 1 ∨ heardP p q = 2 ∨ heardP p q = 3 ∨ heardP p q = 4 := by omega
        all_goals rw [h]
        all_goals simp
      rw [hA]
      obtain h | h | h | h | h : heardP p q = 0 ∨ heardP p q = 1 ∨ heardP p q = 2 ∨ heardP p q = 3 ∨ heardP p q = 4 := by omega
      · rw [h] at h3 ⊢; exact rhear_yes0_w p _ q w hp hb ho hqo (Lib.hid h) (Lib.hid rfl) (Lib.hid fun e => h3 (by omega))
      · rw [h] at h3 ⊢; exact rhear_yes1_w p _ q w hp hb ho hqo (Lib.hid h) (Lib.hid rfl) (Lib.hid fun e => h3 (by omega))
      · rw [h] at h3 ⊢; exact rhear_yes2_w p _ q w hp hb ho hqo (Lib.hid h) (Lib.hid rfl) (Lib.hid fun e => h3 (by omega))
      · rw [h] at h3 ⊢; exact rhear_yes3_w p _ q w hp hb ho hqo (Lib.hid h) (Lib.hid rfl) (Lib.hid fun e => h3 (by omega))
      · rw [h] at h3 ⊢; exact rhear_yes4_w p _ q w hp hb ho hqo (Lib.hid h) (Lib.hid rfl) (Lib.hid fun e => h3 (by omega))
end Go.Proofs.Ytbiggckddoeghaa
