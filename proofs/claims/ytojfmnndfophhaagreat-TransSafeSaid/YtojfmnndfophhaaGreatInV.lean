/-
  Layer 11: Choose, whole; a port is the same as itself.
-/
import Derived.Test.YtojfmnndfophhaaGreatInU
namespace Go.Proofs.YtojfmnndfophhaaGreat
set_option linter.unusedVariables false
set_option linter.unusedSimpArgs false
open Go.RowKit Vm Rm Bm Im

theorem choose_w (i a m h d : Int) (ad : Option Addr) (cap : Nat) (l L : List Pt) (B : Bool) (w : World) (hi : Vm.u64B i) (hr : PRow w ad l) (hok : ∀ p ∈ l, PtOk p) (hl : l.length ≤ 1000) (hX : chooseP i ⟨a, m, h, d⟩ l = (L, B)) :
    Calls Tryz.prog 18 #[brv i a m h d, .slice ad l.length cap] w fun e w' => Out w w' l.length L B e := by
  cases hb : rightBr ⟨a, m, h, d⟩ with
  | false =>
    rw [choose_not (may_no_br hb)] at hX
    cases hX
    exact choose_early_w i a m h d ad cap l w hr hl (.inl hb)
  | true =>
    cases hany : l.any Pt.reselect with
    | false =>
      rw [choose_not (may_no_any hany)] at hX
      cases hX
      exact choose_early_w i a m h d ad cap l w hr hl (.inr hany)
    | true =>
      cases hrr : rightR (infosP l) with
      | false =>
        rw [choose_not (may_no_right hrr)] at hX
        cases hX
        exact choose_refused_w i a m h d ad cap l w hr hok hl hb hany hrr
      | true =>
        have hm : mayB i ⟨a, m, h, d⟩ l = true := by unfold mayB; rw [hany, hb, hrr]; rfl
        rw [choose_may hm] at hX
        cases hX
        obtain ⟨⟨vr, vc, vb, vp⟩, hV⟩ : ∃ v, rootV i (infosP l) = v := ⟨_, rfl⟩
        obtain ⟨⟨ga, gm, gh, gd⟩, hG⟩ : ∃ v, givenP i ⟨a, m, h, d⟩ l = v := ⟨_, rfl⟩
        refine choose_ok_w i a m h d vr vc vb vp _ ga gm gh gd ad cap l (chooseAt i ⟨a, m, h, d⟩ l) w hi hr hok hl hb hany hrr hV rfl hG ?_
        intro k p hp
        unfold chooseAt
        rw [chosen_is, hV, hG]
/-- What is chosen is of its kinds. -/
theorem choose_pok {br : Int} {t : Tm} {l : List Pt} (h : ∀ p ∈ l, PtOk p) : ∀ p ∈ (chooseP br t l).1, PtOk p := by
  intro p hp
  cases hm : mayB br t l with
  | false =>
    rw [choose_not hm] at hp
    exact h p hp
  | true =>
    rw [choose_may hm] at hp
    obtain ⟨k, hk⟩ := List.getElem?_of_mem hp
    simp only [List.getElem?_mapIdx, Option.map_eq_some_iff] at hk
    obtain ⟨q, hq, rfl⟩ := hk
    have := h q (List.mem_of_getElem? hq)
    exact ⟨this.id, this.cost, this.source, this.vec, this.age⟩

set_option maxRecDepth 100000 in
set_option maxHeartbeats 4000000 in
theorem run_ptEq (p : Pt) (w : World) : Sem.run Tryz.prog (binOp .eql 34 (.agg (cellsT p)) (.agg (cellsT p))) w = .ok (.bool true) w := by
  unfold cellsT
  go_simp
end Go.Proofs.YtojfmnndfophhaaGreat
