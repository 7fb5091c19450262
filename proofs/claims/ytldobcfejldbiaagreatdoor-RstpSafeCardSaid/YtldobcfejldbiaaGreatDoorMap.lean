/-
  Layer 11: Choose, whole; a port is the same as itself.
  Layer 11: what awake asks, at literals.
-/
import Derived.Test.YtldobcfejldbiaaGreatDoorMbd
import Derived.Great.BuildSlice
namespace Go.Proofs.YtldobcfejldbiaaGreatDoor
set_option linter.unusedVariables false
set_option linter.unusedSimpArgs false
open Go.RowKit Vm Rm Bm Im

theorem choose_w (i a m h d : Int) (ad : Option Addr) (cap : Nat) (l L : List Pt) (B : Bool) (w : World) (hi : Vm.u64B i) (hr : PRow w ad l) (hok : ∀ p ∈ l, PtOk p) (hl : l.length ≤ 1000) (hX : chooseP i ⟨a, m, h, d⟩ l = (L, B)) :
    Calls Tryz.prog 30 #[brv i a m h d, .slice ad l.length cap] w fun e w' => Out w w' l.length L B e := by
  cases hb : rightBr ⟨a, m, h, d⟩ with
  | false =>
    rw [choose_not (may_no_br hb)] at hX
    cases hX
    exact choose_early_w i a m h d ad cap l w hr hl (.inl hb)
  | true =>
    cases hany : l.any Pt.reselect with
    | false =>
      rw [choose_not (may_no_any hany)] at hX
      cases hX
      exact choose_early_w i a m h d ad cap l w hr hl (.inr hany)
    | true =>
      cases hrr : rightR (infosP l) with
      | false =>
        rw [choose_not (may_no_right hrr)] at hX
        cases hX
        exact choose_refused_w i a m h d ad cap l w hr hok hl hb hany hrr
      | true =>
        have hm : mayB i ⟨a, m, h, d⟩ l = true := by unfold mayB; rw [hany, hb, hrr]; rfl
        rw [choose_may hm] at hX
        cases hX
        obtain ⟨⟨vr, vc, vb, vp⟩, hV⟩ : ∃ v, rootV i (infosP l) = v := ⟨_, rfl⟩
        obtain ⟨⟨ga, gm, gh, gd⟩, hG⟩ : ∃ v, givenP i ⟨a, m, h, d⟩ l = v := ⟨_, rfl⟩
        refine choose_ok_w i a m h d vr vc vb vp _ ga gm gh gd ad cap l (chooseAt i ⟨a, m, h, d⟩ l) w hi hr hok hl hb hany hrr hV rfl hG ?_
        intro k p hp
        unfold chooseAt
        rw [chosen_is, hV, hG]
end Go.Proofs.YtldobcfejldbiaaGreatDoor

namespace Go.Proofs.YtldobcfejldbiaaGreatDoor
set_option linter.unusedVariables false
set_option linter.unusedSimpArgs false
open Go.RowKit Vm Rm Bm Im

set_option maxHeartbeats 1000000 in
theorem usual_w (i : Int) (w : World) :
    Calls Tryz.prog 25 #[.int .u64 i] w fun e w' => e = .returned (brv i 0 20 2 15) ∧ Below w.heap.size w w' := by
  have kT : BrBlk (w.alloc (.cells (bcl i 0 20 2 15) 26)) w.heap.size i 0 20 2 15 := heap_alloc_new w _
  obtain ⟨k0, k1, k2, k3, k4⟩ := kT.cells
  clear kT
  unfold bcl at k0 k1 k2 k3 k4
  go_enter Tryz.func25, Tryz.ntmps25
  go_wp2_with fail
  exact bodyPost_ret (v := brv i 0 20 2 15) (by simp [results, Tryz.results25, go_sem, k0, k1, k2, k3, k4]) rfl ⟨rfl, below_box w _⟩

/-! The document's example. -/
def b0 : Bp := ⟨3, 14, 1, 0, 2, 1, 0, 5120, 512, 3840⟩
def P1 : Pt := powerP (newP 1 4 true) true
def Q1 : Pt := hearP P1 b0
def P2 : Pt := { P1 with vec := ⟨1152921504606846976, 0, 0, 0⟩ }
def Q2 : Pt := hearP P2 b0
def U9 : Tm := ⟨0, 20, 2, 15⟩
def C1 : Pt := chooseAt 9 U9 [Q2] 0 Q2
def S1 : Pt := settleP (powerP (newP 1 4 false) true)
def O2 : Pt := { Q2 with info := 0 }
def A2 : Pt := ageP O2
end Go.Proofs.YtldobcfejldbiaaGreatDoor
