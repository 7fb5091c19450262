/-
  Layer 11: what awake asks, at literals.
-/
import Derived.Test.YtngdilmgbgdkcaaDoorInV
import Derived.Great.BuildSlice
namespace Go.Proofs.YtngdilmgbgdkcaaDoor
set_option linter.unusedVariables false
set_option linter.unusedSimpArgs false
open Go.RowKit Vm Rm Bm Im

set_option maxHeartbeats 1000000 in
theorem usual_w (i : Int) (w : World) :
    Calls Tryd.prog 13 #[.int .u64 i] w fun e w' => e = .returned (brv i 0 20 2 15) ∧ Below w.heap.size w w' := by
  have kT : BrBlk (w.alloc (.cells (bcl i 0 20 2 15) 26)) w.heap.size i 0 20 2 15 := heap_alloc_new w _
  obtain ⟨k0, k1, k2, k3, k4⟩ := kT.cells
  clear kT
  unfold bcl at k0 k1 k2 k3 k4
  go_enter Tryd.func13, Tryd.ntmps13
  go_wp2_with fail
  exact bodyPost_ret (v := brv i 0 20 2 15) (by simp [results, Tryd.results13, go_sem, k0, k1, k2, k3, k4]) rfl ⟨rfl, below_box w _⟩

/-! The document's example. -/
def b0 : Bp := ⟨3, 14, 1, 0, 2, 1, 0, 5120, 512, 3840⟩
def P1 : Pt := powerP (newP 1 4 true) true
def Q1 : Pt := hearP P1 b0
def P2 : Pt := { P1 with vec := ⟨1152921504606846976, 0, 0, 0⟩ }
def Q2 : Pt := hearP P2 b0
def U9 : Tm := ⟨0, 20, 2, 15⟩
def C1 : Pt := chooseAt 9 U9 [Q2] 0 Q2
def S1 : Pt := settleP (powerP (newP 1 4 false) true)
def O2 : Pt := { Q2 with info := 0 }
def A2 : Pt := ageP O2
theorem p1_facts : P1.source = 1 ∧ P1.reselect = true ∧ P1.on = true ∧ P1.vec.root = 0 := by decide
theorem q1_facts : Q1.source = 1 := by decide
theorem q2_facts : Q2.source = 3 ∧ Q2.info = 6 ∧ Q2.proposed = true ∧ Q2.oper = false ∧ Q2.heardRstp = true := by decide
theorem c1_facts : C1.selected = 1 ∧ C1.ready = true ∧ C1.update = false ∧ C1.given.age = 1 ∧ C1.offer.root = 1 ∧ C1.offer.cost = 4 ∧ C1.offer.bridge = 9 ∧ C1.offer.port = 1 := by decide
theorem s1_facts : S1.source = 1 := by decide
theorem a2_facts : A2.source = 1 := by decide
theorem choose_1 : chooseP 9 U9 [Q2] = ([C1], true) := by
  have h : mayB 9 U9 [Q2] = true := by decide
  rw [choose_may h]
  rfl
theorem choose_2 : chooseP 9 U9 [C1] = ([C1], false) := by
  have h := choose_again 9 U9 [Q2]
  rw [choose_1] at h
  exact h
theorem b0_ok : BpOk b0 := ⟨⟨by decide, by decide⟩, ⟨by decide, by decide⟩, ⟨by decide, by decide⟩, ⟨by decide, by decide⟩⟩
theorem p1_ok : P1.vec.ok := ⟨⟨by decide, by decide⟩, ⟨by decide, by decide⟩, ⟨by decide, by decide⟩, ⟨by decide, by decide⟩⟩
theorem p2_ok : P2.vec.ok := ⟨⟨by decide, by decide⟩, ⟨by decide, by decide⟩, ⟨by decide, by decide⟩, ⟨by decide, by decide⟩⟩
theorem q2_pok : PtOk Q2 := ⟨⟨⟨by decide, by decide⟩, ⟨by decide, by decide⟩, ⟨by decide, by decide⟩, ⟨by decide, by decide⟩, ⟨by decide, by decide⟩, ⟨by decide, by decide⟩, ⟨by decide, by decide⟩, ⟨by decide, by decide⟩, ⟨by decide, by decide⟩⟩, ⟨by decide, by decide⟩, ⟨by decide, by decide⟩, ⟨by decide, by decide⟩, ⟨⟨by decide, by decide⟩, ⟨by decide, by decide⟩, ⟨by decide, by decide⟩, ⟨by decide, by decide⟩⟩, ⟨by decide, by decide⟩⟩
theorem q2_all : ∀ p ∈ [Q2], PtOk p := fun p hp => by simp at hp; subst hp; exact q2_pok
theorem c1_all : ∀ p ∈ [C1], PtOk p := by
  have h := choose_pok (br := 9) (t := U9) q2_all
  rw [choose_1] at h
  exact h
theorem usual_right : rightBr U9 = true := by decide
/-- A row of one port. -/
theorem one_row {w : World} {g : Nat} {p : Pt} {T : TypeId} (h : w.heap[g]? = some (.cells (cellsT p) T (0, 0))) : PRow w (some ⟨g, 0, none⟩) [p] :=
  ⟨fun j q hq => by
    cases j with
    | zero =>
      simp only [List.getElem?_cons_zero, Option.some.injEq] at hq
      subst hq
      refine ⟨g, 0, rfl, (Array.getElem?_eq_some_iff.1 h).1, fun c v hv => ?_⟩
      rw [show 0 + 0 * 61 + c = c by omega, cell_of_row w g c (cellsT p) T (0, 0) h]
      simpa using hv
    | succ j => simp at hq⟩
end Go.Proofs.YtngdilmgbgdkcaaDoor
