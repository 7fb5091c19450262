/-
  Plain mathematics of layer 11, second part: choosing, and choosing again.
-/
import Derived.Test.YtngdilmgbgdkcaaDoorInMath
namespace Go.Proofs.YtngdilmgbgdkcaaDoor
set_option linter.unusedVariables false
set_option linter.unusedSimpArgs false
namespace Im
open Vm Rm Bm

def chooseAt (br : Int) (t : Tm) (l : List Pt) (i : Nat) (p : Pt) : Pt := chosenP br (rootV br (infosP l)) (givenP br t l) (roleAt br (infosP l) i (infP p)) p
def chooseP (br : Int) (t : Tm) (l : List Pt) : List Pt × Bool := if mayB br t l = true then (l.mapIdx (chooseAt br t l), true) else (l, false)
theorem choose_not {br : Int} {t : Tm} {l : List Pt} (h : mayB br t l = false) : chooseP br t l = (l, false) := by unfold chooseP; rw [if_neg (by rw [h]; simp)]
theorem choose_may {br : Int} {t : Tm} {l : List Pt} (h : mayB br t l = true) : chooseP br t l = (l.mapIdx (chooseAt br t l), true) := by unfold chooseP; rw [if_pos h]
theorem choose_ok (br : Int) (t : Tm) (l : List Pt) : (chooseP br t l).2 = mayB br t l := by
  cases h : mayB br t l with
  | false => rw [choose_not h]
  | true => rw [choose_may h]
theorem choose_len (br : Int) (t : Tm) (l : List Pt) : (chooseP br t l).1.length = l.length := by
  cases h : mayB br t l with
  | false => rw [choose_not h]
  | true => rw [choose_may h]; simp
theorem choose_at {br : Int} {t : Tm} {l : List Pt} (h : mayB br t l = true) {i : Nat} {p : Pt} (hp : l[i]? = some p) : (chooseP br t l).1[i]? = some (chooseAt br t l i p) := by
  rw [choose_may h]
  simp [hp]
/-- Behind a choosing none is to be chosen anew. -/
theorem chosen_rests {br : Int} {t : Tm} {l : List Pt} (h : mayB br t l = true) : (chooseP br t l).1.any Pt.reselect = false := by
  rw [List.any_eq_false]
  intro p hp
  obtain ⟨i, hi⟩ := List.getElem?_of_mem hp
  have hl : i < l.length := by
    have := (List.getElem?_eq_some_iff.1 hi).1
    rw [choose_len] at this
    exact this
  have := choose_at h (List.getElem?_eq_getElem hl)
  rw [hi] at this
  cases this
  simp [chooseAt, chosenP]
/-- Choosing again changes nothing. -/
theorem choose_again (br : Int) (t : Tm) (l : List Pt) : chooseP br t (chooseP br t l).1 = ((chooseP br t l).1, false) := by
  cases h : mayB br t l with
  | false =>
    rw [choose_not h]
    exact choose_not h
  | true =>
    refine choose_not ?_
    unfold mayB
    rw [chosen_rests h]
    rfl
theorem off_source {p : Pt} (h : p.on = false) : (infP p).source = 0 := by unfold infP; simp [h]
/-- A port that is off is selected as disabled. -/
theorem off_role {br : Int} {l : List Pt} {i : Nat} {p : Pt} (h : p.on = false) : roleAt br (infosP l) i (infP p) = 0 := role_0 (off_source h)
theorem infos_at {l : List Pt} {i : Nat} {p : Pt} (h : l[i]? = some p) : (infosP l)[i]? = some (infP p) := by unfold infosP; rw [List.getElem?_map, h]; rfl
/-- It is the root port that is selected as such. -/
theorem root_role {br : Int} {l : List Inf} {i : Nat} {p : Inf} (hr : rightR l = true) (hp : l[i]? = some p) : roleAt br l i p = 1 ↔ rootP br l = some i := by
  have hb := right_each hr (List.mem_of_getElem? hp)
  obtain ⟨h0, h3⟩ := inf_source hb
  unfold roleAt
  constructor
  · intro h
    by_cases hc : rootP br l = some i
    · exact hc
    · exfalso
      rw [decide_eq_false hc] at h
      unfold roleR at h
      revert h
      repeat' split
      all_goals (intro h; first | contradiction | omega | simp_all)
  · intro hc
    rw [decide_eq_true hc]
    exact role_root (rootP_way hc hp).1
theorem roots_step {br : Int} {l : List Inf} {i : Nat} {p : Inf} (hr : rightR l = true) (hp : l[i]? = some p) : rootsN (rootP br l) (i + 1) = rootsN (rootP br l) i + if roleAt br l i p = 1 then 1 else 0 := by
  rw [roots_next]
  by_cases h : rootP br l = some i
  · rw [if_pos h, if_pos ((root_role hr hp).2 h)]
  · rw [if_neg h, if_neg (fun e => h ((root_role hr hp).1 e))]
theorem may_parts {br : Int} {t : Tm} {l : List Pt} (h : mayB br t l = true) : l.any Pt.reselect = true ∧ rightBr t = true ∧ rightR (infosP l) = true := by
  unfold mayB at h
  simp only [Bool.and_eq_true] at h
  exact ⟨h.1, h.2.1, h.2.2⟩
theorem chosen_facts {br : Int} {t : Tm} {l : List Pt} (h : mayB br t l = true) {i : Nat} {p : Pt} (hp : l[i]? = some p) :
    (chooseAt br t l i p).reselect = false ∧ (chooseAt br t l i p).ready = true ∧ (chooseAt br t l i p).on = p.on ∧ (p.on = false → (chooseAt br t l i p).selected = 0) ∧ ((chooseAt br t l i p).selected = 1 ↔ rootP br (infosP l) = some i) :=
  ⟨rfl, rfl, rfl, fun ho => off_role ho, root_role (may_parts h).2.2 (infos_at hp)⟩
end Im
end Go.Proofs.YtngdilmgbgdkcaaDoor
