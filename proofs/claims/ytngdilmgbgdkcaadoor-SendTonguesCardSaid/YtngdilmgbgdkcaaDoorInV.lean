/-
  Layer 11: Choose, whole; a port is the same as itself.
-/
import Derived.Test.YtngdilmgbgdkcaaDoorInU
namespace Go.Proofs.YtngdilmgbgdkcaaDoor
set_option linter.unusedVariables false
set_option linter.unusedSimpArgs false
open Go.RowKit Vm Rm Bm Im

/-- What is chosen is of its kinds. -/
theorem choose_pok {br : Int} {t : Tm} {l : List Pt} (h : ∀ p ∈ l, PtOk p) : ∀ p ∈ (chooseP br t l).1, PtOk p := by
  intro p hp
  cases hm : mayB br t l with
  | false =>
    rw [choose_not hm] at hp
    exact h p hp
  | true =>
    rw [choose_may hm] at hp
    obtain ⟨k, hk⟩ := List.getElem?_of_mem hp
    simp only [List.getElem?_mapIdx, Option.map_eq_some_iff] at hk
    obtain ⟨q, hq, rfl⟩ := hk
    have := h q (List.mem_of_getElem? hq)
    exact ⟨⟨this.tk.fd, this.tk.rr, this.tk.rb, this.tk.tc, this.tk.edge, this.tk.md, this.tk.info, this.tk.hello, this.tk.txCount⟩, this.id, this.cost, this.source, this.vec, this.age⟩

set_option maxRecDepth 100000 in
set_option maxHeartbeats 4000000 in
theorem run_ptEq (p : Pt) (w : World) : Sem.run Tryd.prog (binOp .eql 30 (.agg (cellsT p)) (.agg (cellsT p))) w = .ok (.bool true) w := by
  unfold cellsT
  go_simp
end Go.Proofs.YtngdilmgbgdkcaaDoor
