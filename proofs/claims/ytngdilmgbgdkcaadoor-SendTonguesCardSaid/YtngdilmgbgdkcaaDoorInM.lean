/-
  Layer 11: Hear.
-/
import Derived.Test.YtngdilmgbgdkcaaDoorInL
namespace Go.Proofs.YtngdilmgbgdkcaaDoor
set_option linter.unusedVariables false
set_option linter.unusedSimpArgs false
open Go.RowKit Vm Rm Bm Im

theorem PtBlk.nextB {T : TypeId} {w w' : World} {b : Nat} {p : Pt} (h : PtBlk T w b p) (hb : Below w.heap.size w w') : PtBlk T w' b p := h.next hb
/-- A port, a BPDU, and an empty port, behind a world. -/
theorem pbz_is (T T' T2 : TypeId) (w : World) (p : Pt) (q : Bp) : ∃ (W : World) (nb : Nat), Hid ((((w.alloc (.cells (cellsT p) T)).alloc (.cells (bcells q) T')).alloc (.cells (cellsT zeroP) T2)) = W) ∧ Hid (w.heap.size = nb) ∧ PtBlk T W nb p ∧ BBlk T' W (nb + 1) q ∧ PtBlk T2 W (nb + 2) zeroP ∧ Below nb w W := by
  obtain ⟨V, nb, HV, HN, k0, k1, kB⟩ := pb_is T T' w p q
  have e := HN.out
  have hs : V.heap.size = nb + 2 := by rw [← HV.out, size_box, size_box, e]
  refine ⟨V.alloc (.cells (cellsT zeroP) T2), nb, Lib.hid (by rw [HV.out]), HN, k0.next (below_box _ _), k1.next (below_box _ _), ?_, kB.trans ((below_box V _).mono (by omega))⟩
  rw [← hs]
  exact ptblk_new T2 V zeroP

theorem BBlk.drewN {T : TypeId} {w : World} {b : Nat} {q : Bp} (h : BBlk T w b q) (n : Nat) : BBlk T (w.drewN n) b q := h
theorem loadAt_row {P : Program} {w : World} {b : Nat} {T T' : TypeId} {cs : Array Value} {d : TypeDesc} (h : w.heap[b]? = some (.cells cs T' (0, 0))) (hu : P.underlying T = some d) (hd : (match d with | .struct _ | .array _ _ => true | _ => false) = true) (hi : (P.info? T).map (·.size) = some cs.size) : (Instr.loadAt T (.pointer (some ⟨b, 0, none⟩))).run P w = .ok (.agg cs) w := by
  have hv := run_loadVar_row (P := P) w b T' T cs (0, 0) d h hu hd hi
  simp only [Instr.loadAt, Instr.sureAddr, Sem.run_bind, Sem.run_pure, Result.andThen_ok, hv]
set_option maxRecDepth 100000 in
theorem PtBlk.loadAt {w : World} {b : Nat} {p : Pt} (h : PtBlk 30 w b p) : (Instr.loadAt 30 (.pointer (some ⟨b, 0, none⟩))).run Tryd.prog w = .ok (.agg (cellsT p)) w := loadAt_row h rfl rfl infoSP
set_option maxRecDepth 100000 in
theorem BBlk.loadAt {w : World} {b : Nat} {q : Bp} (h : BBlk 34 w b q) : (Instr.loadAt 34 (.pointer (some ⟨b, 0, none⟩))).run Tryd.prog w = .ok (bq q) w := loadAt_row h rfl rfl (by kernel_rfl)
/-- In a region that draws its order: a load whose run is known in every world that meets S may be taken first. -/
theorem yieldsIf_run {P : Program} {ops : Array Oper} {S : World → Prop} {op : Oper} {a : Act} (hw : Region.wanted op (yielded ops a.tmps) = true) (ty : TypeId) (x : Operand) (ho : op.op = .load ty x) (b : Addr) (hx : a.eval x = .pointer (some b)) (V : Value)
    (hS : ∀ w, S w → (Instr.loadAt ty (.pointer (some b))).run P w = .ok V w) : YieldsIf P ops S op V a :=
  .inl ⟨hw, fun w hw' => by
    unfold execOp
    simp only [ho, hx, Sem.run_bind, Sem.run_pure, Result.andThen_ok, hS w hw']⟩
theorem yieldsIf_move {P : Program} {ops : Array Oper} {S : World → Prop} {op : Oper} {a : Act} (hw : Region.wanted op (yielded ops a.tmps) = true) (x : Operand) (ho : op.op = .move x) (V : Value) (hx : a.eval x = V) : YieldsIf P ops S op V a :=
  .inl ⟨hw, fun w hw' => by
    unfold execOp
    simp only [ho, hx, Sem.run_bind, Sem.run_pure, Result.andThen_ok]⟩

end Go.Proofs.YtngdilmgbgdkcaaDoor
