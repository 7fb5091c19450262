/-
  Layer 11: what is asked of a BPDU and of times (no port in it): Supersedes, ticks, TimesOf, Role, has, holds.
-/
import Derived.Test.YtngdilmgbgdkcaaDoorInC
namespace Go.Proofs.YtngdilmgbgdkcaaDoor
set_option linter.unusedVariables false
set_option linter.unusedSimpArgs false
open Go.RowKit Vm Rm Bm Im

/-- The cells of two vectors. -/
abbrev Two (w : World) (b1 b2 : Nat) (r c b p r' c' b' p' : Int) : Prop :=
  (w.cell? ⟨b1, 0, none⟩ = some (.int .u64 r) ∧ w.cell? ⟨b1, 1, none⟩ = some (.int .u64 c) ∧ w.cell? ⟨b1, 2, none⟩ = some (.int .u64 b) ∧ w.cell? ⟨b1, 3, none⟩ = some (.int .u64 p)) ∧ (w.cell? ⟨b2, 0, none⟩ = some (.int .u64 r') ∧ w.cell? ⟨b2, 1, none⟩ = some (.int .u64 c') ∧ w.cell? ⟨b2, 2, none⟩ = some (.int .u64 b') ∧ w.cell? ⟨b2, 3, none⟩ = some (.int .u64 p'))

abbrev tv (a m h d : Int) : Value := .agg #[.int .i64 a, .int .i64 m, .int .i64 h, .int .i64 d]
theorem run_tmEq (a m h d a' m' h' d' : Int) (w : World) :
    Sem.run Tryd.prog (binOp .eql 24 (tv a m h d) (tv a' m' h' d')) w = .ok (.bool (decide ((⟨a, m, h, d⟩ : Tm) = ⟨a', m', h', d'⟩))) w := by
  unfold tv
  go_simp
  repeat' split
  all_goals simp_all
theorem run_tmNe (a m h d a' m' h' d' : Int) (w : World) :
    Sem.run Tryd.prog (binOp .neq 24 (tv a m h d) (tv a' m' h' d')) w = .ok (.bool (!decide ((⟨a, m, h, d⟩ : Tm) = ⟨a', m', h', d'⟩))) w := by
  unfold tv
  go_simp
  repeat' split
  all_goals simp_all
theorem run_vcNe (r c b p r' c' b' p' : Int) (w : World) :
    Sem.run Tryd.prog (binOp .neq 28 (vv r c b p) (vv r' c' b' p')) w = .ok (.bool (!decide ((⟨r, c, b, p⟩ : Vc) = ⟨r', c', b', p'⟩))) w := by
  unfold vv
  go_simp
  repeat' split
  all_goals simp_all
/-- A block of times. -/
def TBk (T : TypeId) (w : World) (b : Nat) (a m h d : Int) : Prop := w.heap[b]? = some (.cells #[.int .i64 a, .int .i64 m, .int .i64 h, .int .i64 d] T (0, 0))
section
variable {T : TypeId} {w w' : World} {b : Nat} {a m h d : Int}
theorem TBk.lt (H : TBk T w b a m h d) : b < w.heap.size := (Array.getElem?_eq_some_iff.1 H).1
theorem TBk.next (H : TBk T w b a m h d) (hb : Below w.heap.size w w') : TBk T w' b a m h d := (hb.block b H.lt).trans H
theorem TBk.cells (H : TBk T w b a m h d) : w.cell? ⟨b, 0, none⟩ = some (.int .i64 a) ∧ w.cell? ⟨b, 1, none⟩ = some (.int .i64 m) ∧ w.cell? ⟨b, 2, none⟩ = some (.int .i64 h) ∧ w.cell? ⟨b, 3, none⟩ = some (.int .i64 d) := by
  unfold TBk at H
  refine ⟨?_, ?_, ?_, ?_⟩ <;> simp [World.cell?, H]
theorem TBk.free (H : TBk T w b a m h d) (j : Nat) : w.frozen? ⟨b, j, none⟩ = false := by
  unfold TBk at H
  simp [World.frozen?, H]
theorem tbk_new (T : TypeId) (w : World) (a m h d : Int) : TBk T (w.alloc (.cells #[.int .i64 a, .int .i64 m, .int .i64 h, .int .i64 d] T)) w.heap.size a m h d := heap_alloc_new w _
theorem TBk.set4 (H : TBk T w b a m h d) (a' m' h' d' : Int) : TBk T ((((w.setCell ⟨b, 0, none⟩ (.int .i64 a')).setCell ⟨b, 1, none⟩ (.int .i64 m')).setCell ⟨b, 2, none⟩ (.int .i64 h')).setCell ⟨b, 3, none⟩ (.int .i64 d')) b a' m' h' d' := by
  unfold TBk at H ⊢
  exact blk_set (blk_set (blk_set (blk_set H rfl) rfl) rfl) rfl
theorem TBk.far (H : TBk T w b a m h d) {c : Nat} (j : Nat) (v : Value) (hne : b ≠ c) : TBk T (w.setCell ⟨c, j, none⟩ v) b a m h d := (Below.heap_setCell w ⟨c, j, none⟩ v b hne).trans H
end
theorem ret_val {a b : Value} (h : a = b) : Ending.returned a = .returned b := by rw [h]

theorem brole_w (n : Int) (w : World) :
    Calls Tryd.prog 9 #[.int .i64 n] w fun e w' => e = .returned (.int .i64 (roleF n)) ∧ w = w' := by
  go_enter Tryd.func9, Tryd.ntmps9
  go_wp2
  go_ret
  exact ⟨ret_int (and_3 _), rfl⟩

end Go.Proofs.YtngdilmgbgdkcaaDoor
