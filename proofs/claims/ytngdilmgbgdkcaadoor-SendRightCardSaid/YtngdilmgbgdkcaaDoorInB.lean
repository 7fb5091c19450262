/-
  Walks of layer 3: within, rightNumbers, Right, Size, Role.
-/
import Derived.Test.YtngdilmgbgdkcaaDoorRoB
import Derived.Test.YtngdilmgbgdkcaaDoorInMath
import Derived.WalkKit
import Derived.WalkSpells
import Derived.WalkLawsBesides
import Derived.Lib.Hide
import Derived.Deep.Light
import Derived.Lib.AppendStr
import Derived.Laws.IdiomStrings
import Derived.Deep.QuietTactic
import Derived.BigQuiet
import Derived.Deep.RegionWith
import Derived.Deep.RegionHeld3
import Derived.Deep.DeepCutAuto
import Derived.Lib.SmallJoins
import Derived.LoopN
namespace Go.Proofs.YtngdilmgbgdkcaaDoor
set_option linter.unusedVariables false
set_option linter.unusedSimpArgs false
open Go.RowKit Bm

/-- Block b holds just this BPDU's cells (of the program's type T), none of them frozen. -/
def BBlk (T : TypeId) (w : World) (b : Nat) (x : Bp) : Prop :=
  w.heap[b]? = some (.cells #[.int .i64 x.kind, .int .i64 x.flags, .int .u64 x.root, .int .u64 x.cost, .int .u64 x.bridge, .int .u64 x.port, .int .i64 x.age, .int .i64 x.max, .int .i64 x.hello, .int .i64 x.delay] T (0, 0))
def BBoxed (w : World) (b : Nat) (k f r c br p a m h d : Int) : Prop :=
  w.cell? ⟨b, 0, none⟩ = some (.int .i64 k) ∧ w.cell? ⟨b, 1, none⟩ = some (.int .i64 f) ∧ w.cell? ⟨b, 2, none⟩ = some (.int .u64 r) ∧ w.cell? ⟨b, 3, none⟩ = some (.int .u64 c) ∧ w.cell? ⟨b, 4, none⟩ = some (.int .u64 br) ∧ w.cell? ⟨b, 5, none⟩ = some (.int .u64 p) ∧ w.cell? ⟨b, 6, none⟩ = some (.int .i64 a) ∧ w.cell? ⟨b, 7, none⟩ = some (.int .i64 m) ∧ w.cell? ⟨b, 8, none⟩ = some (.int .i64 h) ∧ w.cell? ⟨b, 9, none⟩ = some (.int .i64 d)
theorem BBlk.below {T : TypeId} {w w' : World} {b B : Nat} {x : Bp} (h : BBlk T w b x) (hb : Below B w w') (hB : b < B) : BBlk T w' b x := (hb.block b hB).trans h
theorem BBlk.lt {T : TypeId} {w : World} {b : Nat} {x : Bp} (h : BBlk T w b x) : b < w.heap.size := (Array.getElem?_eq_some_iff.1 h).1
theorem BBlk.next {T : TypeId} {w w' : World} {b : Nat} {x : Bp} (h : BBlk T w b x) (hb : Below w.heap.size w w') : BBlk T w' b x := h.below hb h.lt
theorem bblk_new (T : TypeId) (w : World) (k f r c b p a m h d : Int) :
    BBlk T (w.alloc (.cells #[.int .i64 k, .int .i64 f, .int .u64 r, .int .u64 c, .int .u64 b, .int .u64 p, .int .i64 a, .int .i64 m, .int .i64 h, .int .i64 d] T)) w.heap.size ⟨k, f, r, c, b, p, a, m, h, d⟩ := heap_alloc_new w _
theorem BBlk.cells {T : TypeId} {w : World} {b : Nat} {k f r c br p a m h d : Int} (H : BBlk T w b ⟨k, f, r, c, br, p, a, m, h, d⟩) : BBoxed w b k f r c br p a m h d := by
  unfold BBlk at H
  refine ⟨?_, ?_, ?_, ?_, ?_, ?_, ?_, ?_, ?_, ?_⟩ <;> simp [World.cell?, H]
theorem BBlk.free {T : TypeId} {w : World} {b : Nat} {x : Bp} (h : BBlk T w b x) (j : Nat) : w.frozen? ⟨b, j, none⟩ = false := by
  unfold BBlk at h
  simp [World.frozen?, h]
theorem BBlk.other {T : TypeId} {w : World} {b : Nat} {x : Bp} (h : BBlk T w b x) {c : Nat} (i : Nat) (v : Value) (hne : b ≠ c) : BBlk T (w.setCell ⟨c, i, none⟩ v) b x :=
  (Below.heap_setCell w ⟨c, i, none⟩ v b hne).trans h

theorem run_bpEq (k f r c b p a m h d k' f' r' c' b' p' a' m' h' d' : Int) (w : World) :
    Sem.run Tryd.prog (binOp .eql 34 (bv k f r c b p a m h d) (bv k' f' r' c' b' p' a' m' h' d')) w = .ok (.bool (bpEq ⟨k, f, r, c, b, p, a, m, h, d⟩ ⟨k', f', r', c', b', p', a', m', h', d'⟩)) w := by
  unfold bv
  go_simp
  repeat' split
  all_goals simp_all [bpEq]
theorem run_bpNe (k f r c b p a m h d k' f' r' c' b' p' a' m' h' d' : Int) (w : World) :
    Sem.run Tryd.prog (binOp .neq 34 (bv k f r c b p a m h d) (bv k' f' r' c' b' p' a' m' h' d')) w = .ok (.bool (!bpEq ⟨k, f, r, c, b, p, a, m, h, d⟩ ⟨k', f', r', c', b', p', a', m', h', d'⟩)) w := by
  unfold bv
  go_simp
  repeat' split
  all_goals simp_all [bpEq]

set_option maxHeartbeats 400000 in
theorem within_any (n m : Int) (w : World) :
    Calls Tryd.prog 26 #[.int .i64 n, .int .i64 m] w fun e w' => e = .returned (.bool (withinB n m)) ∧ w = w' := by
  go_enter Tryd.func26, Tryd.ntmps26
  go_wp2
  all_goals go_ret
  all_goals refine ⟨ret_bool ?_, rfl⟩
  all_goals (unfold withinB; rw [Bool.eq_iff_iff]; simp; omega)

set_option maxHeartbeats 1000000 in
theorem nums_any (k f r c b p a m h d : Int) (w : World) :
    Calls Tryd.prog 17 #[bv k f r c b p a m h d] w fun e w' => e = .returned (.bool (numsB ⟨k, f, r, c, b, p, a, m, h, d⟩)) ∧ Below w.heap.size w w' := by
  unfold bv
  go_enter Tryd.func17, Tryd.ntmps17
  go_wp2_with (go_at_call 26; refine (within_any _ _ _).mono ?_; rintro e w' ⟨rfl, rfl⟩)
  all_goals go_ret
  all_goals refine ⟨ret_bool ?_, below_box _ _⟩
  all_goals go_light
  all_goals (unfold numsB; rw [Bool.eq_iff_iff]; simp_all; try omega)

set_option maxHeartbeats 1000000 in
theorem right_any (k f r c b p a m h d : Int) (w : World) :
    Calls Tryd.prog 8 #[bv k f r c b p a m h d] w fun e w' => e = .returned (.bool (rightB ⟨k, f, r, c, b, p, a, m, h, d⟩)) ∧ Below w.heap.size w w' := by
  have hq := run_bpEq k f r c b p a m h d 2 0 0 0 0 0 0 0 0 0
  unfold bv at hq ⊢
  go_enter Tryd.func8, Tryd.ntmps8
  go_wp2_with (go_at_call 17; refine (nums_any _ _ _ _ _ _ _ _ _ _ _).mono ?_; rintro e w1 ⟨rfl, hb1⟩)
  all_goals go_light
  all_goals go_ret
  all_goals (first | refine ⟨ret_bool ?_, bw_trans (below_box _ _) hb1⟩ | refine ⟨ret_bool ?_, below_box _ _⟩)
  all_goals simp_all [rightB, notice]

end Go.Proofs.YtngdilmgbgdkcaaDoor
