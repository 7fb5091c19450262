/-
  Walks of layer 3: within, rightNumbers, Right, Size, Role.
-/
import Derived.Test.YtaifkepojfhgkaaDoorRows
import Derived.Test.YtaifkepojfhgkaaDoorBpMath
import Derived.WalkKit
import Derived.WalkSpells
import Derived.WalkLawsBesides
import Derived.Lib.Hide
import Derived.Deep.Light
import Derived.Lib.AppendStr
import Derived.Laws.IdiomStrings
import Derived.Deep.QuietTactic
import Derived.BigQuiet
import Derived.Deep.RegionWith
import Derived.Deep.RegionHeld3
import Derived.Deep.DeepCutAuto
import Derived.Lib.SmallJoins
import Derived.LoopN
namespace Go.Proofs.YtaifkepojfhgkaaDoor
set_option linter.unusedVariables false
set_option linter.unusedSimpArgs false
open Go.RowKit Bm

theorem ret_bool {a b : Bool} (h : a = b) : Ending.returned (.bool a) = .returned (.bool b) := by rw [h]
theorem ret_int {k : IntKind} {a b : Int} (h : a = b) : Ending.returned (.int k a) = .returned (.int k b) := by rw [h]
theorem below_box (w : World) (o : Obj) : Below w.heap.size w (w.alloc o) := (Below.refl _ _).alloc (Nat.le_refl _) o
theorem bw_trans {a b c : World} (h : Below a.heap.size a b) (k : Below b.heap.size b c) : Below a.heap.size a c := h.trans (k.mono h.size)
theorem bw_alloc {a b : World} (h : Below a.heap.size a b) (o : Obj) : Below a.heap.size a (b.alloc o) := h.alloc h.size o
theorem below_drewN {B : Nat} {a w : World} (h : Below B a w) (n : Nat) : Below B a (w.drewN n) := ⟨h.os, h.tape, h.output, h.size, h.block⟩

/-- Block b holds just this BPDU's cells (of the program's type T), none of them frozen. -/
def Blk (T : TypeId) (w : World) (b : Nat) (x : Bp) : Prop :=
  w.heap[b]? = some (.cells #[.int .i64 x.kind, .int .i64 x.flags, .int .u64 x.root, .int .u64 x.cost, .int .u64 x.bridge, .int .u64 x.port, .int .i64 x.age, .int .i64 x.max, .int .i64 x.hello, .int .i64 x.delay] T (0, 0))
def Boxed (w : World) (b : Nat) (k f r c br p a m h d : Int) : Prop :=
  w.cell? ⟨b, 0, none⟩ = some (.int .i64 k) ∧ w.cell? ⟨b, 1, none⟩ = some (.int .i64 f) ∧ w.cell? ⟨b, 2, none⟩ = some (.int .u64 r) ∧ w.cell? ⟨b, 3, none⟩ = some (.int .u64 c) ∧ w.cell? ⟨b, 4, none⟩ = some (.int .u64 br) ∧ w.cell? ⟨b, 5, none⟩ = some (.int .u64 p) ∧ w.cell? ⟨b, 6, none⟩ = some (.int .i64 a) ∧ w.cell? ⟨b, 7, none⟩ = some (.int .i64 m) ∧ w.cell? ⟨b, 8, none⟩ = some (.int .i64 h) ∧ w.cell? ⟨b, 9, none⟩ = some (.int .i64 d)
theorem Blk.below {T : TypeId} {w w' : World} {b B : Nat} {x : Bp} (h : Blk T w b x) (hb : Below B w w') (hB : b < B) : Blk T w' b x := (hb.block b hB).trans h
theorem Blk.lt {T : TypeId} {w : World} {b : Nat} {x : Bp} (h : Blk T w b x) : b < w.heap.size := (Array.getElem?_eq_some_iff.1 h).1
theorem Blk.next {T : TypeId} {w w' : World} {b : Nat} {x : Bp} (h : Blk T w b x) (hb : Below w.heap.size w w') : Blk T w' b x := h.below hb h.lt
theorem blk_new (T : TypeId) (w : World) (k f r c b p a m h d : Int) :
    Blk T (w.alloc (.cells #[.int .i64 k, .int .i64 f, .int .u64 r, .int .u64 c, .int .u64 b, .int .u64 p, .int .i64 a, .int .i64 m, .int .i64 h, .int .i64 d] T)) w.heap.size ⟨k, f, r, c, b, p, a, m, h, d⟩ := heap_alloc_new w _
theorem Blk.cells {T : TypeId} {w : World} {b : Nat} {k f r c br p a m h d : Int} (H : Blk T w b ⟨k, f, r, c, br, p, a, m, h, d⟩) : Boxed w b k f r c br p a m h d := by
  unfold Blk at H
  refine ⟨?_, ?_, ?_, ?_, ?_, ?_, ?_, ?_, ?_, ?_⟩ <;> simp [World.cell?, H]
theorem Blk.free {T : TypeId} {w : World} {b : Nat} {x : Bp} (h : Blk T w b x) (j : Nat) : w.frozen? ⟨b, j, none⟩ = false := by
  unfold Blk at h
  simp [World.frozen?, h]
theorem blk_set {w : World} {b i : Nat} {cs cs' : Array Value} {T : TypeId} {x : Value} (h : w.heap[b]? = some (.cells cs T (0, 0))) (hc : cs.setIfInBounds i x = cs') : (w.setCell ⟨b, i, none⟩ x).heap[b]? = some (.cells cs' T (0, 0)) := by
  rw [Joins.block_setCell h x, hc]
theorem Blk.other {T : TypeId} {w : World} {b : Nat} {x : Bp} (h : Blk T w b x) {c : Nat} (i : Nat) (v : Value) (hne : b ≠ c) : Blk T (w.setCell ⟨c, i, none⟩ v) b x :=
  (Below.heap_setCell w ⟨c, i, none⟩ v b hne).trans h

/-- The table of sizes, as it stands in memory. -/
def Sizes (w : World) : Prop := w.cell? ⟨0, 0, none⟩ = some (.int .i64 0) ∧ w.cell? ⟨0, 1, none⟩ = some (.int .i64 35) ∧ w.cell? ⟨0, 2, none⟩ = some (.int .i64 4) ∧ w.cell? ⟨0, 3, none⟩ = some (.int .i64 36)
theorem Sizes.pos {w : World} (h : Sizes w) : 0 < w.heap.size := by
  have h0 := h.1
  rcases Nat.eq_zero_or_pos w.heap.size with e | e
  · exfalso
    have : w.heap[0]? = none := Array.getElem?_eq_none (by omega)
    simp [World.cell?, this] at h0
  · exact e
theorem Sizes.below {w w' : World} {B : Nat} (h : Sizes w) (hb : Below B w w') (hB : 0 < B) : Sizes w' := by
  obtain ⟨h0, h1, h2, h3⟩ := h
  exact ⟨(hb.cell (p := ⟨0, 0, none⟩) hB).trans h0, (hb.cell (p := ⟨0, 1, none⟩) hB).trans h1, (hb.cell (p := ⟨0, 2, none⟩) hB).trans h2, (hb.cell (p := ⟨0, 3, none⟩) hB).trans h3⟩
theorem Sizes.next {w w' : World} (h : Sizes w) (hb : Below w.heap.size w w') : Sizes w' := h.below hb h.pos
theorem Sizes.set {w : World} (h : Sizes w) {b : Nat} (i : Nat) (x : Value) (hb : 0 < b) : Sizes (w.setCell ⟨b, i, none⟩ x) := h.below ((Below.refl 1 w).setCell (p := ⟨b, i, none⟩) hb x) Nat.one_pos

theorem run_bpEq (k f r c b p a m h d k' f' r' c' b' p' a' m' h' d' : Int) (w : World) :
    Sem.run Tryd.prog (binOp .eql 26 (bv k f r c b p a m h d) (bv k' f' r' c' b' p' a' m' h' d')) w = .ok (.bool (bpEq ⟨k, f, r, c, b, p, a, m, h, d⟩ ⟨k', f', r', c', b', p', a', m', h', d'⟩)) w := by
  unfold bv
  go_simp
  repeat' split
  all_goals simp_all [bpEq]
theorem run_bpNe (k f r c b p a m h d k' f' r' c' b' p' a' m' h' d' : Int) (w : World) :
    Sem.run Tryd.prog (binOp .neq 26 (bv k f r c b p a m h d) (bv k' f' r' c' b' p' a' m' h' d')) w = .ok (.bool (!bpEq ⟨k, f, r, c, b, p, a, m, h, d⟩ ⟨k', f', r', c', b', p', a', m', h', d'⟩)) w := by
  unfold bv
  go_simp
  repeat' split
  all_goals simp_all [bpEq]

set_option maxHeartbeats 400000 in
theorem within_any (n m : Int) (w : World) :
    Calls Tryd.prog 25 #[.int .i64 n, .int .i64 m] w fun e w' => e = .returned (.bool (withinB n m)) ∧ w = w' := by
  go_enter Tryd.func25, Tryd.ntmps25
  go_wp2
  all_goals go_ret
  all_goals refine ⟨ret_bool ?_, rfl⟩
  all_goals (unfold withinB; rw [Bool.eq_iff_iff]; simp; omega)

set_option maxHeartbeats 1000000 in
theorem nums_any (k f r c b p a m h d : Int) (w : World) :
    Calls Tryd.prog 27 #[bv k f r c b p a m h d] w fun e w' => e = .returned (.bool (numsB ⟨k, f, r, c, b, p, a, m, h, d⟩)) ∧ Below w.heap.size w w' := by
  unfold bv
  go_enter Tryd.func27, Tryd.ntmps27
  go_wp2_with (go_at_call 25; refine (within_any _ _ _).mono ?_; rintro e w' ⟨rfl, rfl⟩)
  all_goals go_ret
  all_goals refine ⟨ret_bool ?_, below_box _ _⟩
  all_goals go_light
  all_goals (unfold numsB; rw [Bool.eq_iff_iff]; simp_all; try omega)

set_option maxHeartbeats 1000000 in
theorem right_any (k f r c b p a m h d : Int) (w : World) :
    Calls Tryd.prog 19 #[bv k f r c b p a m h d] w fun e w' => e = .returned (.bool (rightB ⟨k, f, r, c, b, p, a, m, h, d⟩)) ∧ Below w.heap.size w w' := by
  have hq := run_bpEq k f r c b p a m h d 2 0 0 0 0 0 0 0 0 0
  unfold bv at hq ⊢
  go_enter Tryd.func19, Tryd.ntmps19
  go_wp2_with (go_at_call 27; refine (nums_any _ _ _ _ _ _ _ _ _ _ _).mono ?_; rintro e w1 ⟨rfl, hb1⟩)
  all_goals go_light
  all_goals go_ret
  all_goals (first | refine ⟨ret_bool ?_, bw_trans (below_box _ _) hb1⟩ | refine ⟨ret_bool ?_, below_box _ _⟩)
  all_goals simp_all [rightB, notice]

set_option maxHeartbeats 400000 in
theorem size_any (k : Int) (w : World) (hS : Sizes w) :
    Calls Tryd.prog 14 #[.int .i64 k] w fun e w' => e = .returned (.int .i64 (sizeN k)) ∧ w = w' := by
  obtain ⟨s0, s1, s2, s3⟩ := hS
  by_cases hk : 0 ≤ k ∧ k ≤ 3
  · have hw : withinB k 3 = true := by simp [withinB, hk]
    obtain rfl | rfl | rfl | rfl : k = 0 ∨ k = 1 ∨ k = 2 ∨ k = 3 := by omega
    all_goals (
      go_enter Tryd.func14, Tryd.ntmps14
      go_wp2_with (go_at_call 25; refine (within_any _ _ _).mono ?_; rintro e w' ⟨rfl, rfl⟩)
      go_ret
      exact ⟨rfl, rfl⟩)
  · have hw : withinB k 3 = false := by simp [withinB]; omega
    have hz : sizeN k = 0 := by unfold sizeN; repeat' split
                                all_goals omega
    rw [hz]
    go_enter Tryd.func14, Tryd.ntmps14
    go_wp2_with (go_at_call 25; refine (within_any _ _ _).mono ?_; rintro e w' ⟨rfl, rfl⟩)
    go_ret
    exact ⟨rfl, rfl⟩

end Go.Proofs.YtaifkepojfhgkaaDoor
