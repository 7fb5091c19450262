/-
  Layer 8: the scan over the ports: root's closure, eachWay, root.
-/
import Derived.Test.YtngdilmgbgdkcaaDoorRoE
import Derived.Test.YtngdilmgbgdkcaaDoorRoMath3
namespace Go.Proofs.YtngdilmgbgdkcaaDoor
set_option linter.unusedVariables false
set_option linter.unusedSimpArgs false
open Go.RowKit Vm Rm

/-- Nothing that was there has turned, but two blocks. -/
structure Kept2 (tb mb : Nat) (w w' : World) : Prop where
  os : w'.os = w.os
  tape : w'.tape = w.tape
  output : w'.output = w.output
  size : w.heap.size ≤ w'.heap.size
  block : ∀ i, i < w.heap.size → i ≠ tb → i ≠ mb → w'.heap[i]? = w.heap[i]?
theorem Kept2.refl (tb mb : Nat) (w : World) : Kept2 tb mb w w := ⟨rfl, rfl, rfl, Nat.le_refl _, fun _ _ _ _ => rfl⟩
theorem Kept2.trans {tb mb : Nat} {a b c : World} (h : Kept2 tb mb a b) (k : Kept2 tb mb b c) : Kept2 tb mb a c :=
  ⟨k.os.trans h.os, k.tape.trans h.tape, k.output.trans h.output, Nat.le_trans h.size k.size, fun i hi h1 h2 => (k.block i (Nat.lt_of_lt_of_le hi h.size) h1 h2).trans (h.block i hi h1 h2)⟩
theorem kept2_below {tb mb : Nat} {w w' : World} (h : Below w.heap.size w w') : Kept2 tb mb w w' := ⟨h.os, h.tape, h.output, h.size, fun i hi _ _ => h.block i hi⟩
theorem kept2_set {tb mb : Nat} (w : World) (c j : Nat) (v : Value) (h : c = tb ∨ c = mb) : Kept2 tb mb w (w.setCell ⟨c, j, none⟩ v) :=
  ⟨rfl, rfl, rfl, by show w.heap.size ≤ (w.heap.modify _ _).size; simp, fun i _ h1 h2 => Below.heap_setCell w ⟨c, j, none⟩ v i (by rcases h with rfl | rfl <;> assumption)⟩
theorem kept2_put4 {tb mb : Nat} (w : World) (r c b p : Int) : Kept2 tb mb w (put4 w tb r c b p) :=
  (((kept2_set w tb 0 _ (.inl rfl)).trans (kept2_set _ tb 1 _ (.inl rfl))).trans (kept2_set _ tb 2 _ (.inl rfl))).trans (kept2_set _ tb 3 _ (.inl rfl))
theorem Kept2.below {tb mb B : Nat} {a w w' : World} (h : Kept2 tb mb w w') (hb : Below B a w) (h1 : B ≤ tb) (h2 : B ≤ mb) (h3 : B ≤ w.heap.size) : Below B a w' :=
  ⟨h.os.trans hb.os, h.tape.trans hb.tape, h.output.trans hb.output, Nat.le_trans hb.size h.size, fun i hi => (h.block i (by omega) (by omega) (by omega)).trans (hb.block i hi)⟩

/-- A block of one cell. -/
def One (T : TypeId) (w : World) (b : Nat) (x : Value) : Prop := w.heap[b]? = some (.cells #[x] T (0, 0))
theorem One.lt {T : TypeId} {w : World} {b : Nat} {x : Value} (h : One T w b x) : b < w.heap.size := (Array.getElem?_eq_some_iff.1 h).1
theorem One.next {T : TypeId} {w w' : World} {b : Nat} {x : Value} (h : One T w b x) (hb : Below w.heap.size w w') : One T w' b x := (hb.block b h.lt).trans h
theorem One.cell {T : TypeId} {w : World} {b : Nat} {x : Value} (h : One T w b x) : w.cell? ⟨b, 0, none⟩ = some x := by
  unfold One at h
  simp [World.cell?, h]
theorem One.free {T : TypeId} {w : World} {b : Nat} {x : Value} (h : One T w b x) : w.frozen? ⟨b, 0, none⟩ = false := by
  unfold One at h
  simp [World.frozen?, h]
theorem One.put {T : TypeId} {w : World} {b : Nat} {x : Value} (h : One T w b x) (y : Value) : One T (w.setCell ⟨b, 0, none⟩ y) b y := by
  unfold One at h ⊢
  exact blk_set h rfl
theorem One.other {T : TypeId} {w : World} {b c : Nat} {x : Value} (h : One T w b x) (j : Nat) (v : Value) (hne : b ≠ c) : One T (w.setCell ⟨c, j, none⟩ v) b x := (Below.heap_setCell w ⟨c, j, none⟩ v b hne).trans h
theorem Blk.other {T : TypeId} {w : World} {b c : Nat} {x : Vc} (h : Blk T w b x) (j : Nat) (v : Value) (hne : b ≠ c) : Blk T (w.setCell ⟨c, j, none⟩ v) b x := (Below.heap_setCell w ⟨c, j, none⟩ v b hne).trans h
theorem One.put4 {T : TypeId} {w : World} {b n : Nat} {x : Value} (h : One T w b x) (r c br p : Int) (hne : b ≠ n) : One T (put4 w n r c br p) b x :=
  (((h.other 0 _ hne).other 1 _ hne).other 2 _ hne).other 3 _ hne
theorem one_new (T : TypeId) (w : World) (x : Value) : One T (w.alloc (.cells #[x] T)) w.heap.size x := heap_alloc_new w _

theorem taken_kept {bb pb : Nat} (w : World) (r c b p k : Int) : Kept2 bb pb w ((put4 w bb r c b p).setCell ⟨pb, 0, none⟩ (.int .i64 k)) :=
  (kept2_put4 w r c b p).trans (kept2_set _ pb 0 _ (.inr rfl))

end Go.Proofs.YtngdilmgbgdkcaaDoor
