/-
  Layer 11: what is done to a port through its address (deeds), and behind, which does some in order.
-/
import Derived.Test.YtngdilmgbgdkcaaDoorInK
import Derived.Test.YtngdilmgbgdkcaaDoorInB
import Derived.Test.YtngdilmgbgdkcaaDoorRoF
namespace Go.Proofs.YtngdilmgbgdkcaaDoor
set_option linter.unusedVariables false
set_option linter.unusedSimpArgs false
open Go.RowKit Vm Rm Bm Im

def zeroP : Pt := ⟨0, 0, false, false, false, 0, zeroV, zeroT, zeroV, zeroT, 0, 0, false, false, false, false, false, false, false, false, false, false, false, false, false, false, false, false, false, false, false, false, false, false, false, false, false, false, 0, 0, 0, 0, 0, 0, 0, 0, 0, 0, 0⟩
theorem infoSP : (Tryd.prog.info? 30).map (·.size) = some 61 := by kernel_rfl
theorem wp_to {P : Program} {c : Code} {Q : Exit → Act → World → Prop} {a : Act} {w W : World} (h : W = w) (H : c.wp P Q a W) : c.wp P Q a w := h ▸ H
theorem PtBlk.far {T : TypeId} {w : World} {b c : Nat} {p : Pt} (h : PtBlk T w b p) (j : Nat) (v : Value) (hne : b ≠ c) : PtBlk T (w.setCell ⟨c, j, none⟩ v) b p := (Below.heap_setCell w ⟨c, j, none⟩ v b hne).trans h
theorem below_row {B : Nat} {a w : World} (h : Below B a w) {g : Nat} (hg : B ≤ g) (cs : Array Value) : Below B a (w.setRow g cs) :=
  ⟨h.os, h.tape, h.output, by show _ ≤ (w.heap.modify _ _).size; rw [Array.size_modify]; exact h.size, fun i hi => (show (w.heap.modify g _)[i]? = w.heap[i]? from by rw [Array.getElem?_modify, if_neg (by omega)]).trans (h.block i hi)⟩

theorem PtBlk.stores {T : TypeId} {w : World} {b : Nat} {p : Pt} (h : PtBlk T w b p) (q : Pt) : Sem.run Tryd.prog (storeCells ⟨b, 0, none⟩ (cellsT q).toList) w = .ok () (w.setRow b (cellsT q)) := by
  have := run_storeCells_from (P := Tryd.prog) b T (cellsT q).toList 0 (cellsT p) w h (by rw [Array.length_toList, cellsT_size, cellsT_size]) (fun v hv => by
    have h1 := cellsT_one q
    rw [Array.all_eq_true_iff_forall_mem] at h1
    exact h1 v (by simpa using hv))
  simpa using this
theorem PtBlk.loads {T : TypeId} {w : World} {b : Nat} {p : Pt} (h : PtBlk T w b p) : Sem.run Tryd.prog (loadCells ⟨b, 0, none⟩ 61) w = .ok (cellsT p) w := by
  have hl := run_loadCells_list (P := Tryd.prog) w ⟨b, 0, none⟩ (cellsT p).toList (fun j v hv => by
      have hadd : (⟨b, 0, none⟩ : Addr).add j = ⟨b, j, none⟩ := by unfold Addr.add; split <;> simp_all
      rw [hadd, cell_of_row w b j (cellsT p) T _ h]
      simpa using hv)
  simpa [cellsT_size] using hl

theorem PtBlk.s_vec {T : TypeId} {w : World} {b : Nat} {p : Pt} (h : PtBlk T w b p) (x0 x1 x2 x3 : Int) : PtBlk T ((((w.setCell ⟨b, 6, none⟩ (.int .u64 x0)).setCell ⟨b, 7, none⟩ (.int .u64 x1)).setCell ⟨b, 8, none⟩ (.int .u64 x2)).setCell ⟨b, 9, none⟩ (.int .u64 x3)) b { p with vec := ⟨x0, x1, x2, x3⟩ } := by
  unfold PtBlk at h ⊢
  exact blk_set (blk_set (blk_set (blk_set h rfl) rfl) rfl) rfl
theorem PtBlk.s_times {T : TypeId} {w : World} {b : Nat} {p : Pt} (h : PtBlk T w b p) (x0 x1 x2 x3 : Int) : PtBlk T ((((w.setCell ⟨b, 10, none⟩ (.int .i64 x0)).setCell ⟨b, 11, none⟩ (.int .i64 x1)).setCell ⟨b, 12, none⟩ (.int .i64 x2)).setCell ⟨b, 13, none⟩ (.int .i64 x3)) b { p with times := ⟨x0, x1, x2, x3⟩ } := by
  unfold PtBlk at h ⊢
  exact blk_set (blk_set (blk_set (blk_set h rfl) rfl) rfl) rfl
theorem PtBlk.s_offer {T : TypeId} {w : World} {b : Nat} {p : Pt} (h : PtBlk T w b p) (x0 x1 x2 x3 : Int) : PtBlk T ((((w.setCell ⟨b, 14, none⟩ (.int .u64 x0)).setCell ⟨b, 15, none⟩ (.int .u64 x1)).setCell ⟨b, 16, none⟩ (.int .u64 x2)).setCell ⟨b, 17, none⟩ (.int .u64 x3)) b { p with offer := ⟨x0, x1, x2, x3⟩ } := by
  unfold PtBlk at h ⊢
  exact blk_set (blk_set (blk_set (blk_set h rfl) rfl) rfl) rfl
theorem PtBlk.s_given {T : TypeId} {w : World} {b : Nat} {p : Pt} (h : PtBlk T w b p) (x0 x1 x2 x3 : Int) : PtBlk T ((((w.setCell ⟨b, 18, none⟩ (.int .i64 x0)).setCell ⟨b, 19, none⟩ (.int .i64 x1)).setCell ⟨b, 20, none⟩ (.int .i64 x2)).setCell ⟨b, 21, none⟩ (.int .i64 x3)) b { p with given := ⟨x0, x1, x2, x3⟩ } := by
  unfold PtBlk at h ⊢
  exact blk_set (blk_set (blk_set (blk_set h rfl) rfl) rfl) rfl

/-- Block b alone has turned; it holds X. -/
structure Tn (T : TypeId) (b : Nat) (X : Pt) (w w' : World) : Prop where
  blk : PtBlk T w' b X
  os : w'.os = w.os
  tape : w'.tape = w.tape
  output : w'.output = w.output
  size : w.heap.size ≤ w'.heap.size
  block : ∀ i, i < w.heap.size → i ≠ b → w'.heap[i]? = w.heap[i]?
section
variable {T : TypeId} {b : Nat} {X Y : Pt} {w w1 w2 : World}
theorem Tn.refl (h : PtBlk T w b X) : Tn T b X w w := ⟨h, rfl, rfl, rfl, Nat.le_refl _, fun _ _ _ => rfl⟩
theorem Tn.trans (h : Tn T b X w w1) (k : Tn T b Y w1 w2) : Tn T b Y w w2 :=
  ⟨k.blk, k.os.trans h.os, k.tape.trans h.tape, k.output.trans h.output, Nat.le_trans h.size k.size, fun i hi hn => (k.block i (Nat.lt_of_lt_of_le hi h.size) hn).trans (h.block i hi hn)⟩
theorem Tn.below {B : Nat} {a : World} (h : Tn T b X w w1) (hb : Below B a w) (h1 : B ≤ b) (h2 : B ≤ w.heap.size) : Below B a w1 :=
  ⟨h.os.trans hb.os, h.tape.trans hb.tape, h.output.trans hb.output, Nat.le_trans hb.size h.size, fun i hi => (h.block i (by omega) (by omega)).trans (hb.block i hi)⟩
theorem Tn.set (h : Tn T b X w w1) (j : Nat) (v : Value) (hY : PtBlk T (w1.setCell ⟨b, j, none⟩ v) b Y) : Tn T b Y w (w1.setCell ⟨b, j, none⟩ v) :=
  ⟨hY, h.os, h.tape, h.output, by show _ ≤ (w1.heap.modify _ _).size; rw [Array.size_modify]; exact h.size, fun i hi hn => (Below.heap_setCell w1 ⟨b, j, none⟩ v i hn).trans (h.block i hi hn)⟩
theorem Tn.grow (h : Tn T b X w w1) (hb : Below w1.heap.size w1 w2) : Tn T b X w w2 :=
  ⟨h.blk.next hb, hb.os.trans h.os, hb.tape.trans h.tape, hb.output.trans h.output, Nat.le_trans h.size hb.size, fun i hi hn => (hb.block i (Nat.lt_of_lt_of_le hi h.size)).trans (h.block i hi hn)⟩
theorem Tn.as (h : Tn T b X w w1) (e : X = Y) : Tn T b Y w w1 := e ▸ h
theorem Tn.at (h : Tn T b X w w1) {i : Nat} (hi : i < w.heap.size) (hn : i ≠ b) : w1.heap[i]? = w.heap[i]? := h.block i hi hn
theorem Tn.cell {p : Addr} (h : Tn T b X w w1) (hi : p.block < w.heap.size) (hn : p.block ≠ b) : w1.cell? p = w.cell? p := by
  unfold World.cell?
  rw [h.block p.block hi hn]
end
/-- What may be in the way of a store, and what it does. -/
theorem tn_drawN {T : TypeId} {b : Nat} {X : Pt} {w w1 : World} (h : Tn T b X w w1) (n : Nat) : Tn T b X w (w1.drewN n) := ⟨h.blk, h.os, h.tape, h.output, h.size, h.block⟩
theorem tn_draw {T : TypeId} {b : Nat} {X : Pt} {w w1 : World} (h : Tn T b X w w1) : Tn T b X w w1.drew := ⟨h.blk, h.os, h.tape, h.output, h.size, h.block⟩


end Go.Proofs.YtngdilmgbgdkcaaDoor
