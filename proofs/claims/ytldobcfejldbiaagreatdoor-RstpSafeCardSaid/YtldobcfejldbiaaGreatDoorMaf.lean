/-
  Layer 11: what is done to a port through its address (deeds), and behind, which does some in order.
  Layer 11: behind, which does some deeds to a port, in order.
  Layer 11: Power, Age, Settle.
-/
import Derived.Test.YtldobcfejldbiaaGreatDoorMac
import Derived.Test.YtldobcfejldbiaaGreatDoorMad
namespace Go.Proofs.YtldobcfejldbiaaGreatDoor
set_option linter.unusedVariables false
set_option linter.unusedSimpArgs false
open Go.RowKit Vm Rm Bm Im

def zeroP : Pt := ⟨0, 0, false, false, false, 0, zeroV, zeroT, zeroV, zeroT, 0, 0, false, false, false, false, false, false, false, false, false, false, false, false, false, false, false, false, false, false, false, false, false, false, false, false, false, false, 0, 0, 0, 0, 0, 0, 0, 0, 0, 0, 0⟩
theorem infoSP : (Tryz.prog.info? 78).map (·.size) = some 61 := by kernel_rfl
theorem wp_to {P : Program} {c : Code} {Q : Exit → Act → World → Prop} {a : Act} {w W : World} (h : W = w) (H : c.wp P Q a W) : c.wp P Q a w := h ▸ H
theorem PtBlk.far {T : TypeId} {w : World} {b c : Nat} {p : Pt} (h : PtBlk T w b p) (j : Nat) (v : Value) (hne : b ≠ c) : PtBlk T (w.setCell ⟨c, j, none⟩ v) b p := (Below.heap_setCell w ⟨c, j, none⟩ v b hne).trans h
theorem below_row {B : Nat} {a w : World} (h : Below B a w) {g : Nat} (hg : B ≤ g) (cs : Array Value) : Below B a (w.setRow g cs) :=
  ⟨h.os, h.tape, h.output, by show _ ≤ (w.heap.modify _ _).size; rw [Array.size_modify]; exact h.size, fun i hi => (show (w.heap.modify g _)[i]? = w.heap[i]? from by rw [Array.getElem?_modify, if_neg (by omega)]).trans (h.block i hi)⟩

theorem PtBlk.stores {T : TypeId} {w : World} {b : Nat} {p : Pt} (h : PtBlk T w b p) (q : Pt) : Sem.run Tryz.prog (storeCells ⟨b, 0, none⟩ (cellsT q).toList) w = .ok () (w.setRow b (cellsT q)) := by
  have := run_storeCells_from (P := Tryz.prog) b T (cellsT q).toList 0 (cellsT p) w h (by rw [Array.length_toList, cellsT_size, cellsT_size]) (fun v hv => by
    have h1 := cellsT_one q
    rw [Array.all_eq_true_iff_forall_mem] at h1
    exact h1 v (by simpa using hv))
  simpa using this
theorem PtBlk.loads {T : TypeId} {w : World} {b : Nat} {p : Pt} (h : PtBlk T w b p) : Sem.run Tryz.prog (loadCells ⟨b, 0, none⟩ 61) w = .ok (cellsT p) w := by
  have hl := run_loadCells_list (P := Tryz.prog) w ⟨b, 0, none⟩ (cellsT p).toList (fun j v hv => by
      have hadd : (⟨b, 0, none⟩ : Addr).add j = ⟨b, j, none⟩ := by unfold Addr.add; split <;> simp_all
      rw [hadd, cell_of_row w b j (cellsT p) T _ h]
      simpa using hv)
  simpa [cellsT_size] using hl

theorem PtBlk.s_vec {T : TypeId} {w : World} {b : Nat} {p : Pt} (h : PtBlk T w b p) (x0 x1 x2 x3 : Int) : PtBlk T ((((w.setCell ⟨b, 6, none⟩ (.int .u64 x0)).setCell ⟨b, 7, none⟩ (.int .u64 x1)).setCell ⟨b, 8, none⟩ (.int .u64 x2)).setCell ⟨b, 9, none⟩ (.int .u64 x3)) b { p with vec := ⟨x0, x1, x2, x3⟩ } := by
  unfold PtBlk at h ⊢
  exact blk_set (blk_set (blk_set (blk_set h rfl) rfl) rfl) rfl
theorem PtBlk.s_times {T : TypeId} {w : World} {b : Nat} {p : Pt} (h : PtBlk T w b p) (x0 x1 x2 x3 : Int) : PtBlk T ((((w.setCell ⟨b, 10, none⟩ (.int .i64 x0)).setCell ⟨b, 11, none⟩ (.int .i64 x1)).setCell ⟨b, 12, none⟩ (.int .i64 x2)).setCell ⟨b, 13, none⟩ (.int .i64 x3)) b { p with times := ⟨x0, x1, x2, x3⟩ } := by
  unfold PtBlk at h ⊢
  exact blk_set (blk_set (blk_set (blk_set h rfl) rfl) rfl) rfl
theorem PtBlk.s_offer {T : TypeId} {w : World} {b : Nat} {p : Pt} (h : PtBlk T w b p) (x0 x1 x2 x3 : Int) : PtBlk T ((((w.setCell ⟨b, 14, none⟩ (.int .u64 x0)).setCell ⟨b, 15, none⟩ (.int .u64 x1)).setCell ⟨b, 16, none⟩ (.int .u64 x2)).setCell ⟨b, 17, none⟩ (.int .u64 x3)) b { p with offer := ⟨x0, x1, x2, x3⟩ } := by
  unfold PtBlk at h ⊢
  exact blk_set (blk_set (blk_set (blk_set h rfl) rfl) rfl) rfl
theorem PtBlk.s_given {T : TypeId} {w : World} {b : Nat} {p : Pt} (h : PtBlk T w b p) (x0 x1 x2 x3 : Int) : PtBlk T ((((w.setCell ⟨b, 18, none⟩ (.int .i64 x0)).setCell ⟨b, 19, none⟩ (.int .i64 x1)).setCell ⟨b, 20, none⟩ (.int .i64 x2)).setCell ⟨b, 21, none⟩ (.int .i64 x3)) b { p with given := ⟨x0, x1, x2, x3⟩ } := by
  unfold PtBlk at h ⊢
  exact blk_set (blk_set (blk_set (blk_set h rfl) rfl) rfl) rfl

/-- Block b alone has turned; it holds X. -/
structure Tn (T : TypeId) (b : Nat) (X : Pt) (w w' : World) : Prop where
  blk : PtBlk T w' b X
  os : w'.os = w.os
  tape : w'.tape = w.tape
  output : w'.output = w.output
  size : w.heap.size ≤ w'.heap.size
  block : ∀ i, i < w.heap.size → i ≠ b → w'.heap[i]? = w.heap[i]?
section
variable {T : TypeId} {b : Nat} {X Y : Pt} {w w1 w2 : World}
theorem Tn.refl (h : PtBlk T w b X) : Tn T b X w w := ⟨h, rfl, rfl, rfl, Nat.le_refl _, fun _ _ _ => rfl⟩
theorem Tn.trans (h : Tn T b X w w1) (k : Tn T b Y w1 w2) : Tn T b Y w w2 :=
  ⟨k.blk, k.os.trans h.os, k.tape.trans h.tape, k.output.trans h.output, Nat.le_trans h.size k.size, fun i hi hn => (k.block i (Nat.lt_of_lt_of_le hi h.size) hn).trans (h.block i hi hn)⟩
theorem Tn.below {B : Nat} {a : World} (h : Tn T b X w w1) (hb : Below B a w) (h1 : B ≤ b) (h2 : B ≤ w.heap.size) : Below B a w1 :=
  ⟨h.os.trans hb.os, h.tape.trans hb.tape, h.output.trans hb.output, Nat.le_trans hb.size h.size, fun i hi => (h.block i (by omega) (by omega)).trans (hb.block i hi)⟩
theorem Tn.set (h : Tn T b X w w1) (j : Nat) (v : Value) (hY : PtBlk T (w1.setCell ⟨b, j, none⟩ v) b Y) : Tn T b Y w (w1.setCell ⟨b, j, none⟩ v) :=
  ⟨hY, h.os, h.tape, h.output, by show _ ≤ (w1.heap.modify _ _).size; rw [Array.size_modify]; exact h.size, fun i hi hn => (Below.heap_setCell w1 ⟨b, j, none⟩ v i hn).trans (h.block i hi hn)⟩
theorem Tn.grow (h : Tn T b X w w1) (hb : Below w1.heap.size w1 w2) : Tn T b X w w2 :=
  ⟨h.blk.next hb, hb.os.trans h.os, hb.tape.trans h.tape, hb.output.trans h.output, Nat.le_trans h.size hb.size, fun i hi hn => (hb.block i (Nat.lt_of_lt_of_le hi h.size)).trans (h.block i hi hn)⟩
theorem Tn.as (h : Tn T b X w w1) (e : X = Y) : Tn T b Y w w1 := e ▸ h
theorem Tn.at (h : Tn T b X w w1) {i : Nat} (hi : i < w.heap.size) (hn : i ≠ b) : w1.heap[i]? = w.heap[i]? := h.block i hi hn
theorem Tn.cell {p : Addr} (h : Tn T b X w w1) (hi : p.block < w.heap.size) (hn : p.block ≠ b) : w1.cell? p = w.cell? p := by
  unfold World.cell?
  rw [h.block p.block hi hn]
end
/-- What may be in the way of a store, and what it does. -/
theorem tn_drawN {T : TypeId} {b : Nat} {X : Pt} {w w1 : World} (h : Tn T b X w w1) (n : Nat) : Tn T b X w (w1.drewN n) := ⟨h.blk, h.os, h.tape, h.output, h.size, h.block⟩
theorem tn_draw {T : TypeId} {b : Nat} {X : Pt} {w w1 : World} (h : Tn T b X w w1) : Tn T b X w w1.drew := ⟨h.blk, h.os, h.tape, h.output, h.size, h.block⟩


set_option maxHeartbeats 400000 in
theorem reselect_w (b : Nat) (p : Pt) (w : World) (h : PtBlk 78 w b p) :
    Calls Tryz.prog 126 #[.pointer (some ⟨b, 0, none⟩)] w fun e w' => e = .returned (.tuple #[]) ∧ Tn 78 b { p with reselect := true, ready := false } w w' := by
  have H := Lib.hid h
  have f := h.free
  have c_reselect := h.c_reselect
  have c_ready := h.c_ready
  clear h
  go_enter Tryz.func126, Tryz.ntmps126
  go_wp2
  go_end0
  exact ⟨rfl, ((Tn.refl H.out).set 26 (.bool true) (H.out.s_reselect true)).set 24 (.bool false) ((H.out.s_reselect true).s_ready false)⟩

set_option maxHeartbeats 400000 in
theorem powerOn_w (b : Nat) (p : Pt) (w : World) (h : PtBlk 78 w b p) :
    Calls Tryz.prog 79 #[.pointer (some ⟨b, 0, none⟩)] w fun e w' => e = .returned (.tuple #[]) ∧ Tn 78 b { p with on := true } w w' := by
  have H := Lib.hid h
  have f := h.free
  have c_on := h.c_on
  clear h
  go_enter Tryz.func79, Tryz.ntmps79
  go_wp2
  go_end0
  exact ⟨rfl, (Tn.refl H.out).set 2 (.bool true) (H.out.s_on true)⟩

set_option maxHeartbeats 400000 in
theorem powerOff_w (b : Nat) (p : Pt) (w : World) (h : PtBlk 78 w b p) :
    Calls Tryz.prog 81 #[.pointer (some ⟨b, 0, none⟩)] w fun e w' => e = .returned (.tuple #[]) ∧ Tn 78 b { p with on := false, oper := p.admin } w w' := by
  have H := Lib.hid h
  have f := h.free
  have c_on := h.c_on
  have c_admin := h.c_admin
  have c_oper := h.c_oper
  clear h
  go_enter Tryz.func81, Tryz.ntmps81
  go_wp2
  go_end0
  exact ⟨rfl, ((Tn.refl H.out).set 2 (.bool false) (H.out.s_on false)).set 4 (.bool p.admin) ((H.out.s_on false).s_oper p.admin)⟩

set_option maxHeartbeats 400000 in
theorem age_w (b : Nat) (p : Pt) (w : World) (h : PtBlk 78 w b p) :
    Calls Tryz.prog 80 #[.pointer (some ⟨b, 0, none⟩)] w fun e w' => e = .returned (.tuple #[]) ∧ Tn 78 b { p with source := 1, reselect := true, ready := false } w w' := by
  have H := Lib.hid h
  have f := h.free
  have c_source := h.c_source
  clear h
  go_enter Tryz.func80, Tryz.ntmps80
  go_wp2_with fail
  refine (reselect_w b _ _ (H.out.s_source 1)).mono ?_
  rintro e w1 ⟨rfl, t⟩
  go_wp2
  go_end0
  exact ⟨rfl, ((Tn.refl H.out).set 5 (.int .i64 1) (H.out.s_source 1)).trans t⟩

set_option maxHeartbeats 400000 in
theorem letGo_w (b : Nat) (p : Pt) (w : World) (h : PtBlk 78 w b p) :
    Calls Tryz.prog 82 #[.pointer (some ⟨b, 0, none⟩)] w fun e w' => e = .returned (.tuple #[]) ∧ Tn 78 b { p with source := 0, proposing := false, proposed := false, agree := false, agreed := false, info := 0, reselect := true, ready := false } w w' := by
  have H := Lib.hid h
  have f := h.free
  have c_source := h.c_source
  have c_proposing := h.c_proposing
  have c_proposed := h.c_proposed
  have c_agree := h.c_agree
  have c_agreed := h.c_agreed
  have c_info := h.c_info
  clear h
  go_enter Tryz.func82, Tryz.ntmps82
  go_wp2_with fail
  refine (reselect_w b _ _ ((((((H.out.s_source 0).s_proposing false).s_proposed false).s_agree false).s_agreed false).s_info 0)).mono ?_
  rintro e w1 ⟨rfl, t⟩
  go_wp2
  go_end0
  exact ⟨rfl, (((((((Tn.refl H.out).set 5 (.int .i64 0) (H.out.s_source 0)).set 34 (.bool false) ((H.out.s_source 0).s_proposing false)).set 33 (.bool false) (((H.out.s_source 0).s_proposing false).s_proposed false)).set 31 (.bool false) ((((H.out.s_source 0).s_proposing false).s_proposed false).s_agree false)).set 32 (.bool false) (((((H.out.s_source 0).s_proposing false).s_proposed false).s_agree false).s_agreed false)).set 56 (.int .i64 0) ((((((H.out.s_source 0).s_proposing false).s_proposed false).s_agree false).s_agreed false).s_info 0)).trans t⟩

end Go.Proofs.YtldobcfejldbiaaGreatDoor

namespace Go.Proofs.YtldobcfejldbiaaGreatDoor
set_option linter.unusedVariables false
set_option linter.unusedSimpArgs false
open Go.RowKit Vm Rm Bm Im

/-- A row of deeds: function f k, with what it captured. -/
def DRow (w : World) (g n : Nat) (f : Nat → Nat) (c : Nat → Array Value) : Prop :=
  g < w.heap.size ∧ ∀ k, k < n → w.cell? ⟨g, k, none⟩ = some (.func (.func (f k)) #[] (c k))
theorem DRow.next {w w' : World} {g n : Nat} {f : Nat → Nat} {c : Nat → Array Value} (h : DRow w g n f c) (hb : Below w.heap.size w w') : DRow w' g n f c :=
  ⟨Nat.lt_of_lt_of_le h.1 hb.size, fun k hk => (hb.cell (p := ⟨g, k, none⟩) h.1).trans (h.2 k hk)⟩
/-- Behind a world w, this deed turns a port X into Y. -/
def Does (w0 : World) (f : Nat) (c : Array Value) (X Y : Pt) : Prop :=
  (∀ (a : Array Value) (w : World), Sem.run Tryz.prog (callFunc f a) w = .ok (.enter f a) w) ∧ ∀ (w : World) (b : Nat), PtBlk 78 w b X → Below w0.heap.size w0 w → w0.heap.size ≤ b →
    Calls Tryz.prog f (#[.pointer (some ⟨b, 0, none⟩)] ++ c) w fun e w' => e = .returned (.tuple #[]) ∧ Tn 78 b Y w w'
theorem twoP_is (T : TypeId) (w : World) (p : Pt) : ∃ (W : World) (nb : Nat), Hid (((w.alloc (.cells (cellsT p) T)).alloc (.cells (cellsT zeroP) T)) = W) ∧ Hid (w.heap.size = nb) ∧ PtBlk T W nb p ∧ PtBlk T W (nb + 1) zeroP ∧ Below nb w W := by
  refine ⟨_, _, Lib.hid rfl, Lib.hid rfl, ?_, ?_, ?_⟩
  · exact heap_alloc2_old w _ _
  · exact heap_alloc2_new w _ _
  · exact bw_alloc (below_box w _) _
def BInv (st : Nat → Pt) (n nb : Nat) (w0 : World) (i : Value) (wr : World) : Prop :=
  ∃ k : Nat, k ≤ n ∧ i = .int .i64 (k : Nat) ∧ PtBlk 78 wr nb (st k) ∧ PtBlk 78 wr (nb + 1) zeroP ∧ Below nb w0 wr ∧ nb + 2 ≤ wr.heap.size

set_option maxRecDepth 20000 in
set_option maxHeartbeats 1000000 in
theorem behind_w (f : Nat → Nat) (c : Nat → Array Value) (n g cap : Nat) (st : Nat → Pt) (X0 X : Pt) (w : World) (hr : DRow w g n f c) (hn : n ≤ 100) (h0 : st 0 = X0) (hX : st n = X)
    (hd : ∀ k, k < n → Does w (f k) (c k) (st k) (st (k + 1))) :
    Calls Tryz.prog 65 #[.agg (cellsT X0), .slice (some ⟨g, 0, none⟩) n cap] w fun e w' => e = .returned (.agg (cellsT X)) ∧ Below w.heap.size w w' := by
  subst h0 hX
  obtain ⟨W, nb, HW, HN, k0, k1, kB⟩ := twoP_is 78 w (st 0)
  have HR := Lib.hid hr
  have HD := Lib.hid hd
  have K0 := Lib.hid k0
  have K1 := Lib.hid k1
  have KB := Lib.hid kB
  clear hr hd k0 k1 kB
  go_enter Tryz.func65, Tryz.ntmps65
  go_upto_region 1 with (fail)
  refine wp_to (W := W) (by exact HW.out.symm) ?_
  rw [HN.out]
  go_wp2_with fail
  go_loopw [9] (fun i wr => BInv st n nb w i wr) (fun i _ => n - (intOf i).toNat)
  case atStart =>
    exact ⟨0, Nat.zero_le _, rfl, K0.out, K1.out, KB.out, K1.out.lt⟩
  case round =>
    obtain ⟨k, hk, rfl, hB0, hB1, hBB, hsz⟩ := hrel
    have e0 := HN.out
    by_cases hkl : k < n
    · have hki : (k : Int) < n := by omega
      have hRow := HR.out.next (by rw [e0]; exact hBB)
      have hc := hRow.2 k hkl
      have hg := hRow.1
      have hent := (HD.out k hkl).1
      have hcall := (HD.out k hkl).2 wr nb hB0 (by rw [e0]; exact hBB) (by rw [e0]; exact Nat.le_refl _)
      have S0 := Lib.hid hB0
      have S1 := Lib.hid hB1
      have SB := Lib.hid hBB
      have hN0 : (k : Int) ≥ 0 := by omega
      clear hB0 hB1 hBB hRow e0
      go_wp2_with fail
      refine hcall.mono ?_
      clear hcall hent
      rintro e w1 ⟨rfl, t⟩
      have T := Lib.hid t
      have hs1 := t.size
      clear t hc
      go_wp2_with fail
      exact ⟨⟨k + 1, by omega, by go_num, T.out.blk, S1.out.same (T.out.at (by omega) (by omega)), T.out.below SB.out (Nat.le_refl _) (by omega), by omega⟩, by simp [intOf]; omega⟩
    · obtain rfl : k = n := by omega
      have S0 := Lib.hid hB0
      have S1 := Lib.hid hB1
      have SB := Lib.hid hBB
      clear hB0 hB1 hBB
      go_upto_region 6 with (fail)
      refine wp_region_list ?_
      refine wpList_load_row rfl 78 _ rfl nb rfl 78 (cellsT (st k)) (0, 0) _ S0.out rfl rfl infoSP ?_
      refine wpList_store_row rfl 78 _ _ rfl (nb + 1) (cellsT (st k)) rfl rfl 78 _ S1.out infoSP rfl (cellsT_one (st k)) ?_
      have K5 := Lib.hid (S1.out.row (st k))
      have K6 := Lib.hid (below_row SB.out (g := nb + 1) (by omega) (cellsT (st k)))
      go_wp2
      exact bodyPost_ret (v := .agg (cellsT (st k))) (results_cell_row rfl _ _ (nb + 1) 78 (cellsT (st k)) (0, 0) _ rfl K5.out rfl rfl infoSP) rfl ⟨rfl, HN.out ▸ K6.out⟩
end Go.Proofs.YtldobcfejldbiaaGreatDoor

namespace Go.Proofs.YtldobcfejldbiaaGreatDoor
set_option linter.unusedVariables false
set_option linter.unusedSimpArgs false
open Go.RowKit Vm Rm Bm Im

theorem behind1_w (f0 : Nat) (c0 : Array Value) (X0 X1 : Pt) (T : TypeId) (g cap : Nat) (w : World) (hrow : w.heap[g]? = some (.cells #[.func (.func f0) #[] c0] T (0, 0))) (d0 : Does w f0 c0 X0 X1) :
    Calls Tryz.prog 65 #[.agg (cellsT X0), .slice (some ⟨g, 0, none⟩) (1 : Nat) cap] w fun e w' => e = .returned (.agg (cellsT X1)) ∧ Below w.heap.size w w' := by
  refine behind_w (fun _ => f0) (fun _ => c0) 1 g cap (fun k => match k with | 0 => X0 | _ => X1) X0 X1 w ⟨(Array.getElem?_eq_some_iff.1 hrow).1, ?_⟩ (by omega) rfl rfl ?_
  · intro k hk
    obtain rfl : k = 0 := by omega
    exact (cell_of_row w g 0 _ T _ hrow).trans rfl
  · intro k hk
    obtain rfl : k = 0 := by omega
    exact d0
theorem behind2_w (f0 f1 : Nat) (c0 c1 : Array Value) (X0 X1 X2 : Pt) (T : TypeId) (g cap : Nat) (w : World) (hrow : w.heap[g]? = some (.cells #[.func (.func f0) #[] c0, .func (.func f1) #[] c1] T (0, 0))) (d0 : Does w f0 c0 X0 X1) (d1 : Does w f1 c1 X1 X2) :
    Calls Tryz.prog 65 #[.agg (cellsT X0), .slice (some ⟨g, 0, none⟩) (2 : Nat) cap] w fun e w' => e = .returned (.agg (cellsT X2)) ∧ Below w.heap.size w w' := by
  refine behind_w (fun k => match k with | 0 => f0 | _ => f1) (fun k => match k with | 0 => c0 | _ => c1) 2 g cap (fun k => match k with | 0 => X0 | 1 => X1 | _ => X2) X0 X2 w ⟨(Array.getElem?_eq_some_iff.1 hrow).1, ?_⟩ (by omega) rfl rfl ?_
  · intro k hk
    obtain rfl | rfl : k = 0 ∨ k = 1 := by omega
    · exact (cell_of_row w g 0 _ T _ hrow).trans rfl
    · exact (cell_of_row w g 1 _ T _ hrow).trans rfl
  · intro k hk
    obtain rfl | rfl : k = 0 ∨ k = 1 := by omega
    · exact d0
    · exact d1

theorem does_as {w : World} {f : Nat} {c : Array Value} {X Y Z : Pt} (h : Does w f c X Y) (e : Y = Z) : Does w f c X Z := e ▸ h
theorem does_powerOn (w0 : World) (p : Pt) : Does w0 79 #[] p { p with on := true } :=
  ⟨fun _ _ => by kernel_rfl, fun w b h _ _ => by rw [Array.append_empty]; exact powerOn_w b p w h⟩
theorem does_powerOff (w0 : World) (p : Pt) : Does w0 81 #[] p { p with on := false, oper := p.admin } :=
  ⟨fun _ _ => by kernel_rfl, fun w b h _ _ => by rw [Array.append_empty]; exact powerOff_w b p w h⟩
theorem does_age (w0 : World) (p : Pt) : Does w0 80 #[] p { p with source := 1, reselect := true, ready := false } :=
  ⟨fun _ _ => by kernel_rfl, fun w b h _ _ => by rw [Array.append_empty]; exact age_w b p w h⟩
theorem does_letGo (w0 : World) (p : Pt) : Does w0 82 #[] p { p with source := 0, proposing := false, proposed := false, agree := false, agreed := false, info := 0, reselect := true, ready := false } :=
  ⟨fun _ _ => by kernel_rfl, fun w b h _ _ => by rw [Array.append_empty]; exact letGo_w b p w h⟩

set_option maxRecDepth 20000 in
set_option maxHeartbeats 1000000 in
theorem power_same_w (p : Pt) (on : Bool) (w : World) (h : p.on = on) :
    Calls Tryz.prog 37 #[.agg (cellsT p), .bool on] w fun e w' => e = .returned (.agg (cellsT p)) ∧ Below w.heap.size w w' := by
  obtain ⟨W, nb, HW, HN, k0, k1, kB⟩ := twoP_is 78 w p
  have K0 := Lib.hid k0
  have K1 := Lib.hid k1
  have KB := Lib.hid kB
  have hsz := k1.lt
  have c2 := k0.c_on
  rw [h] at c2
  clear k0 k1 kB h
  go_enter Tryz.func37, Tryz.ntmps37
  go_upto_region 1 with (fail)
  refine wp_to (W := W) (by exact HW.out.symm) ?_
  rw [HN.out]
  cases on
  · go_upto_region 5 with (fail)
    refine wp_region_list ?_
    refine wpList_load_row rfl 78 _ rfl nb rfl 78 (cellsT p) (0, 0) _ K0.out rfl rfl infoSP ?_
    refine wpList_store_row rfl 78 _ _ rfl (nb + 1) (cellsT p) rfl rfl 78 _ K1.out infoSP rfl (cellsT_one p) ?_
    have K5 := Lib.hid (K1.out.row p)
    have K6 := Lib.hid (below_row KB.out (g := nb + 1) (by omega) (cellsT p))
    go_wp2
    exact bodyPost_ret (v := .agg (cellsT p)) (results_cell_row rfl _ _ (nb + 1) 78 (cellsT p) (0, 0) _ rfl K5.out rfl rfl infoSP) rfl ⟨rfl, HN.out ▸ K6.out⟩
  · go_upto_region 5 with (fail)
    refine wp_region_list ?_
    refine wpList_load_row rfl 78 _ rfl nb rfl 78 (cellsT p) (0, 0) _ K0.out rfl rfl infoSP ?_
    refine wpList_store_row rfl 78 _ _ rfl (nb + 1) (cellsT p) rfl rfl 78 _ K1.out infoSP rfl (cellsT_one p) ?_
    have K5 := Lib.hid (K1.out.row p)
    have K6 := Lib.hid (below_row KB.out (g := nb + 1) (by omega) (cellsT p))
    go_wp2
    exact bodyPost_ret (v := .agg (cellsT p)) (results_cell_row rfl _ _ (nb + 1) 78 (cellsT p) (0, 0) _ rfl K5.out rfl rfl infoSP) rfl ⟨rfl, HN.out ▸ K6.out⟩

set_option maxRecDepth 20000 in
set_option maxHeartbeats 1000000 in
theorem power_on_w (p X : Pt) (w : World) (h : p.on = false) (hX : Hid ({ p with on := true, source := 1, reselect := true, ready := false } = X)) :
    Calls Tryz.prog 37 #[.agg (cellsT p), .bool true] w fun e w' => e = .returned (.agg (cellsT X)) ∧ Below w.heap.size w w' := by
  obtain ⟨W, nb, HW, HN, k0, k1, kB⟩ := twoP_is 78 w p
  have K0 := Lib.hid k0
  have K1 := Lib.hid k1
  have KB := Lib.hid kB
  have hsz := k1.lt
  have c2 := k0.c_on
  rw [h] at c2
  clear k0 k1 kB h
  go_enter Tryz.func37, Tryz.ntmps37
  go_upto_region 1 with (fail)
  refine wp_to (W := W) (by exact HW.out.symm) ?_
  rw [HN.out]
  go_upto_region 2 with (fail)
  refine wp_region_list ?_
  refine wpList_load_row rfl 78 _ rfl nb rfl 78 (cellsT p) (0, 0) _ K0.out rfl rfl infoSP ?_
  go_wp2_with fail
  refine (behind2_w _ _ _ _ p _ _ _ W.heap.size _ _ (heap_alloc_new W _) (does_powerOn _ p) (does_as (does_age _ _) hX.out)).mono ?_
  rintro e w1 ⟨rfl, hb1⟩
  dsimp only
  have hB := Lib.hid (bw_trans (below_box W _) hb1)
  clear hb1
  have K2 := Lib.hid (K1.out.next hB.out)
  have st := K2.out.stores X
  have sz := cellsT_size X
  have K5 := Lib.hid (K2.out.row X)
  have K6 := Lib.hid (below_row (KB.out.trans (hB.out.mono (by omega))) (g := nb + 1) (by omega) (cellsT X))
  go_wp2
  exact bodyPost_ret (v := .agg (cellsT X)) (results_cell_row rfl _ _ (nb + 1) 78 (cellsT X) (0, 0) _ rfl K5.out rfl rfl infoSP) rfl ⟨rfl, HN.out ▸ K6.out⟩

set_option maxRecDepth 20000 in
set_option maxHeartbeats 1000000 in
theorem power_off_w (p X : Pt) (w : World) (h : p.on = true) (hX : Hid ({ p with on := false, source := 0, proposing := false, proposed := false, agree := false, agreed := false, info := 0, reselect := true, ready := false, oper := p.admin } = X)) :
    Calls Tryz.prog 37 #[.agg (cellsT p), .bool false] w fun e w' => e = .returned (.agg (cellsT X)) ∧ Below w.heap.size w w' := by
  obtain ⟨W, nb, HW, HN, k0, k1, kB⟩ := twoP_is 78 w p
  have K0 := Lib.hid k0
  have K1 := Lib.hid k1
  have KB := Lib.hid kB
  have hsz := k1.lt
  have c2 := k0.c_on
  rw [h] at c2
  clear k0 k1 kB h
  go_enter Tryz.func37, Tryz.ntmps37
  go_upto_region 1 with (fail)
  refine wp_to (W := W) (by exact HW.out.symm) ?_
  rw [HN.out]
  go_upto_region 4 with (fail)
  refine wp_region_list ?_
  refine wpList_load_row rfl 78 _ rfl nb rfl 78 (cellsT p) (0, 0) _ K0.out rfl rfl infoSP ?_
  go_wp2_with fail
  refine (behind2_w _ _ _ _ p _ _ _ W.heap.size _ _ (heap_alloc_new W _) (does_powerOff _ p) (does_as (does_letGo _ _) hX.out)).mono ?_
  rintro e w1 ⟨rfl, hb1⟩
  dsimp only
  have hB := Lib.hid (bw_trans (below_box W _) hb1)
  clear hb1
  have K2 := Lib.hid (K1.out.next hB.out)
  have st := K2.out.stores X
  have sz := cellsT_size X
  have K5 := Lib.hid (K2.out.row X)
  have K6 := Lib.hid (below_row (KB.out.trans (hB.out.mono (by omega))) (g := nb + 1) (by omega) (cellsT X))
  go_wp2
  exact bodyPost_ret (v := .agg (cellsT X)) (results_cell_row rfl _ _ (nb + 1) 78 (cellsT X) (0, 0) _ rfl K5.out rfl rfl infoSP) rfl ⟨rfl, HN.out ▸ K6.out⟩

theorem power_w (p X : Pt) (on : Bool) (w : World) (hX : Hid (powerP p on = X)) :
    Calls Tryz.prog 37 #[.agg (cellsT p), .bool on] w fun e w' => e = .returned (.agg (cellsT X)) ∧ Below w.heap.size w w' := by
  rw [← hX.out]
  unfold powerP
  by_cases h : on = p.on
  · rw [if_pos h]
    exact power_same_w p on w h.symm
  · rw [if_neg h]
    cases on
    · cases hp : p.on
      · rw [hp] at h; exact absurd rfl h
      · rw [if_neg (by simp)]
        exact power_off_w p _ w hp (Lib.hid rfl)
    · cases hp : p.on
      · rw [if_pos rfl]
        exact power_on_w p _ w hp (Lib.hid rfl)
      · rw [hp] at h; exact absurd rfl h

set_option maxRecDepth 20000 in
set_option maxHeartbeats 1000000 in
theorem age_yes_w (p X : Pt) (w : World) (h1 : p.source = 3) (h2 : p.info = 0) (h3 : p.update = false) (hX : Hid ({ p with source := 1, reselect := true, ready := false } = X)) :
    Calls Tryz.prog 111 #[.agg (cellsT p)] w fun e w' => e = .returned (.agg (cellsT X)) ∧ Below w.heap.size w w' := by
  obtain ⟨W, nb, HW, HN, k0, k1, kB⟩ := twoP_is 78 w p
  have K0 := Lib.hid k0
  have K1 := Lib.hid k1
  have KB := Lib.hid kB
  have hsz := k1.lt
  have c2 := k0.c_source
  have c3 := k0.c_info
  have c4 := k0.c_update
  rw [h1] at c2
  rw [h2] at c3
  rw [h3] at c4
  clear k0 k1 kB h1 h2 h3
  go_enter Tryz.func111, Tryz.ntmps111
  go_upto_region 1 with (fail)
  refine wp_to (W := W) (by exact HW.out.symm) ?_
  rw [HN.out]
  go_upto_region 3 with (fail)
  refine wp_region_list ?_
  refine wpList_load_row rfl 78 _ rfl nb rfl 78 (cellsT p) (0, 0) _ K0.out rfl rfl infoSP ?_
  go_wp2_with fail
  refine (behind1_w _ _ p _ _ W.heap.size _ _ (heap_alloc_new W _) (does_as (does_age _ _) hX.out)).mono ?_
  rintro e w1 ⟨rfl, hb1⟩
  dsimp only
  have hB := Lib.hid (bw_trans (below_box W _) hb1)
  clear hb1
  have K2 := Lib.hid (K1.out.next hB.out)
  have st := K2.out.stores X
  have sz := cellsT_size X
  have K5 := Lib.hid (K2.out.row X)
  have K6 := Lib.hid (below_row (KB.out.trans (hB.out.mono (by omega))) (g := nb + 1) (by omega) (cellsT X))
  go_wp2
  exact bodyPost_ret (v := .agg (cellsT X)) (results_cell_row rfl _ _ (nb + 1) 78 (cellsT X) (0, 0) _ rfl K5.out rfl rfl infoSP) rfl ⟨rfl, HN.out ▸ K6.out⟩

set_option maxRecDepth 20000 in
set_option maxHeartbeats 1000000 in
theorem age_no_w (p : Pt) (w : World) (h : ¬ (p.source = 3 ∧ p.info = 0 ∧ p.update = false)) :
    Calls Tryz.prog 111 #[.agg (cellsT p)] w fun e w' => e = .returned (.agg (cellsT p)) ∧ Below w.heap.size w w' := by
  obtain ⟨W, nb, HW, HN, k0, k1, kB⟩ := twoP_is 78 w p
  have K0 := Lib.hid k0
  have K1 := Lib.hid k1
  have KB := Lib.hid kB
  have hsz := k1.lt
  have c2 := k0.c_source
  have c3 := k0.c_info
  have c4 := k0.c_update
  clear k0 k1 kB
  go_enter Tryz.func111, Tryz.ntmps111
  go_upto_region 1 with (fail)
  refine wp_to (W := W) (by exact HW.out.symm) ?_
  rw [HN.out]
  by_cases h1 : p.source = 3
  · rw [h1] at c2
    by_cases h2 : p.info = 0
    · rw [h2] at c3
      have h3 : p.update = true := by
        cases hu : p.update
        · exact absurd ⟨h1, h2, hu⟩ h
        · rfl
      rw [h3] at c4
      clear h h1 h2 h3
      go_upto_region 2 with (fail)
      refine wp_region_list ?_
      refine wpList_load_row rfl 78 _ rfl nb rfl 78 (cellsT p) (0, 0) _ K0.out rfl rfl infoSP ?_
      refine wpList_store_row rfl 78 _ _ rfl (nb + 1) (cellsT p) rfl rfl 78 _ K1.out infoSP rfl (cellsT_one p) ?_
      have K5 := Lib.hid (K1.out.row p)
      have K6 := Lib.hid (below_row KB.out (g := nb + 1) (by omega) (cellsT p))
      go_wp2
      exact bodyPost_ret (v := .agg (cellsT p)) (results_cell_row rfl _ _ (nb + 1) 78 (cellsT p) (0, 0) _ rfl K5.out rfl rfl infoSP) rfl ⟨rfl, HN.out ▸ K6.out⟩
    · have z : (p.info != 0) = true := bne_iff_ne.2 h2
      clear h h1 c4
      go_upto_region 2 with (fail)
      refine wp_region_list ?_
      refine wpList_load_row rfl 78 _ rfl nb rfl 78 (cellsT p) (0, 0) _ K0.out rfl rfl infoSP ?_
      refine wpList_store_row rfl 78 _ _ rfl (nb + 1) (cellsT p) rfl rfl 78 _ K1.out infoSP rfl (cellsT_one p) ?_
      have K5 := Lib.hid (K1.out.row p)
      have K6 := Lib.hid (below_row KB.out (g := nb + 1) (by omega) (cellsT p))
      go_wp2
      exact bodyPost_ret (v := .agg (cellsT p)) (results_cell_row rfl _ _ (nb + 1) 78 (cellsT p) (0, 0) _ rfl K5.out rfl rfl infoSP) rfl ⟨rfl, HN.out ▸ K6.out⟩
  · have z : (p.source != 3) = true := bne_iff_ne.2 h1
    clear h c3 c4
    go_upto_region 2 with (fail)
    refine wp_region_list ?_
    refine wpList_load_row rfl 78 _ rfl nb rfl 78 (cellsT p) (0, 0) _ K0.out rfl rfl infoSP ?_
    refine wpList_store_row rfl 78 _ _ rfl (nb + 1) (cellsT p) rfl rfl 78 _ K1.out infoSP rfl (cellsT_one p) ?_
    have K5 := Lib.hid (K1.out.row p)
    have K6 := Lib.hid (below_row KB.out (g := nb + 1) (by omega) (cellsT p))
    go_wp2
    exact bodyPost_ret (v := .agg (cellsT p)) (results_cell_row rfl _ _ (nb + 1) 78 (cellsT p) (0, 0) _ rfl K5.out rfl rfl infoSP) rfl ⟨rfl, HN.out ▸ K6.out⟩
theorem age11_w (p X : Pt) (w : World) (hX : Hid (ageP p = X)) :
    Calls Tryz.prog 111 #[.agg (cellsT p)] w fun e w' => e = .returned (.agg (cellsT X)) ∧ Below w.heap.size w w' := by
  rw [← hX.out]
  unfold ageP
  by_cases h : p.source = 3 ∧ p.info = 0 ∧ p.update = false
  · rw [if_pos h]
    exact age_yes_w p _ w h.1 h.2.1 h.2.2 (Lib.hid rfl)
  · rw [if_neg h]
    exact age_no_w p w h


end Go.Proofs.YtldobcfejldbiaaGreatDoor
