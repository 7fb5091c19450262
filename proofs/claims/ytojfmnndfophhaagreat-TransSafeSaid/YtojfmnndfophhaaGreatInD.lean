/-
  Layer 11: behind, which does some deeds to a port, in order.
-/
import Derived.Test.YtojfmnndfophhaaGreatInC
namespace Go.Proofs.YtojfmnndfophhaaGreat
set_option linter.unusedVariables false
set_option linter.unusedSimpArgs false
open Go.RowKit Vm Rm Bm Im

/-- A row of deeds: function f k, with what it captured. -/
def DRow (w : World) (g n : Nat) (f : Nat → Nat) (c : Nat → Array Value) : Prop :=
  g < w.heap.size ∧ ∀ k, k < n → w.cell? ⟨g, k, none⟩ = some (.func (.func (f k)) #[] (c k))
theorem DRow.next {w w' : World} {g n : Nat} {f : Nat → Nat} {c : Nat → Array Value} (h : DRow w g n f c) (hb : Below w.heap.size w w') : DRow w' g n f c :=
  ⟨Nat.lt_of_lt_of_le h.1 hb.size, fun k hk => (hb.cell (p := ⟨g, k, none⟩) h.1).trans (h.2 k hk)⟩
/-- Behind a world w, this deed turns a port X into Y. -/
def Does (w0 : World) (f : Nat) (c : Array Value) (X Y : Pt) : Prop :=
  (∀ (a : Array Value) (w : World), Sem.run Tryz.prog (callFunc f a) w = .ok (.enter f a) w) ∧ ∀ (w : World) (b : Nat), PtBlk 34 w b X → Below w0.heap.size w0 w → w0.heap.size ≤ b →
    Calls Tryz.prog f (#[.pointer (some ⟨b, 0, none⟩)] ++ c) w fun e w' => e = .returned (.tuple #[]) ∧ Tn 34 b Y w w'
theorem twoP_is (T : TypeId) (w : World) (p : Pt) : ∃ (W : World) (nb : Nat), Hid (((w.alloc (.cells (cellsT p) T)).alloc (.cells (cellsT zeroP) T)) = W) ∧ Hid (w.heap.size = nb) ∧ PtBlk T W nb p ∧ PtBlk T W (nb + 1) zeroP ∧ Below nb w W := by
  refine ⟨_, _, Lib.hid rfl, Lib.hid rfl, ?_, ?_, ?_⟩
  · exact heap_alloc2_old w _ _
  · exact heap_alloc2_new w _ _
  · exact bw_alloc (below_box w _) _
def BInv (st : Nat → Pt) (n nb : Nat) (w0 : World) (i : Value) (wr : World) : Prop :=
  ∃ k : Nat, k ≤ n ∧ i = .int .i64 (k : Nat) ∧ PtBlk 34 wr nb (st k) ∧ PtBlk 34 wr (nb + 1) zeroP ∧ Below nb w0 wr ∧ nb + 2 ≤ wr.heap.size

set_option maxRecDepth 20000 in
set_option maxHeartbeats 1000000 in
theorem behind_w (f : Nat → Nat) (c : Nat → Array Value) (n g cap : Nat) (st : Nat → Pt) (X0 X : Pt) (w : World) (hr : DRow w g n f c) (hn : n ≤ 100) (h0 : st 0 = X0) (hX : st n = X)
    (hd : ∀ k, k < n → Does w (f k) (c k) (st k) (st (k + 1))) :
    Calls Tryz.prog 22 #[.agg (cellsT X0), .slice (some ⟨g, 0, none⟩) n cap] w fun e w' => e = .returned (.agg (cellsT X)) ∧ Below w.heap.size w w' := by
  subst h0 hX
  obtain ⟨W, nb, HW, HN, k0, k1, kB⟩ := twoP_is 34 w (st 0)
  have HR := Lib.hid hr
  have HD := Lib.hid hd
  have K0 := Lib.hid k0
  have K1 := Lib.hid k1
  have KB := Lib.hid kB
  clear hr hd k0 k1 kB
  go_enter Tryz.func22, Tryz.ntmps22
  go_upto_region 1 with (fail)
  refine wp_to (W := W) (by exact HW.out.symm) ?_
  rw [HN.out]
  go_wp2_with fail
  go_loopw [9] (fun i wr => BInv st n nb w i wr) (fun i _ => n - (intOf i).toNat)
  case atStart =>
    exact ⟨0, Nat.zero_le _, rfl, K0.out, K1.out, KB.out, K1.out.lt⟩
  case round =>
    obtain ⟨k, hk, rfl, hB0, hB1, hBB, hsz⟩ := hrel
    have e0 := HN.out
    by_cases hkl : k < n
    · have hki : (k : Int) < n := by omega
      have hRow := HR.out.next (by rw [e0]; exact hBB)
      have hc := hRow.2 k hkl
      have hg := hRow.1
      have hent := (HD.out k hkl).1
      have hcall := (HD.out k hkl).2 wr nb hB0 (by rw [e0]; exact hBB) (by rw [e0]; exact Nat.le_refl _)
      have S0 := Lib.hid hB0
      have S1 := Lib.hid hB1
      have SB := Lib.hid hBB
      have hN0 : (k : Int) ≥ 0 := by omega
      clear hB0 hB1 hBB hRow e0
      go_wp2_with fail
      refine hcall.mono ?_
      clear hcall hent
      rintro e w1 ⟨rfl, t⟩
      have T := Lib.hid t
      have hs1 := t.size
      clear t hc
      go_wp2_with fail
      exact ⟨⟨k + 1, by omega, by go_num, T.out.blk, S1.out.same (T.out.at (by omega) (by omega)), T.out.below SB.out (Nat.le_refl _) (by omega), by omega⟩, by simp [intOf]; omega⟩
    · obtain rfl : k = n := by omega
      have S0 := Lib.hid hB0
      have S1 := Lib.hid hB1
      have SB := Lib.hid hBB
      clear hB0 hB1 hBB
      go_upto_region 6 with (fail)
      refine wp_region_list ?_
      refine wpList_load_row rfl 34 _ rfl nb rfl 34 (cellsT (st k)) (0, 0) _ S0.out rfl rfl infoSP ?_
      refine wpList_store_row rfl 34 _ _ rfl (nb + 1) (cellsT (st k)) rfl rfl 34 _ S1.out infoSP rfl (cellsT_one (st k)) ?_
      have K5 := Lib.hid (S1.out.row (st k))
      have K6 := Lib.hid (below_row SB.out (g := nb + 1) (by omega) (cellsT (st k)))
      go_wp2
      exact bodyPost_ret (v := .agg (cellsT (st k))) (results_cell_row rfl _ _ (nb + 1) 34 (cellsT (st k)) (0, 0) _ rfl K5.out rfl rfl infoSP) rfl ⟨rfl, HN.out ▸ K6.out⟩
end Go.Proofs.YtojfmnndfophhaaGreat
