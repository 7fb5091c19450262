/-
  Layers 11 to 13: the document's Right; forget, count.
-/
import Derived.Test.YtlfmjinllffifaaChB
import Derived.Test.YtlfmjinllffifaaM1
namespace Go.Proofs.Ytlfmjinllffifaa
set_option linter.unusedVariables false
set_option linter.unusedSimpArgs false
open Go.RowKit Vm Rm Bm Im

theorem rightBr_is (a m h d : Int) : rightBr ⟨a, m, h, d⟩ = decide (a = 0 ∧ 6 ≤ m ∧ m ≤ 40 ∧ 1 ≤ h ∧ h ≤ 2 ∧ 4 ≤ d ∧ d ≤ 30) := by
  unfold rightBr
  simp only [← Bool.decide_and]
  exact decide_eq_decide.2 ⟨fun h => by omega, fun h => by omega⟩
set_option maxHeartbeats 1000000 in
theorem rbr_w (i a m h d : Int) (R : Bool) (w : World) (hR : Hid (rightBr ⟨a, m, h, d⟩ = R)) :
    Calls Try.prog 17 #[brv i a m h d] w fun e w' => e = .returned (.bool R) ∧ Below w.heap.size w w' := by
  rw [← hR.out, rightBr_is]
  clear hR
  unfold brv
  go_enter Try.func17, Try.ntmps17
  go_wp2
  all_goals go_ret
  all_goals refine ⟨?_, below_box w _⟩
  all_goals refine ret_val ?_
  all_goals first
    | (refine congrArg Value.bool (decide_eq_false ?_).symm; simp_all; done)
    | (refine congrArg Value.bool (decide_eq_false ?_).symm; omega)
    | (refine congrArg Value.bool (decide_eq_true ?_).symm; simp_all; done)
    | (refine congrArg Value.bool (decide_eq_true ?_).symm; omega)
    | (refine congrArg Value.bool ?_; simp_all; omega)
    | (refine congrArg Value.bool ?_; simp_all; done)

set_option maxRecDepth 20000 in
set_option maxHeartbeats 1000000 in
theorem rforget_w (p X : Pt) (w : World) (hX : Hid (forgetP p = X)) :
    Calls Try.prog 18 #[.agg (cellsT p)] w fun e w' => e = .returned (.agg (cellsT X)) ∧ Below w.heap.size w w' := by
  obtain ⟨W, nb, HW, HN, k0, k1, kB⟩ := twoP_is 54 w p
  have K0 := Lib.hid k0
  have K1 := Lib.hid k1
  have KB := Lib.hid kB
  have f := k0.free
  have c_1 := k0.c_heardTc
  have c_2 := k0.c_heardTcn
  have c_3 := k0.c_heardAck
  have c_4 := k0.c_tcProp
  have hne : nb + 1 ≠ nb := by omega
  clear k0 k1 kB
  obtain ⟨V, hV⟩ : ∃ V, (((W.setCell ⟨nb, 40, none⟩ (.bool false)).setCell ⟨nb, 41, none⟩ (.bool false)).setCell ⟨nb, 42, none⟩ (.bool false)).setCell ⟨nb, 44, none⟩ (.bool false) = V := ⟨_, rfl⟩
  have KV := Lib.hid (show PtBlk 54 V nb X from by rw [← hV, ← hX.out]; exact (((K0.out.s_heardTc false).s_heardTcn false).s_heardAck false).s_tcProp false)
  have KZ := Lib.hid (show PtBlk 54 V (nb + 1) zeroP from by rw [← hV]; exact (((K1.out.far 40 _ hne).far 41 _ hne).far 42 _ hne).far 44 _ hne)
  have BV := Lib.hid (show Below nb w V from by rw [← hV]; exact (((KB.out.setCell (Nat.le_refl _) _).setCell (Nat.le_refl _) _).setCell (Nat.le_refl _) _).setCell (Nat.le_refl _) _)
  have HV := Lib.hid hV
  clear hV hX K0 K1 KB
  go_enter Try.func18, Try.ntmps18
  go_upto_region 1 with (fail)
  refine wp_to (W := W) (by exact HW.out.symm) ?_
  rw [HN.out]
  go_upto_region 5 with (fail)
  refine wp_to (W := V) (by exact HV.out.symm) ?_
  go_wp2_with (first
    | (with_reducible refine wpList_rpt rfl _ rfl _ rfl X KV.out ?_)
    | (with_reducible refine wpList_rst rfl _ _ rfl _ rfl X zeroP rfl KZ.out ?_))
  have E := below_row BV.out (g := nb + 1) (by omega) (cellsT X)
  exact bodyPost_ret (v := .agg (cellsT X)) (results_cell_row rfl _ _ (nb + 1) 54 (cellsT X) (0, 0) _ rfl (KZ.out.row X) rfl rfl infoRP) rfl ⟨rfl, HN.out ▸ E⟩

/-- The document's bridge, in a block. -/
def RbBlk (w : World) (b : Nat) (i a m h d : Int) : Prop := w.heap[b]? = some (.cells (bcl i a m h d) 31 (0, 0))
theorem RbBlk.lt {w : World} {b : Nat} {i a m h d : Int} (H : RbBlk w b i a m h d) : b < w.heap.size := (Array.getElem?_eq_some_iff.1 H).1
theorem RbBlk.next {w w' : World} {b : Nat} {i a m h d : Int} (H : RbBlk w b i a m h d) (hb : Below w.heap.size w w') : RbBlk w' b i a m h d := (hb.block b H.lt).trans H
theorem RbBlk.kp {w w1 : World} {b g : Nat} {i a m h d : Int} (H : RbBlk w b i a m h d) (k : Kp g w w1) (hne : b ≠ g) : RbBlk w1 b i a m h d := (k.block b H.lt hne).trans H
theorem RbBlk.same {w w1 : World} {b : Nat} {i a m h d : Int} (H : RbBlk w b i a m h d) (e : w1.heap[b]? = w.heap[b]?) : RbBlk w1 b i a m h d := e.trans H
theorem RbBlk.cells {w : World} {b : Nat} {i a m h d : Int} (H : RbBlk w b i a m h d) : w.cell? ⟨b, 0, none⟩ = some (.int .u64 i) ∧ w.cell? ⟨b, 1, none⟩ = some (.int .i64 a) ∧ w.cell? ⟨b, 2, none⟩ = some (.int .i64 m) ∧ w.cell? ⟨b, 3, none⟩ = some (.int .i64 h) ∧ w.cell? ⟨b, 4, none⟩ = some (.int .i64 d) := by
  unfold RbBlk at H
  refine ⟨?_, ?_, ?_, ?_, ?_⟩ <;> simp [World.cell?, H]
/-- A bridge, a port, an empty port, behind a world. -/
theorem bpz_is (i a m h d : Int) (p : Pt) (w : World) : ∃ (W : World) (nb : Nat), Hid ((((w.alloc (.cells (bcl i a m h d) 31)).alloc (.cells (cellsT p) 54)).alloc (.cells (cellsT zeroP) 54)) = W) ∧ Hid (w.heap.size = nb) ∧
    RbBlk W nb i a m h d ∧ PtBlk 54 W (nb + 1) p ∧ PtBlk 54 W (nb + 2) zeroP ∧ Below nb w W := by
  have h0 : RbBlk (w.alloc (.cells (bcl i a m h d) 31)) w.heap.size i a m h d := heap_alloc_new w _
  obtain ⟨V, hV⟩ : ∃ V, w.alloc (.cells (bcl i a m h d) 31) = V := ⟨_, rfl⟩
  have hs : V.heap.size = w.heap.size + 1 := by rw [← hV, size_box]
  have hB : Below w.heap.size w V := hV ▸ below_box w _
  rw [hV] at h0
  refine ⟨_, w.heap.size, Lib.hid rfl, Lib.hid rfl, ?_, ?_, ?_, ?_⟩
  · rw [hV]
    exact h0.next (bw_alloc (below_box V _) _)
  · rw [hV, ← hs]
    exact heap_alloc2_old V _ _
  · rw [hV, show w.heap.size + 2 = V.heap.size + 1 by omega]
    exact heap_alloc2_new V _ _
  · rw [hV]
    exact bw_alloc (bw_alloc hB _) _

set_option maxRecDepth 20000 in
set_option maxHeartbeats 1000000 in
theorem rcount_w (i : Int) (t : Tm) (p X : Pt) (w : World) (hb : rightBr t = true) (hX : Hid (countP t p = X)) :
    Calls Try.prog 19 #[brv i t.age t.max t.hello t.delay, .agg (cellsT p)] w fun e w' => e = .returned (.agg (cellsT X)) ∧ Below w.heap.size w w' := by
  obtain ⟨W, nb, HW, HN, kb, k0, k1, kB⟩ := bpz_is i t.age t.max t.hello t.delay p w
  have K0 := Lib.hid k0
  have K1 := Lib.hid k1
  have KB := Lib.hid kB
  obtain ⟨b0, b1, b2, b3, b4⟩ := kb.cells
  have f := k0.free
  have c_1 := k0.c_tc
  have c_2 := k0.c_sendRstp
  have c_3 := k0.c_newInfo
  have hr : t.max ≤ 40 ∧ 6 ≤ t.max ∧ 1 ≤ t.hello ∧ t.hello ≤ 2 ∧ 4 ≤ t.delay ∧ t.delay ≤ 30 := by
    have h := rightBr_is t.age t.max t.hello t.delay
    have hb' : rightBr ⟨t.age, t.max, t.hello, t.delay⟩ = true := hb
    rw [h] at hb'
    have := of_decide_eq_true hb'
    omega
  have e1 : IntKind.i64.wrap (t.hello + 1) = t.hello + 1 := by rw [IntKind.wrap_i64]; omega
  have e2 : IntKind.i64.wrap (t.max + t.delay) = t.max + t.delay := by rw [IntKind.wrap_i64]; omega
  have hne : nb + 2 ≠ nb + 1 := by omega
  clear hr hb kb k0 k1 kB
  unfold brv
  by_cases htc : p.tc = 0
  · have d : (p.tc != 0) = false := by rw [htc]; rfl
    by_cases hs : p.sendRstp = true
    · rw [hs] at c_2
      obtain ⟨V, hV⟩ : ∃ V, (W.setCell ⟨nb + 1, 53, none⟩ (.int .i64 (t.hello + 1))).setCell ⟨nb + 1, 39, none⟩ (.bool true) = V := ⟨_, rfl⟩
      have KV := Lib.hid (show PtBlk 54 V (nb + 1) X from by
        rw [← hV, ← hX.out]
        unfold countP
        rw [if_neg (by simpa using htc), if_pos hs]
        exact (K0.out.s_tc _).s_newInfo true)
      have KZ := Lib.hid (show PtBlk 54 V (nb + 2) zeroP from by rw [← hV]; exact (K1.out.far 53 _ hne).far 39 _ hne)
      have BV := Lib.hid (show Below nb w V from by rw [← hV]; exact (KB.out.setCell (p := ⟨nb + 1, 53, none⟩) (by show nb ≤ nb + 1; omega) _).setCell (p := ⟨nb + 1, 39, none⟩) (by show nb ≤ nb + 1; omega) _)
      have HV := Lib.hid hV
      clear hV hX K0 K1 KB htc hs
      go_enter Try.func19, Try.ntmps19
      go_upto_region 1 with (fail)
      refine wp_to (W := W) (by exact HW.out.symm) ?_
      rw [HN.out]
      go_upto_region 6 with (fail)
      refine wp_to (W := V) (by exact HV.out.symm) ?_
      go_wp2_with (first
        | (with_reducible refine wpList_rpt rfl _ rfl _ rfl X KV.out ?_)
        | (with_reducible refine wpList_rst rfl _ _ rfl _ rfl X zeroP rfl KZ.out ?_))
      have E := below_row BV.out (g := nb + 2) (by omega) (cellsT X)
      exact bodyPost_ret (v := .agg (cellsT X)) (results_cell_row rfl _ _ (nb + 2) 54 (cellsT X) (0, 0) _ rfl (KZ.out.row X) rfl rfl infoRP) rfl ⟨rfl, HN.out ▸ E⟩
    · have hs' : p.sendRstp = false := by cases h : p.sendRstp; rfl; exact absurd h hs
      rw [hs'] at c_2
      obtain ⟨V, hV⟩ : ∃ V, W.setCell ⟨nb + 1, 53, none⟩ (.int .i64 (t.max + t.delay)) = V := ⟨_, rfl⟩
      have KV := Lib.hid (show PtBlk 54 V (nb + 1) X from by
        rw [← hV, ← hX.out]
        unfold countP
        rw [if_neg (by simpa using htc), if_neg hs]
        exact K0.out.s_tc _)
      have KZ := Lib.hid (show PtBlk 54 V (nb + 2) zeroP from by rw [← hV]; exact K1.out.far 53 _ hne)
      have BV := Lib.hid (show Below nb w V from by rw [← hV]; exact KB.out.setCell (p := ⟨nb + 1, 53, none⟩) (by show nb ≤ nb + 1; omega) _)
      have HV := Lib.hid hV
      clear hV hX K0 K1 KB htc hs hs'
      go_enter Try.func19, Try.ntmps19
      go_upto_region 1 with (fail)
      refine wp_to (W := W) (by exact HW.out.symm) ?_
      rw [HN.out]
      go_upto_region 8 with (fail)
      refine wp_to (W := V) (by exact HV.out.symm) ?_
      go_wp2_with (first
        | (with_reducible refine wpList_rpt rfl _ rfl _ rfl X KV.out ?_)
        | (with_reducible refine wpList_rst rfl _ _ rfl _ rfl X zeroP rfl KZ.out ?_))
      have E := below_row BV.out (g := nb + 2) (by omega) (cellsT X)
      exact bodyPost_ret (v := .agg (cellsT X)) (results_cell_row rfl _ _ (nb + 2) 54 (cellsT X) (0, 0) _ rfl (KZ.out.row X) rfl rfl infoRP) rfl ⟨rfl, HN.out ▸ E⟩
  · have d : (p.tc != 0) = true := by simpa using htc
    have hpX : p = X := by rw [← hX.out]; unfold countP; rw [if_pos htc]
    subst hpX
    clear hX htc
    go_enter Try.func19, Try.ntmps19
    go_upto_region 1 with (fail)
    refine wp_to (W := W) (by exact HW.out.symm) ?_
    rw [HN.out]
    go_wp2_with (first
      | (with_reducible refine wpList_rpt rfl _ rfl _ rfl p K0.out ?_)
      | (with_reducible refine wpList_rst rfl _ _ rfl _ rfl p zeroP rfl K1.out ?_))
    have E := below_row KB.out (g := nb + 2) (by omega) (cellsT p)
    exact bodyPost_ret (v := .agg (cellsT p)) (results_cell_row rfl _ _ (nb + 2) 54 (cellsT p) (0, 0) _ rfl (K1.out.row p) rfl rfl infoRP) rfl ⟨rfl, HN.out ▸ E⟩
end Go.Proofs.Ytlfmjinllffifaa
