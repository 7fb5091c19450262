/-
  The document's own functions of layer 7: with, without.
-/
import Derived.Test.YtkpfdaomhkcokaaFdK
namespace Go.Proofs.Ytkpfdaomhkcokaa
set_option linter.unusedVariables false
set_option linter.unusedSimpArgs false
open Go.RowKit Go.Maps Dm

theorem infoR : (Try.prog.info? 40).map (fun i => (i.zero, i.size, i.bytes)) = some (some (ev zeroE), 5, 48) := by kernel_rfl
abbrev Own5 (w : World) (base : Nat) (v : Value) (l : List En) : Prop := w.ownsRow base 40 5 v l.length (cellsE l)
theorem cellsE_append (a b : List En) : cellsE (a ++ b) = cellsE a ++ cellsE b := by simp [cellsE]
theorem cellsE_one {l : List En} : ∀ u ∈ cellsE l, u.oneCell' = true := by
  intro u hu
  simp only [cellsE, List.mem_flatMap] at hu
  obtain ⟨x, _, hx⟩ := hu
  simp [cellsOf] at hx
  rcases hx with rfl | rfl | rfl | rfl | rfl <;> rfl
theorem addr_add (g o j : Nat) : (⟨g, o, none⟩ : Addr).add j = ⟨g, o + j, none⟩ := by unfold Addr.add; split <;> simp_all
theorem row_news {w : World} {a : Addr} {l : List En} (h : Row w (some a) l) : ∀ j u, (cellsE l)[j]? = some u → w.cell? (a.add j) = some u := by
  intro j u hu
  have hj : j < l.length * 5 := by rw [← cellsE_length]; exact (List.getElem?_eq_some_iff.1 hu).1
  obtain ⟨x, hx⟩ := at_some (l := l) (k := j / 5) (by omega)
  obtain ⟨g, o, e, _, k0, k1, k2, k3, k4⟩ := h.at_ _ x hx
  cases e
  have h5 : j % 5 < 5 := Nat.mod_lt _ (by omega)
  have hc := cells_at hx (j % 5) h5
  rw [show j / 5 * 5 + j % 5 = j by omega, hu] at hc
  rw [addr_add, show o + j = o + j / 5 * 5 + j % 5 by omega]
  generalize j % 5 = c at h5 hc
  match c, h5 with
  | 0, _ => rw [hc]; exact k0
  | 1, _ => rw [hc]; exact k1
  | 2, _ => rw [hc]; exact k2
  | 3, _ => rw [hc]; exact k3
  | 4, _ => rw [hc]; exact k4
theorem row_empty {w : World} {l : List En} (h : Row w none l) : l = [] := by
  cases l with
  | nil => rfl
  | cons x l =>
    obtain ⟨g, o, e, _⟩ := h.at_ 0 x rfl
    cases e
theorem own_shape {w : World} {base : Nat} {v : Value} {l : List En} (h : Own5 w base v l) : ∃ a cap, v = .slice a l.length cap ∧ l.length ≤ cap := by
  rcases h.2 with ⟨rfl, h0⟩ | ⟨g, cap, _, rfl, _, _, hc, _⟩
  · exact ⟨none, 0, by rw [h0], by omega⟩
  · exact ⟨_, cap, rfl, hc⟩

theorem run_append_row (w : World) (ty : TypeId) (base : Nat) (v : Value) (xs ys : List En) (a : Option Addr) (c : Nat) (hown : Own5 w base v xs) (hr : Row w a ys) (hlen : xs.length + ys.length ≤ 3000) (hbase : base ≤ w.heap.size) :
    ∃ a' cap w', (Builtin.append_ #[29, 29] ty #[v, .slice a ys.length c]).run Try.prog w = .ok (.slice a' (xs ++ ys).length cap) w' ∧ Own5 w' base (.slice a' (xs ++ ys).length cap) (xs ++ ys) ∧ w.grownBy w' v.ownBlock ∧ (xs ++ ys).length ≤ cap := by
  obtain ⟨i0, hi, hz0, hz1, hz2⟩ := info_parts infoR
  cases a with
  | some ad =>
    obtain ⟨v', w', h1, h2, h3, _⟩ := run_append_own (P := Try.prog) w base 29 ty 40 i0 (ev zeroE) 5 48 Try.underlying29 hi hz0 hz1 hz2 rfl (by decide) v xs.length (cellsE xs) hown ad ys.length c (cellsE ys) (cellsE_length ys) (row_news hr) cellsE_one (by unfold maxLen; omega) (by omega) hbase
    rw [← cellsE_append, ← List.length_append] at h2
    obtain ⟨a', cap, rfl, hc⟩ := own_shape h2
    exact ⟨a', cap, w', h1, h2, h3, hc⟩
  | none =>
    have := row_empty hr
    subst this
    rw [List.append_nil]
    rcases hown.2 with ⟨rfl, h0⟩ | ⟨g, cap, cur, rfl, hbg, hg, hnc, hcm, hcs, htake⟩
    · have hx : xs = [] := List.eq_nil_of_length_eq_zero h0
      subst hx
      refine ⟨none, 0, w, ?_, hown, ⟨rfl, rfl, rfl, Nat.le_refl _, fun _ _ _ => rfl⟩, Nat.le_refl _⟩
      simp [Builtin.append_, run_underlying Try.underlying29, sizeOf, typeInfo, hi, Builtin.lenOf, Builtin.firstCells, loadCells, loadCellsFrom]
    · refine ⟨_, cap, w, ?_, hown, ⟨rfl, rfl, rfl, Nat.le_refl _, fun _ _ _ => rfl⟩, hnc⟩
      simp [Builtin.append_, run_underlying Try.underlying29, sizeOf, typeInfo, hi, Builtin.lenOf, Builtin.firstCells, loadCells, loadCellsFrom, hnc, storeCells]

/-- At a step of a region that draws. -/
theorem step_append_row (w : World) {ops : Array Oper} {o : Oper} {ac : Act} {K : Act → World → Prop} {Q : Exit → Act → World → Prop} {E : Prop} (hgd : o.guard = none) (s x : Operand)
    (ho : o.op = .call { callee := .builtin .append, args := #[s, x], argTypes := #[29, 29] })
    (base : Nat) (v : Value) (xs ys : List En) (a : Option Addr) (c m q : Nat) (hs : ac.eval s = v) (hown : Own5 w base v xs) (hx : ac.eval x = .slice a m c) (hm : m = ys.length) (hq : (xs ++ ys).length = q) (hr : Row w a ys) (hlen : xs.length + ys.length ≤ 3000) (hbase : base ≤ w.heap.size)
    (h : ∀ a' cap w', Own5 w' base (.slice a' q cap) (xs ++ ys) → w.grownBy w' v.ownBlock → q ≤ cap → K (ac.put o.dst (.slice a' q cap)) w') :
    if Region.wanted o (yielded ops ac.tmps) = true then Oper.wp Try.prog o ac w K Q else E := by
  have hw : Region.wanted o (yielded ops ac.tmps) = true := by simp [Region.wanted, hgd]
  rw [if_pos hw]
  subst hm hq
  obtain ⟨a', cap, w', hr1, h2, h3, h4⟩ := run_append_row w o.type base v xs ys a c hown hr hlen hbase
  unfold Oper.wp execOp
  simp only [ho, resolve, invoke, builtin, Sem.run_bind, Sem.run_pure, Result.andThen_ok, List.map_toArray, List.map_cons, List.map_nil, hs, hx, hr1]
  exact h a' cap w' h2 h3 h4

/-! ### Slicing -/
def tailA (a : Option Addr) (cap k : Nat) : Option Addr := if cap = k then a else a.map (fun x => x.add (k * 5))
theorem slice_head (a : Option Addr) (n cap k : Nat) (w : World) (h : k ≤ n) (hc : n ≤ cap) :
    (Instr.slice 29 (.slice a n cap) none (some (.int .i64 (k : Int))) none).run Try.prog w = .ok (.slice (tailA a cap 0) k cap) w := by
  have hk : k ≤ cap := by omega
  simp [Instr.slice, run_underlying Try.underlying29, Instr.sliceBounds, Instr.sliceBound, asIntOf, Try.sizeOf40, hk, tailA]
theorem slice_tail (a : Option Addr) (n cap k : Nat) (w : World) (h : k ≤ n) (hc : n ≤ cap) :
    (Instr.slice 29 (.slice a n cap) (some (.int .i64 (k : Int))) none none).run Try.prog w = .ok (.slice (tailA a cap k) (n - k) (cap - k)) w := by
  have hk : k ≤ cap := by omega
  simp [Instr.slice, run_underlying Try.underlying29, Instr.sliceBounds, Instr.sliceBound, asIntOf, Try.sizeOf40, h, tailA]
theorem row_take {w : World} {a : Option Addr} {l : List En} (h : Row w a l) (k : Nat) : Row w a (l.take k) :=
  ⟨Nat.le_trans (by rw [List.length_take]; omega) h.few, fun j x hx => h.at_ j x (by
    have hj : j < (l.take k).length := (List.getElem?_eq_some_iff.1 hx).1
    rw [List.length_take] at hj
    rw [List.getElem?_take_of_lt (by omega)] at hx
    exact hx)⟩
theorem row_drop {w : World} {a : Option Addr} {cap : Nat} {l : List En} (h : Row w a l) (k : Nat) (hc : l.length ≤ cap) : Row w (tailA a cap k) (l.drop k) :=
  ⟨Nat.le_trans (by rw [List.length_drop]; omega) h.few, fun j x hx => by
    rw [List.getElem?_drop] at hx
    have hj : k + j < l.length := (List.getElem?_eq_some_iff.1 hx).1
    obtain ⟨g, o, e, hg, q⟩ := h.at_ _ x hx
    subst e
    refine ⟨g, o + k * 5, ?_, hg, ?_⟩
    · unfold tailA
      rw [if_neg (by omega)]
      simp [addr_add]
    · rw [show o + k * 5 + j * 5 = o + (k + j) * 5 by omega]; exact q⟩

theorem row_head {w : World} {a : Option Addr} {cap : Nat} {l : List En} (h : Row w a l) (k : Nat) (hc : l.length ≤ cap) : Row w (tailA a cap 0) (l.take k) := by
  have := row_take (row_drop h 0 hc) k
  rwa [List.drop_zero] at this

theorem rblk_set3 {w : World} {b : Nat} {room : Int} {a : Option Addr} {n cap : Nat} {lr : Int} (h : RBlk w b room a n cap lr) (room' : Int) (a' : Option Addr) (n' cap' : Nat) (lr' : Int) :
    RBlk (((w.setCell ⟨b, 0, none⟩ (.int .i64 room')).setCell ⟨b, 1, none⟩ (.slice a' n' cap')).setCell ⟨b, 2, none⟩ (.int .i64 lr')) b room' a' n' cap' lr' := by
  unfold RBlk at h ⊢
  have s1 := fun (w : World) (cs : Array Value) (i : Nat) (u : Value) (hb : w.heap[b]? = some (.cells cs 31 (0, 0))) => (by
    obtain ⟨hlt, hk⟩ := Array.getElem?_eq_some_iff.1 hb
    show (w.heap.modify b _)[b]? = some (.cells (cs.setIfInBounds i u) 31 (0, 0))
    rw [Array.getElem?_eq_getElem (by rw [Array.size_modify]; exact hlt), Array.getElem_modify_self, hk]
    rfl : (w.setCell ⟨b, i, none⟩ u).heap[b]? = some (.cells (cs.setIfInBounds i u) 31 (0, 0)))
  exact s1 _ _ 2 _ (s1 _ _ 1 _ (s1 _ _ 0 _ h))
theorem RBlk.kept {w w' : World} {b : Nat} {room : Int} {a : Option Addr} {n cap : Nat} {lr : Int} {row : Option Nat} (h : RBlk w b room a n cap lr) (hg : w.grownBy w' row) (hne : some b ≠ row) : RBlk w' b room a n cap lr := (hg.block b h.lt hne).trans h
theorem RBlk.other {w : World} {b c : Nat} {room : Int} {a : Option Addr} {n cap : Nat} {lr : Int} (h : RBlk w b room a n cap lr) (hne : b ≠ c) (j : Nat) (v : Value) : RBlk (w.setCell ⟨c, j, none⟩ v) b room a n cap lr := (Below.heap_setCell w ⟨c, j, none⟩ v b hne).trans h
theorem Row.other {w : World} {a : Option Addr} {l : List En} {n b : Nat} (h : Row w a l) (hf : ∀ g, a = some g → n ≤ g.block) (hb : b < n) (j : Nat) (v : Value) : Row (w.setCell ⟨b, j, none⟩ v) a l :=
  h.kept2 (tb := b) (mb := b) (kept2_set w j v) (fun g e => by have := hf g e; exact ⟨by omega, by omega⟩)
theorem own_ne {w : World} {base b : Nat} {v : Value} {l : List En} (h : Own5 w base v l) (hb : b < base) : some b ≠ v.ownBlock := by
  rcases h.2 with ⟨rfl, _⟩ | ⟨g, cap, _, rfl, hg, _⟩
  · simp [Value.ownBlock]
  · intro e
    have : b = g := by simpa [Value.ownBlock] using e
    omega
theorem Own5.below {w w' : World} {base B : Nat} {v : Value} {l : List En} (h : Own5 w base v l) (hg : w.grownBy w' v.ownBlock) (hB : B ≤ base) (hs : B ≤ w.heap.size) : Below B w w' :=
  (Below.refl B w).grown hg hs (fun k e => by
    rcases h.2 with ⟨rfl, _⟩ | ⟨g, cap, _, rfl, hg', _⟩
    · simp [Value.ownBlock] at e
    · have : g = k := by simpa [Value.ownBlock] using e
      omega)
theorem own_empty (w : World) (base : Nat) (h : base ≤ w.heap.size) : Own5 (w.alloc (.cells #[] 40)) base (.slice (some ⟨w.heap.size, 0, none⟩) 0 0) [] :=
  ⟨rfl, .inr ⟨w.heap.size, 0, #[], rfl, h, heap_alloc_new w _, Nat.le_refl _, Nat.zero_le _, rfl, rfl⟩⟩

theorem below_two {W X Y : World} {base : Nat} (hb : base = W.heap.size) (h : Below W.heap.size W X) (k : Below base X Y) : Below W.heap.size W Y := h.trans (hb ▸ k)

/-! ### without -/
set_option maxHeartbeats 4000000 in
theorem without_w (room : Int) (a : Option Addr) (cap : Nat) (lr : Int) (l : List En) (k : Nat) (w : World) (hr : Row w a l) (hc : l.length ≤ cap) (hk : k < l.length) :
    Calls Try.prog 41 #[rv room a l.length cap lr, .int .i64 (k : Nat)] w fun e w' => ∃ a' cap', e = .returned (rv room a' (l.eraseIdx k).length cap' lr) ∧ Row w' a' (l.eraseIdx k) ∧ (l.eraseIdx k).length ≤ cap' ∧ Below w.heap.size w w' := by
  have hn1 := hr.few
  obtain ⟨W, hW⟩ : ∃ W, W = (w.alloc (.cells #[.int .i64 room, .slice a l.length cap, .int .i64 lr] 31)).alloc (.cells #[.int .i64 0, .slice none 0 0, .int .i64 0] 31) := ⟨_, rfl⟩
  have hB : Below w.heap.size w W := by rw [hW]; exact bw_alloc (below_box _ _) _
  have kW : RBlk W w.heap.size room a l.length cap lr := by rw [hW]; exact (rblk_new _ _ _ _ _ _).next (below_box _ _)
  have rW : RBlk W (w.heap.size + 1) 0 none 0 0 0 := by rw [hW, ← size_box w (.cells #[.int .i64 room, .slice a l.length cap, .int .i64 lr] 31)]; exact rblk_new _ _ _ _ _ _
  have HR := Lib.hid (hr.next hB)
  obtain ⟨n, hn⟩ : ∃ n, l.length = n := ⟨_, rfl⟩
  have HN := Lib.hid hn
  rw [hn] at hn1 hc hk kW hW ⊢
  clear hn hr
  go_enter Try.func41, Try.ntmps41
  go_wp2_with fail
  rw [← hW]
  obtain ⟨b, hb⟩ : ∃ b, b = w.heap.size := ⟨_, rfl⟩
  rw [← hb] at kW rW ⊢
  obtain ⟨base, hbase⟩ : ∃ base, base = W.heap.size := ⟨_, rfl⟩
  have lb := kW.lt
  have lb1 := rW.lt
  rw [← hbase] at lb lb1
  have hw1 : IntKind.i64.wrap ((k : Int) + 1) = (k : Int) + 1 := by rw [IntKind.wrap_i64]; omega
  have hbw : w.heap.size ≤ b := Nat.le_of_eq hb.symm
  have hbw1 : w.heap.size ≤ b + 1 := Nat.le_succ_of_le hbw
  have hs1 := fun w => slice_head a n cap k w (by omega) hc
  have hs2 := fun w => slice_tail a n cap (k + 1) w (by omega) hc
  simp only [Int.natCast_add, Int.natCast_one] at hs2
  have c1 := kW.cells.2.1
  have c1d : (W.alloc (.cells #[] 40)).cell? ⟨b, 1, none⟩ = some (.slice a n cap) := (kW.next (below_box W _)).cells.2.1
  have HB := Lib.hid hB
  have KW := Lib.hid kW
  have RW := Lib.hid rW
  have HO0 := Lib.hid (show Own5 (W.alloc (.cells #[] 40)).drew base (.slice (some ⟨W.heap.size, 0, none⟩) 0 0) [] from own_empty W base (by omega))
  have HR0 := Lib.hid (row_head (HR.out.next ((below_box W (.cells #[] 40)).drew)) k (by rw [HN.out]; exact hc))
  have htk : (l.take k).length = k := by rw [List.length_take, HN.out]; omega
  have hdk : (l.drop (k + 1)).length = n - (k + 1) := by rw [List.length_drop, HN.out]
  have hA1 : ([] : List En).length + (l.take k).length ≤ 3000 := by rw [htk]; simp; omega
  have hA2 : ([] ++ l.take k : List En).length + (l.drop (k + 1)).length ≤ 3000 := by rw [List.nil_append, htk, hdk]; omega
  have hS1 : base ≤ (W.alloc (.cells #[] 40)).heap.size := by rw [size_box]; omega
  have hne1 : some b ≠ (Value.slice (some ⟨W.heap.size, 0, none⟩) 0 0).ownBlock := by
    intro e
    have : b = W.heap.size := by simpa [Value.ownBlock] using e
    omega
  have BW0 : Below W.heap.size W (W.alloc (.cells #[] 40)).drew := (below_box _ _).drew
  clear hW hB kW rW hb
  have hq1 : ([] ++ l.take k : List En).length = k := by rw [List.nil_append, htk]
  have hq2 : (([] ++ l.take k) ++ l.drop (k + 1) : List En).length = n - 1 := by rw [List.length_append, hq1, hdk]; omega
  go_region_law (first
    | (refine step_append_row _ (by rfl) _ _ (by rfl) base (.slice (some ⟨W.heap.size, 0, none⟩) 0 0) [] (l.take k) (tailA a cap 0) cap k k (by rfl) (by exact HO0.out) (by rfl) htk.symm hq1 (by exact HR0.out) hA1 (by exact hS1) ?_; intro a1 cap1 y1 hown1 hgrow1 hc1; have KY := Lib.hid ((KW.out.next ((below_box W (.cells #[] 40)).drew)).kept (w' := y1) hgrow1 hne1); have T1 := KY.out.cells.2.1; have HY := Lib.hid hown1; have BY := Lib.hid (HO0.out.below (w' := y1) hgrow1 (Nat.le_refl _) hS1); have hz1 : base ≤ y1.heap.size := Nat.le_trans hS1 hgrow1.size; have BW1 := below_two hbase BW0 BY.out; have HR1 := Lib.hid (row_drop (HR.out.next BW1) (k + 1) (by rw [HN.out]; exact hc)))
    | (refine step_append_row _ (by rfl) _ _ (by rfl) base (.slice a1 k cap1) ([] ++ l.take k) (l.drop (k + 1)) (tailA a cap (k + 1)) (cap - (k + 1)) (n - (k + 1)) (n - 1) (by rfl) (by exact HY.out) (by rfl) hdk.symm hq2 (by exact HR1.out) hA2 (by exact hz1) ?_; intro a2 cap2 y2 hown2 hgrow2 hc2; have KZ := Lib.hid (KY.out.kept (w' := y2) hgrow2 (own_ne HY.out lb)); have T2 := KZ.out.cells.2.1; have F2 := KZ.out.free 1; have BZ := Lib.hid (BY.out.trans (HY.out.below (w' := y2) hgrow2 (Nat.le_refl _) hz1))))
  all_goals (
    have hrow := row_owned hown2 (by rw [hq2]; omega)
    obtain ⟨a', cap', e, _, hrow, hfresh⟩ := hrow
    injection e with e1 e2 e3
    subst e1
    have hfr : ∀ g, a2 = some g → base ≤ g.block := fun g e => (hfresh g e).2.2.1
    have RZ := ((RW.out.below BW1 (by omega)).kept (w' := y2) hgrow2 (own_ne HY.out lb1)).other (c := b) (by omega) 1 (.slice a2 (n - 1) cap2)
    have KV := KZ.out.set1 a2 (n - 1) cap2
    have BV : Below base (W.alloc (.cells #[] 40)).drew (y2.setCell ⟨b, 1, none⟩ (.slice a2 (n - 1) cap2)) ∨ True := .inr trivial
    have hrV := hrow.other hfr lb 1 (.slice a2 (n - 1) cap2)
    have hBV : Below w.heap.size w (y2.setCell ⟨b, 1, none⟩ (.slice a2 (n - 1) cap2)) := (HB.out.trans ((below_two hbase BW0 BZ.out).mono HB.out.size)).setCell (p := ⟨b, 1, none⟩) hbw _
    obtain ⟨V, hV⟩ : ∃ V, V = y2.setCell ⟨b, 1, none⟩ (.slice a2 (n - 1) cap2) := ⟨_, rfl⟩
    rw [← hV] at RZ KV hrV hBV ⊢
    obtain ⟨x0, x1, x2⟩ := KV.cells
    obtain ⟨z0, z1, z2⟩ := RZ.cells
    have f0 := RZ.free 0
    have f1 := RZ.free 1
    have f2 := RZ.free 2
    have HE := Lib.hid (And.intro hrV hBV)
    have HRZ := Lib.hid RZ
    clear hV T2 F2 T1 hrow hfresh RZ KV hrV hBV BV e2 e3 hs1 hs2 c1 c1d hown1 hown2 hgrow1 hgrow2
    go_wp2
    have kf := rblk_set3 HRZ.out room a2 (n - 1) cap2 lr
    have hBF := ((HE.out.2.setCell (p := ⟨b + 1, 0, none⟩) hbw1 (.int .i64 room)).setCell (p := ⟨b + 1, 1, none⟩) hbw1 (.slice a2 (n - 1) cap2)).setCell (p := ⟨b + 1, 2, none⟩) hbw1 (.int .i64 lr)
    have hrF := ((HE.out.1.other hfr lb1 0 (.int .i64 room)).other hfr lb1 1 (.slice a2 (n - 1) cap2)).other hfr lb1 2 (.int .i64 lr)
    have he : [] ++ l.take k ++ l.drop (k + 1) = l.eraseIdx k := by rw [List.nil_append, List.eraseIdx_eq_take_drop_succ]
    rw [he] at hrF hq2
    generalize ((V.setCell ⟨b + 1, 0, none⟩ (.int .i64 room)).setCell ⟨b + 1, 1, none⟩ (.slice a2 (n - 1) cap2)).setCell ⟨b + 1, 2, none⟩ (.int .i64 lr) = Vf at kf hBF hrF ⊢
    obtain ⟨y0, y1', y2'⟩ := kf.cells
    exact bodyPost_ret (v := rv room a2 (n - 1) cap2 lr) (by simp [results, Try.results41, go_sem, y0, y1', y2']) rfl ⟨a2, cap2, by rw [hq2], hrF, by rw [hq2]; exact hc2, hBF⟩)
end Go.Proofs.Ytkpfdaomhkcokaa
