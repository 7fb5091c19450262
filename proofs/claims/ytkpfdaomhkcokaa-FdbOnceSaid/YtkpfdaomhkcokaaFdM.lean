/-
  The document's own functions of layer 7: with.
-/
import Derived.Test.YtkpfdaomhkcokaaFdL
namespace Go.Proofs.Ytkpfdaomhkcokaa
set_option linter.unusedVariables false
set_option linter.unusedSimpArgs false
open Go.RowKit Go.Maps Dm

/-- Block b is an entry of the document's. -/
def FBlk (w : World) (b : Nat) (x : En) : Prop := w.heap[b]? = some (.cells #[.int .i64 x.vlan, .string x.mac, .int .i64 x.port, .int .i64 x.heard, .bool x.fixed] 40 (0, 0))
theorem FBlk.lt {w : World} {b : Nat} {x : En} (h : FBlk w b x) : b < w.heap.size := (Array.getElem?_eq_some_iff.1 h).1
theorem FBlk.below {w w' : World} {b B : Nat} {x : En} (h : FBlk w b x) (hb : Below B w w') (hB : b < B) : FBlk w' b x := (hb.block b hB).trans h
theorem FBlk.next {w w' : World} {b : Nat} {x : En} (h : FBlk w b x) (hb : Below w.heap.size w w') : FBlk w' b x := h.below hb h.lt
theorem FBlk.kept {w w' : World} {b : Nat} {x : En} {row : Option Nat} (h : FBlk w b x) (hg : w.grownBy w' row) (hne : some b ≠ row) : FBlk w' b x := (hg.block b h.lt hne).trans h
theorem fblk_new (w : World) (v : Int) (m : ByteArray) (p hh : Int) (f : Bool) : FBlk (w.alloc (.cells #[.int .i64 v, .string m, .int .i64 p, .int .i64 hh, .bool f] 40)) w.heap.size ⟨v, m, p, hh, f⟩ := heap_alloc_new w _
theorem FBlk.cells {w : World} {b : Nat} {v : Int} {m : ByteArray} {p hh : Int} {f : Bool} (H : FBlk w b ⟨v, m, p, hh, f⟩) :
    w.cell? ⟨b, 0, none⟩ = some (.int .i64 v) ∧ w.cell? ⟨b, 1, none⟩ = some (.string m) ∧ w.cell? ⟨b, 2, none⟩ = some (.int .i64 p) ∧ w.cell? ⟨b, 3, none⟩ = some (.int .i64 hh) ∧ w.cell? ⟨b, 4, none⟩ = some (.bool f) := by
  unfold FBlk at H
  refine ⟨?_, ?_, ?_, ?_, ?_⟩ <;> simp [World.cell?, H]
/-- One entry in a block of its own is a row. -/
theorem row_one {w : World} {b : Nat} {x : En} (h : FBlk w b x) : Row w (some ⟨b, 0, none⟩) [x] :=
  ⟨by simp, fun j y hy => by
    cases j with
    | succ j => simp at hy
    | zero =>
      simp at hy
      subst hy
      obtain ⟨v, m, p, hh, f⟩ := x
      exact ⟨b, 0, rfl, h.lt, h.cells⟩⟩
/-- Behind an append. -/
theorem below_own {W X Y : World} {base : Nat} {v : Value} {l : List En} (hb : base = W.heap.size) (h : Below W.heap.size W X) (ho : Own5 X base v l) (hg : X.grownBy Y v.ownBlock) : Below W.heap.size W Y :=
  h.trans (hb ▸ ho.below hg (Nat.le_refl _) (hb ▸ h.size))

set_option maxRecDepth 20000 in
set_option maxHeartbeats 8000000 in
theorem with_there (room : Int) (a : Option Addr) (cap : Nat) (lr : Int) (l : List En) (x : En) (w : World) (hr : Row w a l) (hc : l.length ≤ cap) (hh1 : l.length ≤ 900) (hth : (placeR l x.key).2 = true) :
    Calls Try.prog 42 #[rv room a l.length cap lr, ev x] w fun e w' => ∃ a' cap', e = .returned (rv room a' (putR l x).length cap' lr) ∧ Row w' a' (putR l x) ∧ (putR l x).length ≤ cap' ∧ Below w.heap.size w w' := by
  obtain ⟨v, m, p, hh, f⟩ := x
  have hput := put_place l ⟨v, m, p, hh, f⟩
  have hple := place_le l (En.key ⟨v, m, p, hh, f⟩)
  obtain ⟨P, hP⟩ : ∃ P, (placeR l (En.key ⟨v, m, p, hh, f⟩)).1 = P := ⟨_, rfl⟩
  rw [hP, hth] at hput hple
  simp only [if_true, Bool.false_eq_true, if_false] at hput
  have hPR : P + 1 ≤ l.length := by have := hple.2 rfl; omega
  have hkey : En.key ⟨v, m, p, hh, f⟩ = (⟨v, m⟩ : Ky) := rfl
  rw [hkey] at hP hth
  obtain ⟨X1, hX1⟩ : ∃ X, X = w.alloc (.cells #[.int .i64 room, .slice a l.length cap, .int .i64 lr] 31) := ⟨_, rfl⟩
  obtain ⟨W, hW⟩ : ∃ W, W = (X1.alloc (.cells #[.int .i64 v, .string m, .int .i64 p, .int .i64 hh, .bool f] 40)).alloc (.cells #[.int .i64 0, .slice none 0 0, .int .i64 0] 31) := ⟨_, rfl⟩
  have s1 : X1.heap.size = w.heap.size + 1 := by rw [hX1]; exact size_box _ _
  have hB1 : Below w.heap.size w X1 := by rw [hX1]; exact below_box _ _
  have hB : Below w.heap.size w W := by rw [hW]; exact bw_alloc (bw_alloc hB1 _) _
  have hX1W : Below X1.heap.size X1 W := by rw [hW]; exact bw_alloc (below_box _ _) _
  have kW : RBlk W w.heap.size room a l.length cap lr := by have h : RBlk X1 w.heap.size room a l.length cap lr := (by rw [hX1]; exact rblk_new _ _ _ _ _ _); exact h.next hX1W
  have eW : FBlk W (w.heap.size + 1) ⟨v, m, p, hh, f⟩ := by rw [hW, ← s1]; exact (fblk_new X1 v m p hh f).next (below_box _ _)
  have rW : RBlk W (w.heap.size + 2) 0 none 0 0 0 := by
    have s2 : (X1.alloc (.cells #[.int .i64 v, .string m, .int .i64 p, .int .i64 hh, .bool f] 40)).heap.size = w.heap.size + 2 := by rw [size_box, s1]
    rw [hW, ← s2]; exact rblk_new _ _ _ _ _ _
  have HR0 := Lib.hid (hr.next hB)
  have hcall := place_w room a cap lr l v m W (hr.next hB)
  rw [hP, hth] at hcall
  obtain ⟨n, hn⟩ : ∃ n, l.length = n := ⟨_, rfl⟩
  have HN := Lib.hid hn
  have HPUT := Lib.hid hput
  rw [hn] at hc hh1 hPR kW hcall hX1 ⊢
  clear hn hr hput hple hP hth hkey s1 hB1 hX1W
  obtain ⟨j0, j1, j2⟩ := kW.cells
  obtain ⟨i0, i1, i2, i3, i4⟩ := eW.cells
  have hs1 := fun w => slice_head a n cap P w (by omega) hc
  have hs2 := fun w => slice_tail a n cap P w (by omega) hc
  have hs3 := fun w => slice_tail a n cap (P + 1) w (by omega) hc
  simp only [Int.natCast_add, Int.natCast_one] at hs3
  have hw1 : IntKind.i64.wrap ((P : Int) + 1) = (P : Int) + 1 := by rw [IntKind.wrap_i64]; omega
  have KW0 := Lib.hid kW
  have EW0 := Lib.hid eW
  have RW0 := Lib.hid rW
  have HB0 := Lib.hid hB
  clear hB kW eW rW
  go_enter Try.func42, Try.ntmps42
  go_wp2_with (go_at_call 32; rw [← hX1, ← hW]; refine hcall.mono ?_; clear hcall; rintro e w1 ⟨rfl, hG⟩; have kW := KW0.out.next hG.below; obtain ⟨k0, k1, k2⟩ := kW.cells; have eW := EW0.out.next hG.below; obtain ⟨e0, e1, e2, e3, e4⟩ := eW.cells)
  have HB := Lib.hid (HB0.out.trans (hG.below.mono HB0.out.size))
  have HR := Lib.hid (HR0.out.next hG.below)
  have RW := Lib.hid (RW0.out.next hG.below)
  have KW := Lib.hid kW
  have EW := Lib.hid eW
  have lb := kW.lt
  have le := eW.lt
  have lb2 := RW.out.lt
  obtain ⟨b, hb⟩ : ∃ b, b = w.heap.size := ⟨_, rfl⟩
  have hbw : w.heap.size ≤ b := Nat.le_of_eq hb.symm
  have hbw2 : w.heap.size ≤ b + 2 := Nat.le_trans hbw (by omega)
  rw [← hb] at KW EW RW lb le lb2 k0 k1 k2 e0 e1 e2 e3 e4 ⊢
  clear hG kW eW KW0 EW0 RW0 HB0 HR0 hX1 hW hb j0 j1 j2 i0 i1 i2 i3 i4 k0 k2
  clear X1 W
  obtain ⟨base, hbase⟩ : ∃ base, base = w1.heap.size := ⟨_, rfl⟩
  rw [← hbase] at lb le lb2
  have O1 := Lib.hid (show Own5 (w1.alloc (.cells #[] 40)).drew base (Value.slice (some ⟨w1.heap.size, 0, none⟩) 0 0) [] from own_empty w1 base (by omega))
  have O2 := Lib.hid (show Own5 ((w1.alloc (.cells #[] 40)).alloc (.cells #[.int .i64 v, .string m, .int .i64 p, .int .i64 hh, .bool f] 40)).drew base (Value.slice (some ⟨w1.heap.size, 0, none⟩) 0 0) [] from (own_empty w1 base (by omega)).alloc (.cells #[.int .i64 v, .string m, .int .i64 p, .int .i64 hh, .bool f] 40))
  have O3 := Lib.hid (show Own5 ((w1.alloc (.cells #[.int .i64 v, .string m, .int .i64 p, .int .i64 hh, .bool f] 40)).alloc (.cells #[] 40)).drew base (Value.slice (some ⟨w1.heap.size + 1, 0, none⟩) 0 0) [] from by have h := own_empty (w1.alloc (.cells #[.int .i64 v, .string m, .int .i64 p, .int .i64 hh, .bool f] 40)) base (by rw [size_box]; omega); rw [size_box] at h; exact h)
  have B1 : Below w1.heap.size w1 (w1.alloc (.cells #[] 40)).drew := (below_box _ _).drew
  have B2 : Below w1.heap.size w1 ((w1.alloc (.cells #[] 40)).alloc (.cells #[.int .i64 v, .string m, .int .i64 p, .int .i64 hh, .bool f] 40)).drew := (bw_alloc (below_box _ _) _).drew
  have B3 : Below w1.heap.size w1 ((w1.alloc (.cells #[.int .i64 v, .string m, .int .i64 p, .int .i64 hh, .bool f] 40)).alloc (.cells #[] 40)).drew := (bw_alloc (below_box _ _) _).drew
  have z1 : base ≤ (w1.alloc (.cells #[] 40)).drew.heap.size := Nat.le_trans (Nat.le_of_eq hbase) B1.size
  have z2 : base ≤ ((w1.alloc (.cells #[] 40)).alloc (.cells #[.int .i64 v, .string m, .int .i64 p, .int .i64 hh, .bool f] 40)).drew.heap.size := Nat.le_trans (Nat.le_of_eq hbase) B2.size
  have z3 : base ≤ ((w1.alloc (.cells #[.int .i64 v, .string m, .int .i64 p, .int .i64 hh, .bool f] 40)).alloc (.cells #[] 40)).drew.heap.size := Nat.le_trans (Nat.le_of_eq hbase) B3.size
  have R1 := Lib.hid (row_head (HR.out.next B1) P (by rw [HN.out]; exact hc))
  have R2 := Lib.hid (row_head (HR.out.next B2) P (by rw [HN.out]; exact hc))
  have R3 := Lib.hid (row_head (HR.out.next B3) P (by rw [HN.out]; exact hc))
  have G2 := Lib.hid (show FBlk ((w1.alloc (.cells #[] 40)).alloc (.cells #[.int .i64 v, .string m, .int .i64 p, .int .i64 hh, .bool f] 40)).drew (w1.heap.size + 1) ⟨v, m, p, hh, f⟩ from by have h := fblk_new (w1.alloc (.cells #[] 40)) v m p hh f; rw [size_box] at h; exact h)
  have G3 := Lib.hid (show FBlk ((w1.alloc (.cells #[.int .i64 v, .string m, .int .i64 p, .int .i64 hh, .bool f] 40)).alloc (.cells #[] 40)).drew w1.heap.size ⟨v, m, p, hh, f⟩ from (fblk_new w1 v m p hh f).next ((below_box _ _).drew))
  have N2 : some (w1.heap.size + 1) ≠ (Value.slice (some ⟨w1.heap.size, 0, none⟩) 0 0).ownBlock := by intro e; have : w1.heap.size + 1 = w1.heap.size := (by simp [Value.ownBlock] at e); omega
  have N3 : some w1.heap.size ≠ (Value.slice (some ⟨w1.heap.size + 1, 0, none⟩) 0 0).ownBlock := by intro e; have : w1.heap.size = w1.heap.size + 1 := (by simp [Value.ownBlock] at e); omega
  have htk : (l.take P).length = P := by rw [List.length_take, HN.out]; omega
  have hdk : (l.drop (P + 1)).length = n - (P + 1) := by rw [List.length_drop, HN.out]
  have hq1 : ([] ++ l.take P : List En).length = P := by rw [List.nil_append, htk]
  have hq2 : (([] ++ l.take P) ++ [⟨v, m, p, hh, f⟩] : List En).length = P + 1 := by rw [List.length_append, hq1]; rfl
  have hq3 : ((([] ++ l.take P) ++ [⟨v, m, p, hh, f⟩]) ++ l.drop (P + 1) : List En).length = P + 1 + (n - (P + 1)) := by rw [List.length_append, hq2, hdk]
  have hA1 : ([] : List En).length + (l.take P).length ≤ 3000 := by rw [htk]; simp; omega
  have hA2 : ([] ++ l.take P : List En).length + ([⟨v, m, p, hh, f⟩] : List En).length ≤ 3000 := by rw [hq1]; simp; omega
  have hA3 : (([] ++ l.take P) ++ [⟨v, m, p, hh, f⟩] : List En).length + (l.drop (P + 1)).length ≤ 3000 := by rw [hq2, hdk]; omega
  obtain ⟨N, hN⟩ : ∃ N, P + 1 + (n - (P + 1)) = N := ⟨_, rfl⟩
  rw [hN] at hq3
  have HQ := Lib.hid (And.intro (And.intro hq1 hq2) (And.intro hq3 hN))
  have HL := Lib.hid (And.intro htk hdk)
  have HAA := Lib.hid (And.intro hA1 (And.intro hA2 hA3))
  have Htrue := Lib.hid (And.intro B1 (And.intro B2 B3))
  have HZZ := Lib.hid (And.intro z1 (And.intro z2 z3))
  have hc1 := k1
  have c1a := ((KW.out.next (below_box w1 (.cells #[] 40))).cells).2.1
  have c1b := ((KW.out.next (below_box w1 (.cells #[.int .i64 v, .string m, .int .i64 p, .int .i64 hh, .bool f] 40))).cells).2.1
  have c1c := ((KW.out.next (bw_alloc (below_box w1 (.cells #[] 40)) (.cells #[.int .i64 v, .string m, .int .i64 p, .int .i64 hh, .bool f] 40))).cells).2.1
  have c1d := ((KW.out.next (bw_alloc (below_box w1 (.cells #[.int .i64 v, .string m, .int .i64 p, .int .i64 hh, .bool f] 40)) (.cells #[] 40))).cells).2.1
  obtain ⟨ea0, ea1, ea2, ea3, ea4⟩ := (EW.out.next (below_box w1 (.cells #[] 40))).cells
  clear hq1 hq2 hq3 hN htk hdk hA1 hA2 hA3 B1 B2 B3 z1 z2 z3
  go_region_law (first
    | (refine step_append_row _ (by rfl) _ _ (by rfl) base (Value.slice (some ⟨w1.heap.size, 0, none⟩) 0 0) [] (l.take P) (tailA a cap 0) cap P P (by rfl) (by exact O1.out) (by rfl) HL.out.1.symm HQ.out.1.1 (by exact R1.out) HAA.out.1 (by exact HZZ.out.1) ?_; intro a1 cap1 y1 hown1 hgrow1 hc1'; have BY := below_own hbase (X := (w1.alloc (.cells #[] 40)).drew) (Y := y1) Htrue.out.1 O1.out hgrow1; have KY := Lib.hid (KW.out.next BY); have T1 := KY.out.cells.2.1; have EY := Lib.hid (EW.out.next BY); obtain ⟨f0, f1, f2, f3, f4⟩ := EY.out.cells; have HY := Lib.hid hown1; have HR1 := Lib.hid (row_drop (HR.out.next BY) (P + 1) (by rw [HN.out]; exact hc)); have zy : base ≤ y1.heap.size := Nat.le_trans (Nat.le_of_eq hbase) BY.size; have HBY := Lib.hid BY)
    | (refine step_append_row _ (by rfl) _ _ (by rfl) base (Value.slice (some ⟨w1.heap.size, 0, none⟩) 0 0) [] (l.take P) (tailA a cap 0) cap P P (by rfl) (by exact O2.out) (by rfl) HL.out.1.symm HQ.out.1.1 (by exact R2.out) HAA.out.1 (by exact HZZ.out.2.1) ?_; intro a1 cap1 y1 hown1 hgrow1 hc1'; have BY := below_own hbase (X := ((w1.alloc (.cells #[] 40)).alloc (.cells #[.int .i64 v, .string m, .int .i64 p, .int .i64 hh, .bool f] 40)).drew) (Y := y1) Htrue.out.2.1 O2.out hgrow1; have KY := Lib.hid (KW.out.next BY); have T1 := KY.out.cells.2.1; have EY := Lib.hid (EW.out.next BY); obtain ⟨f0, f1, f2, f3, f4⟩ := EY.out.cells; have HY := Lib.hid hown1; have HR1 := Lib.hid (row_drop (HR.out.next BY) (P + 1) (by rw [HN.out]; exact hc)); have zy : base ≤ y1.heap.size := Nat.le_trans (Nat.le_of_eq hbase) BY.size; have HBY := Lib.hid BY; have RE := Lib.hid (row_one (G2.out.kept (w' := y1) hgrow1 N2)))
    | (refine step_append_row _ (by rfl) _ _ (by rfl) base (Value.slice (some ⟨w1.heap.size + 1, 0, none⟩) 0 0) [] (l.take P) (tailA a cap 0) cap P P (by rfl) (by exact O3.out) (by rfl) HL.out.1.symm HQ.out.1.1 (by exact R3.out) HAA.out.1 (by exact HZZ.out.2.2) ?_; intro a1 cap1 y1 hown1 hgrow1 hc1'; have BY := below_own hbase (X := ((w1.alloc (.cells #[.int .i64 v, .string m, .int .i64 p, .int .i64 hh, .bool f] 40)).alloc (.cells #[] 40)).drew) (Y := y1) Htrue.out.2.2 O3.out hgrow1; have KY := Lib.hid (KW.out.next BY); have T1 := KY.out.cells.2.1; have EY := Lib.hid (EW.out.next BY); obtain ⟨f0, f1, f2, f3, f4⟩ := EY.out.cells; have HY := Lib.hid hown1; have HR1 := Lib.hid (row_drop (HR.out.next BY) (P + 1) (by rw [HN.out]; exact hc)); have zy : base ≤ y1.heap.size := Nat.le_trans (Nat.le_of_eq hbase) BY.size; have HBY := Lib.hid BY; have RE3 := Lib.hid (row_one (G3.out.kept (w' := y1) hgrow1 N3)))
    | (refine step_append_row _ (by rfl) _ _ (by rfl) base (.slice a1 P cap1) ([] ++ l.take P) [⟨v, m, p, hh, f⟩] (some ⟨y1.heap.size, 0, none⟩) 1 1 (P + 1) (by rfl) (by exact HY.out.alloc (.cells #[.int .i64 v, .string m, .int .i64 p, .int .i64 hh, .bool f] 40)) (by rfl) rfl HQ.out.1.2 (by exact row_one (fblk_new y1 v m p hh f)) HAA.out.2.1 (by exact (by rw [size_box]; omega)) ?_; intro a2 cap2 y2 hown2 hgrow2 hc2; have BZ := below_own hbase (X := (y1.alloc (.cells #[.int .i64 v, .string m, .int .i64 p, .int .i64 hh, .bool f] 40))) (Y := y2) (bw_alloc HBY.out (.cells #[.int .i64 v, .string m, .int .i64 p, .int .i64 hh, .bool f] 40)) (HY.out.alloc (.cells #[.int .i64 v, .string m, .int .i64 p, .int .i64 hh, .bool f] 40)) hgrow2; have HZ := Lib.hid hown2; have HR2 := Lib.hid (row_drop (HR.out.next BZ) (P + 1) (by rw [HN.out]; exact hc)); have zz : base ≤ y2.heap.size := Nat.le_trans (Nat.le_of_eq hbase) BZ.size; have HBZ := Lib.hid BZ)
    | (refine step_append_row _ (by rfl) _ _ (by rfl) base (.slice a1 P cap1) ([] ++ l.take P) [⟨v, m, p, hh, f⟩] (some ⟨w1.heap.size + 1, 0, none⟩) 1 1 (P + 1) (by rfl) (by exact HY.out) (by rfl) rfl HQ.out.1.2 (by exact RE.out) HAA.out.2.1 (by exact zy) ?_; intro a2 cap2 y2 hown2 hgrow2 hc2; have BZ := below_own hbase (X := y1) (Y := y2) HBY.out (HY.out) hgrow2; have HZ := Lib.hid hown2; have HR2 := Lib.hid (row_drop (HR.out.next BZ) (P + 1) (by rw [HN.out]; exact hc)); have zz : base ≤ y2.heap.size := Nat.le_trans (Nat.le_of_eq hbase) BZ.size; have HBZ := Lib.hid BZ)
    | (refine step_append_row _ (by rfl) _ _ (by rfl) base (.slice a1 P cap1) ([] ++ l.take P) [⟨v, m, p, hh, f⟩] (some ⟨w1.heap.size, 0, none⟩) 1 1 (P + 1) (by rfl) (by exact HY.out) (by rfl) rfl HQ.out.1.2 (by exact RE3.out) HAA.out.2.1 (by exact zy) ?_; intro a2 cap2 y2 hown2 hgrow2 hc2; have BZ := below_own hbase (X := y1) (Y := y2) HBY.out (HY.out) hgrow2; have HZ := Lib.hid hown2; have HR2 := Lib.hid (row_drop (HR.out.next BZ) (P + 1) (by rw [HN.out]; exact hc)); have zz : base ≤ y2.heap.size := Nat.le_trans (Nat.le_of_eq hbase) BZ.size; have HBZ := Lib.hid BZ)
    | (refine step_append_row _ (by rfl) _ _ (by rfl) base (.slice a2 (P + 1) cap2) (([] ++ l.take P) ++ [⟨v, m, p, hh, f⟩]) (l.drop (P + 1)) (tailA a cap (P + 1)) (cap - (P + 1)) (n - (P + 1)) N (by rfl) (by exact HZ.out) (by rfl) HL.out.2.symm HQ.out.2.1 (by exact HR2.out) HAA.out.2.2 (by exact zz) ?_; intro a3 cap3 y3 hown3 hgrow3 hc3; have BV := below_own hbase (X := y2) (Y := y3) HBZ.out HZ.out hgrow3; have KV := Lib.hid (KW.out.next BV); have T3 := KV.out.cells.2.1; have F3 := KV.out.free 1; have HBV := Lib.hid BV))
  all_goals (
    have hrow := row_owned hown3 (by rw [HQ.out.2.1]; have := HQ.out.2.2; omega)
    obtain ⟨a', cap', e, _, hrow, hfresh⟩ := hrow
    injection e with e1' e2' e3'
    subst e1'
    have hfr : ∀ g, a3 = some g → base ≤ g.block := fun g e => (hfresh g e).2.2.1
    have RZ := (RW.out.next HBV.out).other (c := b) (by omega) 1 (.slice a3 N cap3)
    have KV2 := KV.out.set1 a3 N cap3
    have hrV := hrow.other hfr lb 1 (.slice a3 N cap3)
    have hBV : Below w.heap.size w (y3.setCell ⟨b, 1, none⟩ (.slice a3 N cap3)) := (HB.out.trans (HBV.out.mono HB.out.size)).setCell (p := ⟨b, 1, none⟩) hbw _
    obtain ⟨V, hV⟩ : ∃ V, V = y3.setCell ⟨b, 1, none⟩ (.slice a3 N cap3) := ⟨_, rfl⟩
    rw [← hV] at RZ KV2 hrV hBV ⊢
    obtain ⟨x0, x1, x2⟩ := KV2.cells
    have z0 : V.cell? ⟨b + 1 + 1, 0, none⟩ = some (.int .i64 0) := RZ.cells.1
    have z1 : V.cell? ⟨b + 1 + 1, 1, none⟩ = some (.slice none 0 0) := RZ.cells.2.1
    have z2 : V.cell? ⟨b + 1 + 1, 2, none⟩ = some (.int .i64 0) := RZ.cells.2.2
    have f0' : V.frozen? ⟨b + 1 + 1, 0, none⟩ = false := RZ.free 0
    have f1' : V.frozen? ⟨b + 1 + 1, 1, none⟩ = false := RZ.free 1
    have f2' : V.frozen? ⟨b + 1 + 1, 2, none⟩ = false := RZ.free 2
    have HE := Lib.hid (And.intro hrV hBV)
    have HRZ := Lib.hid RZ
    clear hV hrow hfresh RZ KV2 hrV hBV e2' e3' hs1 hs2 hown1 hown2 hown3 hgrow1 hgrow2 hgrow3 T1 T3 F3 BY BZ BV
    go_wp2
    have kf := rblk_set3 HRZ.out room a3 N cap3 lr
    have hBF := ((HE.out.2.setCell (p := ⟨b + 1 + 1, 0, none⟩) hbw2 (.int .i64 room)).setCell (p := ⟨b + 1 + 1, 1, none⟩) hbw2 (.slice a3 N cap3)).setCell (p := ⟨b + 1 + 1, 2, none⟩) hbw2 (.int .i64 lr)
    have hrF := ((HE.out.1.other hfr lb2 0 (.int .i64 room)).other hfr lb2 1 (.slice a3 N cap3)).other hfr lb2 2 (.int .i64 lr)
    have he : (([] ++ l.take P) ++ [⟨v, m, p, hh, f⟩]) ++ l.drop (P + 1) = putR l ⟨v, m, p, hh, f⟩ := by rw [HPUT.out]; simp
    rw [he] at hrF
    have hNN : (putR l ⟨v, m, p, hh, f⟩).length = N := by rw [← he]; exact HQ.out.2.1
    have hcl : ∀ Vf, RBlk Vf (b + 2) room a3 N cap3 lr → Vf.cell? ⟨b + 1 + 1, 0, none⟩ = some (.int .i64 room) ∧ Vf.cell? ⟨b + 1 + 1, 1, none⟩ = some (.slice a3 N cap3) ∧ Vf.cell? ⟨b + 1 + 1, 2, none⟩ = some (.int .i64 lr) := fun Vf h => h.cells
    change RBlk (((V.setCell ⟨b + 1 + 1, 0, none⟩ (.int .i64 room)).setCell ⟨b + 1 + 1, 1, none⟩ (.slice a3 N cap3)).setCell ⟨b + 1 + 1, 2, none⟩ (.int .i64 lr)) _ _ _ _ _ _ at kf
    change Row (((V.setCell ⟨b + 1 + 1, 0, none⟩ (.int .i64 room)).setCell ⟨b + 1 + 1, 1, none⟩ (.slice a3 N cap3)).setCell ⟨b + 1 + 1, 2, none⟩ (.int .i64 lr)) _ _ at hrF
    generalize ((V.setCell ⟨b + 1 + 1, 0, none⟩ (.int .i64 room)).setCell ⟨b + 1 + 1, 1, none⟩ (.slice a3 N cap3)).setCell ⟨b + 1 + 1, 2, none⟩ (.int .i64 lr) = Vf at kf hBF hrF ⊢
    obtain ⟨g0, g1, g2⟩ := hcl Vf kf
    exact bodyPost_ret (v := rv room a3 N cap3 lr) (by simp [results, Try.results42, go_sem, g0, g1, g2]) rfl ⟨a3, cap3, by rw [hNN], hrF, by rw [hNN]; exact hc3, hBF⟩)

set_option maxRecDepth 20000 in
set_option maxHeartbeats 8000000 in
theorem with_new (room : Int) (a : Option Addr) (cap : Nat) (lr : Int) (l : List En) (x : En) (w : World) (hr : Row w a l) (hc : l.length ≤ cap) (hh1 : l.length ≤ 900) (hth : (placeR l x.key).2 = false) :
    Calls Try.prog 42 #[rv room a l.length cap lr, ev x] w fun e w' => ∃ a' cap', e = .returned (rv room a' (putR l x).length cap' lr) ∧ Row w' a' (putR l x) ∧ (putR l x).length ≤ cap' ∧ Below w.heap.size w w' := by
  obtain ⟨v, m, p, hh, f⟩ := x
  have hput := put_place l ⟨v, m, p, hh, f⟩
  have hple := place_le l (En.key ⟨v, m, p, hh, f⟩)
  obtain ⟨P, hP⟩ : ∃ P, (placeR l (En.key ⟨v, m, p, hh, f⟩)).1 = P := ⟨_, rfl⟩
  rw [hP, hth] at hput hple
  simp only [if_true, Bool.false_eq_true, if_false] at hput
  have hPR : P ≤ l.length := by exact hple.1
  have hkey : En.key ⟨v, m, p, hh, f⟩ = (⟨v, m⟩ : Ky) := rfl
  rw [hkey] at hP hth
  obtain ⟨X1, hX1⟩ : ∃ X, X = w.alloc (.cells #[.int .i64 room, .slice a l.length cap, .int .i64 lr] 31) := ⟨_, rfl⟩
  obtain ⟨W, hW⟩ : ∃ W, W = (X1.alloc (.cells #[.int .i64 v, .string m, .int .i64 p, .int .i64 hh, .bool f] 40)).alloc (.cells #[.int .i64 0, .slice none 0 0, .int .i64 0] 31) := ⟨_, rfl⟩
  have s1 : X1.heap.size = w.heap.size + 1 := by rw [hX1]; exact size_box _ _
  have hB1 : Below w.heap.size w X1 := by rw [hX1]; exact below_box _ _
  have hB : Below w.heap.size w W := by rw [hW]; exact bw_alloc (bw_alloc hB1 _) _
  have hX1W : Below X1.heap.size X1 W := by rw [hW]; exact bw_alloc (below_box _ _) _
  have kW : RBlk W w.heap.size room a l.length cap lr := by have h : RBlk X1 w.heap.size room a l.length cap lr := (by rw [hX1]; exact rblk_new _ _ _ _ _ _); exact h.next hX1W
  have eW : FBlk W (w.heap.size + 1) ⟨v, m, p, hh, f⟩ := by rw [hW, ← s1]; exact (fblk_new X1 v m p hh f).next (below_box _ _)
  have rW : RBlk W (w.heap.size + 2) 0 none 0 0 0 := by
    have s2 : (X1.alloc (.cells #[.int .i64 v, .string m, .int .i64 p, .int .i64 hh, .bool f] 40)).heap.size = w.heap.size + 2 := by rw [size_box, s1]
    rw [hW, ← s2]; exact rblk_new _ _ _ _ _ _
  have HR0 := Lib.hid (hr.next hB)
  have hcall := place_w room a cap lr l v m W (hr.next hB)
  rw [hP, hth] at hcall
  obtain ⟨n, hn⟩ : ∃ n, l.length = n := ⟨_, rfl⟩
  have HN := Lib.hid hn
  have HPUT := Lib.hid hput
  rw [hn] at hc hh1 hPR kW hcall hX1 ⊢
  clear hn hr hput hple hP hth hkey s1 hB1 hX1W
  obtain ⟨j0, j1, j2⟩ := kW.cells
  obtain ⟨i0, i1, i2, i3, i4⟩ := eW.cells
  have hs1 := fun w => slice_head a n cap P w (by omega) hc
  have hs2 := fun w => slice_tail a n cap P w (by omega) hc
  skip
  have KW0 := Lib.hid kW
  have EW0 := Lib.hid eW
  have RW0 := Lib.hid rW
  have HB0 := Lib.hid hB
  clear hB kW eW rW
  go_enter Try.func42, Try.ntmps42
  go_wp2_with (go_at_call 32; rw [← hX1, ← hW]; refine hcall.mono ?_; clear hcall; rintro e w1 ⟨rfl, hG⟩; have kW := KW0.out.next hG.below; obtain ⟨k0, k1, k2⟩ := kW.cells; have eW := EW0.out.next hG.below; obtain ⟨e0, e1, e2, e3, e4⟩ := eW.cells)
  have HB := Lib.hid (HB0.out.trans (hG.below.mono HB0.out.size))
  have HR := Lib.hid (HR0.out.next hG.below)
  have RW := Lib.hid (RW0.out.next hG.below)
  have KW := Lib.hid kW
  have EW := Lib.hid eW
  have lb := kW.lt
  have le := eW.lt
  have lb2 := RW.out.lt
  obtain ⟨b, hb⟩ : ∃ b, b = w.heap.size := ⟨_, rfl⟩
  have hbw : w.heap.size ≤ b := Nat.le_of_eq hb.symm
  have hbw2 : w.heap.size ≤ b + 2 := Nat.le_trans hbw (by omega)
  rw [← hb] at KW EW RW lb le lb2 k0 k1 k2 e0 e1 e2 e3 e4 ⊢
  clear hG kW eW KW0 EW0 RW0 HB0 HR0 hX1 hW hb j0 j1 j2 i0 i1 i2 i3 i4 k0 k2
  clear X1 W
  obtain ⟨base, hbase⟩ : ∃ base, base = w1.heap.size := ⟨_, rfl⟩
  rw [← hbase] at lb le lb2
  have O1 := Lib.hid (show Own5 (w1.alloc (.cells #[] 40)).drew base (Value.slice (some ⟨w1.heap.size, 0, none⟩) 0 0) [] from own_empty w1 base (by omega))
  have O2 := Lib.hid (show Own5 ((w1.alloc (.cells #[] 40)).alloc (.cells #[.int .i64 v, .string m, .int .i64 p, .int .i64 hh, .bool f] 40)).drew base (Value.slice (some ⟨w1.heap.size, 0, none⟩) 0 0) [] from (own_empty w1 base (by omega)).alloc (.cells #[.int .i64 v, .string m, .int .i64 p, .int .i64 hh, .bool f] 40))
  have O3 := Lib.hid (show Own5 ((w1.alloc (.cells #[.int .i64 v, .string m, .int .i64 p, .int .i64 hh, .bool f] 40)).alloc (.cells #[] 40)).drew base (Value.slice (some ⟨w1.heap.size + 1, 0, none⟩) 0 0) [] from by have h := own_empty (w1.alloc (.cells #[.int .i64 v, .string m, .int .i64 p, .int .i64 hh, .bool f] 40)) base (by rw [size_box]; omega); rw [size_box] at h; exact h)
  have B1 : Below w1.heap.size w1 (w1.alloc (.cells #[] 40)).drew := (below_box _ _).drew
  have B2 : Below w1.heap.size w1 ((w1.alloc (.cells #[] 40)).alloc (.cells #[.int .i64 v, .string m, .int .i64 p, .int .i64 hh, .bool f] 40)).drew := (bw_alloc (below_box _ _) _).drew
  have B3 : Below w1.heap.size w1 ((w1.alloc (.cells #[.int .i64 v, .string m, .int .i64 p, .int .i64 hh, .bool f] 40)).alloc (.cells #[] 40)).drew := (bw_alloc (below_box _ _) _).drew
  have z1 : base ≤ (w1.alloc (.cells #[] 40)).drew.heap.size := Nat.le_trans (Nat.le_of_eq hbase) B1.size
  have z2 : base ≤ ((w1.alloc (.cells #[] 40)).alloc (.cells #[.int .i64 v, .string m, .int .i64 p, .int .i64 hh, .bool f] 40)).drew.heap.size := Nat.le_trans (Nat.le_of_eq hbase) B2.size
  have z3 : base ≤ ((w1.alloc (.cells #[.int .i64 v, .string m, .int .i64 p, .int .i64 hh, .bool f] 40)).alloc (.cells #[] 40)).drew.heap.size := Nat.le_trans (Nat.le_of_eq hbase) B3.size
  have R1 := Lib.hid (row_head (HR.out.next B1) P (by rw [HN.out]; exact hc))
  have R2 := Lib.hid (row_head (HR.out.next B2) P (by rw [HN.out]; exact hc))
  have R3 := Lib.hid (row_head (HR.out.next B3) P (by rw [HN.out]; exact hc))
  have G2 := Lib.hid (show FBlk ((w1.alloc (.cells #[] 40)).alloc (.cells #[.int .i64 v, .string m, .int .i64 p, .int .i64 hh, .bool f] 40)).drew (w1.heap.size + 1) ⟨v, m, p, hh, f⟩ from by have h := fblk_new (w1.alloc (.cells #[] 40)) v m p hh f; rw [size_box] at h; exact h)
  have G3 := Lib.hid (show FBlk ((w1.alloc (.cells #[.int .i64 v, .string m, .int .i64 p, .int .i64 hh, .bool f] 40)).alloc (.cells #[] 40)).drew w1.heap.size ⟨v, m, p, hh, f⟩ from (fblk_new w1 v m p hh f).next ((below_box _ _).drew))
  have N2 : some (w1.heap.size + 1) ≠ (Value.slice (some ⟨w1.heap.size, 0, none⟩) 0 0).ownBlock := by intro e; have : w1.heap.size + 1 = w1.heap.size := (by simp [Value.ownBlock] at e); omega
  have N3 : some w1.heap.size ≠ (Value.slice (some ⟨w1.heap.size + 1, 0, none⟩) 0 0).ownBlock := by intro e; have : w1.heap.size = w1.heap.size + 1 := (by simp [Value.ownBlock] at e); omega
  have htk : (l.take P).length = P := by rw [List.length_take, HN.out]; omega
  have hdk : (l.drop (P)).length = n - (P) := by rw [List.length_drop, HN.out]
  have hq1 : ([] ++ l.take P : List En).length = P := by rw [List.nil_append, htk]
  have hq2 : (([] ++ l.take P) ++ [⟨v, m, p, hh, f⟩] : List En).length = P + 1 := by rw [List.length_append, hq1]; rfl
  have hq3 : ((([] ++ l.take P) ++ [⟨v, m, p, hh, f⟩]) ++ l.drop (P) : List En).length = P + 1 + (n - (P)) := by rw [List.length_append, hq2, hdk]
  have hA1 : ([] : List En).length + (l.take P).length ≤ 3000 := by rw [htk]; simp; omega
  have hA2 : ([] ++ l.take P : List En).length + ([⟨v, m, p, hh, f⟩] : List En).length ≤ 3000 := by rw [hq1]; simp; omega
  have hA3 : (([] ++ l.take P) ++ [⟨v, m, p, hh, f⟩] : List En).length + (l.drop (P)).length ≤ 3000 := by rw [hq2, hdk]; omega
  obtain ⟨N, hN⟩ : ∃ N, P + 1 + (n - (P)) = N := ⟨_, rfl⟩
  rw [hN] at hq3
  have HQ := Lib.hid (And.intro (And.intro hq1 hq2) (And.intro hq3 hN))
  have HL := Lib.hid (And.intro htk hdk)
  have HAA := Lib.hid (And.intro hA1 (And.intro hA2 hA3))
  have Hfalse := Lib.hid (And.intro B1 (And.intro B2 B3))
  have HZZ := Lib.hid (And.intro z1 (And.intro z2 z3))
  have hc1 := k1
  have c1a := ((KW.out.next (below_box w1 (.cells #[] 40))).cells).2.1
  have c1b := ((KW.out.next (below_box w1 (.cells #[.int .i64 v, .string m, .int .i64 p, .int .i64 hh, .bool f] 40))).cells).2.1
  have c1c := ((KW.out.next (bw_alloc (below_box w1 (.cells #[] 40)) (.cells #[.int .i64 v, .string m, .int .i64 p, .int .i64 hh, .bool f] 40))).cells).2.1
  have c1d := ((KW.out.next (bw_alloc (below_box w1 (.cells #[.int .i64 v, .string m, .int .i64 p, .int .i64 hh, .bool f] 40)) (.cells #[] 40))).cells).2.1
  obtain ⟨ea0, ea1, ea2, ea3, ea4⟩ := (EW.out.next (below_box w1 (.cells #[] 40))).cells
  clear hq1 hq2 hq3 hN htk hdk hA1 hA2 hA3 B1 B2 B3 z1 z2 z3
  go_region_law (first
    | (refine step_append_row _ (by rfl) _ _ (by rfl) base (Value.slice (some ⟨w1.heap.size, 0, none⟩) 0 0) [] (l.take P) (tailA a cap 0) cap P P (by rfl) (by exact O1.out) (by rfl) HL.out.1.symm HQ.out.1.1 (by exact R1.out) HAA.out.1 (by exact HZZ.out.1) ?_; intro a1 cap1 y1 hown1 hgrow1 hc1'; have BY := below_own hbase (X := (w1.alloc (.cells #[] 40)).drew) (Y := y1) Hfalse.out.1 O1.out hgrow1; have KY := Lib.hid (KW.out.next BY); have T1 := KY.out.cells.2.1; have EY := Lib.hid (EW.out.next BY); obtain ⟨f0, f1, f2, f3, f4⟩ := EY.out.cells; have HY := Lib.hid hown1; have HR1 := Lib.hid (row_drop (HR.out.next BY) (P) (by rw [HN.out]; exact hc)); have zy : base ≤ y1.heap.size := Nat.le_trans (Nat.le_of_eq hbase) BY.size; have HBY := Lib.hid BY)
    | (refine step_append_row _ (by rfl) _ _ (by rfl) base (Value.slice (some ⟨w1.heap.size, 0, none⟩) 0 0) [] (l.take P) (tailA a cap 0) cap P P (by rfl) (by exact O2.out) (by rfl) HL.out.1.symm HQ.out.1.1 (by exact R2.out) HAA.out.1 (by exact HZZ.out.2.1) ?_; intro a1 cap1 y1 hown1 hgrow1 hc1'; have BY := below_own hbase (X := ((w1.alloc (.cells #[] 40)).alloc (.cells #[.int .i64 v, .string m, .int .i64 p, .int .i64 hh, .bool f] 40)).drew) (Y := y1) Hfalse.out.2.1 O2.out hgrow1; have KY := Lib.hid (KW.out.next BY); have T1 := KY.out.cells.2.1; have EY := Lib.hid (EW.out.next BY); obtain ⟨f0, f1, f2, f3, f4⟩ := EY.out.cells; have HY := Lib.hid hown1; have HR1 := Lib.hid (row_drop (HR.out.next BY) (P) (by rw [HN.out]; exact hc)); have zy : base ≤ y1.heap.size := Nat.le_trans (Nat.le_of_eq hbase) BY.size; have HBY := Lib.hid BY; have RE := Lib.hid (row_one (G2.out.kept (w' := y1) hgrow1 N2)))
    | (refine step_append_row _ (by rfl) _ _ (by rfl) base (Value.slice (some ⟨w1.heap.size + 1, 0, none⟩) 0 0) [] (l.take P) (tailA a cap 0) cap P P (by rfl) (by exact O3.out) (by rfl) HL.out.1.symm HQ.out.1.1 (by exact R3.out) HAA.out.1 (by exact HZZ.out.2.2) ?_; intro a1 cap1 y1 hown1 hgrow1 hc1'; have BY := below_own hbase (X := ((w1.alloc (.cells #[.int .i64 v, .string m, .int .i64 p, .int .i64 hh, .bool f] 40)).alloc (.cells #[] 40)).drew) (Y := y1) Hfalse.out.2.2 O3.out hgrow1; have KY := Lib.hid (KW.out.next BY); have T1 := KY.out.cells.2.1; have EY := Lib.hid (EW.out.next BY); obtain ⟨f0, f1, f2, f3, f4⟩ := EY.out.cells; have HY := Lib.hid hown1; have HR1 := Lib.hid (row_drop (HR.out.next BY) (P) (by rw [HN.out]; exact hc)); have zy : base ≤ y1.heap.size := Nat.le_trans (Nat.le_of_eq hbase) BY.size; have HBY := Lib.hid BY; have RE3 := Lib.hid (row_one (G3.out.kept (w' := y1) hgrow1 N3)))
    | (refine step_append_row _ (by rfl) _ _ (by rfl) base (.slice a1 P cap1) ([] ++ l.take P) [⟨v, m, p, hh, f⟩] (some ⟨y1.heap.size, 0, none⟩) 1 1 (P + 1) (by rfl) (by exact HY.out.alloc (.cells #[.int .i64 v, .string m, .int .i64 p, .int .i64 hh, .bool f] 40)) (by rfl) rfl HQ.out.1.2 (by exact row_one (fblk_new y1 v m p hh f)) HAA.out.2.1 (by exact (by rw [size_box]; omega)) ?_; intro a2 cap2 y2 hown2 hgrow2 hc2; have BZ := below_own hbase (X := (y1.alloc (.cells #[.int .i64 v, .string m, .int .i64 p, .int .i64 hh, .bool f] 40))) (Y := y2) (bw_alloc HBY.out (.cells #[.int .i64 v, .string m, .int .i64 p, .int .i64 hh, .bool f] 40)) (HY.out.alloc (.cells #[.int .i64 v, .string m, .int .i64 p, .int .i64 hh, .bool f] 40)) hgrow2; have HZ := Lib.hid hown2; have HR2 := Lib.hid (row_drop (HR.out.next BZ) (P) (by rw [HN.out]; exact hc)); have zz : base ≤ y2.heap.size := Nat.le_trans (Nat.le_of_eq hbase) BZ.size; have HBZ := Lib.hid BZ)
    | (refine step_append_row _ (by rfl) _ _ (by rfl) base (.slice a1 P cap1) ([] ++ l.take P) [⟨v, m, p, hh, f⟩] (some ⟨w1.heap.size + 1, 0, none⟩) 1 1 (P + 1) (by rfl) (by exact HY.out) (by rfl) rfl HQ.out.1.2 (by exact RE.out) HAA.out.2.1 (by exact zy) ?_; intro a2 cap2 y2 hown2 hgrow2 hc2; have BZ := below_own hbase (X := y1) (Y := y2) HBY.out (HY.out) hgrow2; have HZ := Lib.hid hown2; have HR2 := Lib.hid (row_drop (HR.out.next BZ) (P) (by rw [HN.out]; exact hc)); have zz : base ≤ y2.heap.size := Nat.le_trans (Nat.le_of_eq hbase) BZ.size; have HBZ := Lib.hid BZ)
    | (refine step_append_row _ (by rfl) _ _ (by rfl) base (.slice a1 P cap1) ([] ++ l.take P) [⟨v, m, p, hh, f⟩] (some ⟨w1.heap.size, 0, none⟩) 1 1 (P + 1) (by rfl) (by exact HY.out) (by rfl) rfl HQ.out.1.2 (by exact RE3.out) HAA.out.2.1 (by exact zy) ?_; intro a2 cap2 y2 hown2 hgrow2 hc2; have BZ := below_own hbase (X := y1) (Y := y2) HBY.out (HY.out) hgrow2; have HZ := Lib.hid hown2; have HR2 := Lib.hid (row_drop (HR.out.next BZ) (P) (by rw [HN.out]; exact hc)); have zz : base ≤ y2.heap.size := Nat.le_trans (Nat.le_of_eq hbase) BZ.size; have HBZ := Lib.hid BZ)
    | (refine step_append_row _ (by rfl) _ _ (by rfl) base (.slice a2 (P + 1) cap2) (([] ++ l.take P) ++ [⟨v, m, p, hh, f⟩]) (l.drop (P)) (tailA a cap (P)) (cap - (P)) (n - (P)) N (by rfl) (by exact HZ.out) (by rfl) HL.out.2.symm HQ.out.2.1 (by exact HR2.out) HAA.out.2.2 (by exact zz) ?_; intro a3 cap3 y3 hown3 hgrow3 hc3; have BV := below_own hbase (X := y2) (Y := y3) HBZ.out HZ.out hgrow3; have KV := Lib.hid (KW.out.next BV); have T3 := KV.out.cells.2.1; have F3 := KV.out.free 1; have HBV := Lib.hid BV))
  all_goals (
    have hrow := row_owned hown3 (by rw [HQ.out.2.1]; have := HQ.out.2.2; omega)
    obtain ⟨a', cap', e, _, hrow, hfresh⟩ := hrow
    injection e with e1' e2' e3'
    subst e1'
    have hfr : ∀ g, a3 = some g → base ≤ g.block := fun g e => (hfresh g e).2.2.1
    have RZ := (RW.out.next HBV.out).other (c := b) (by omega) 1 (.slice a3 N cap3)
    have KV2 := KV.out.set1 a3 N cap3
    have hrV := hrow.other hfr lb 1 (.slice a3 N cap3)
    have hBV : Below w.heap.size w (y3.setCell ⟨b, 1, none⟩ (.slice a3 N cap3)) := (HB.out.trans (HBV.out.mono HB.out.size)).setCell (p := ⟨b, 1, none⟩) hbw _
    obtain ⟨V, hV⟩ : ∃ V, V = y3.setCell ⟨b, 1, none⟩ (.slice a3 N cap3) := ⟨_, rfl⟩
    rw [← hV] at RZ KV2 hrV hBV ⊢
    obtain ⟨x0, x1, x2⟩ := KV2.cells
    have z0 : V.cell? ⟨b + 1 + 1, 0, none⟩ = some (.int .i64 0) := RZ.cells.1
    have z1 : V.cell? ⟨b + 1 + 1, 1, none⟩ = some (.slice none 0 0) := RZ.cells.2.1
    have z2 : V.cell? ⟨b + 1 + 1, 2, none⟩ = some (.int .i64 0) := RZ.cells.2.2
    have f0' : V.frozen? ⟨b + 1 + 1, 0, none⟩ = false := RZ.free 0
    have f1' : V.frozen? ⟨b + 1 + 1, 1, none⟩ = false := RZ.free 1
    have f2' : V.frozen? ⟨b + 1 + 1, 2, none⟩ = false := RZ.free 2
    have HE := Lib.hid (And.intro hrV hBV)
    have HRZ := Lib.hid RZ
    clear hV hrow hfresh RZ KV2 hrV hBV e2' e3' hs1 hs2 hown1 hown2 hown3 hgrow1 hgrow2 hgrow3 T1 T3 F3 BY BZ BV
    go_wp2
    have kf := rblk_set3 HRZ.out room a3 N cap3 lr
    have hBF := ((HE.out.2.setCell (p := ⟨b + 1 + 1, 0, none⟩) hbw2 (.int .i64 room)).setCell (p := ⟨b + 1 + 1, 1, none⟩) hbw2 (.slice a3 N cap3)).setCell (p := ⟨b + 1 + 1, 2, none⟩) hbw2 (.int .i64 lr)
    have hrF := ((HE.out.1.other hfr lb2 0 (.int .i64 room)).other hfr lb2 1 (.slice a3 N cap3)).other hfr lb2 2 (.int .i64 lr)
    have he : (([] ++ l.take P) ++ [⟨v, m, p, hh, f⟩]) ++ l.drop (P) = putR l ⟨v, m, p, hh, f⟩ := by rw [HPUT.out]; simp
    rw [he] at hrF
    have hNN : (putR l ⟨v, m, p, hh, f⟩).length = N := by rw [← he]; exact HQ.out.2.1
    have hcl : ∀ Vf, RBlk Vf (b + 2) room a3 N cap3 lr → Vf.cell? ⟨b + 1 + 1, 0, none⟩ = some (.int .i64 room) ∧ Vf.cell? ⟨b + 1 + 1, 1, none⟩ = some (.slice a3 N cap3) ∧ Vf.cell? ⟨b + 1 + 1, 2, none⟩ = some (.int .i64 lr) := fun Vf h => h.cells
    change RBlk (((V.setCell ⟨b + 1 + 1, 0, none⟩ (.int .i64 room)).setCell ⟨b + 1 + 1, 1, none⟩ (.slice a3 N cap3)).setCell ⟨b + 1 + 1, 2, none⟩ (.int .i64 lr)) _ _ _ _ _ _ at kf
    change Row (((V.setCell ⟨b + 1 + 1, 0, none⟩ (.int .i64 room)).setCell ⟨b + 1 + 1, 1, none⟩ (.slice a3 N cap3)).setCell ⟨b + 1 + 1, 2, none⟩ (.int .i64 lr)) _ _ at hrF
    generalize ((V.setCell ⟨b + 1 + 1, 0, none⟩ (.int .i64 room)).setCell ⟨b + 1 + 1, 1, none⟩ (.slice a3 N cap3)).setCell ⟨b + 1 + 1, 2, none⟩ (.int .i64 lr) = Vf at kf hBF hrF ⊢
    obtain ⟨g0, g1, g2⟩ := hcl Vf kf
    exact bodyPost_ret (v := rv room a3 N cap3 lr) (by simp [results, Try.results42, go_sem, g0, g1, g2]) rfl ⟨a3, cap3, by rw [hNN], hrF, by rw [hNN]; exact hc3, hBF⟩)
end Go.Proofs.Ytkpfdaomhkcokaa
