/-
  Layer 8: the scan over the ports: root's closure, eachWay, root.
-/
import Derived.Test.YtldobcfejldbiaaGreatDoorMac
import Derived.Test.YtldobcfejldbiaaGreatDoorMaa
namespace Go.Proofs.YtldobcfejldbiaaGreatDoor
set_option linter.unusedVariables false
set_option linter.unusedSimpArgs false
open Go.RowKit Vm Rm

/-- Nothing that was there has turned, but two blocks. -/
structure Kept2 (tb mb : Nat) (w w' : World) : Prop where
  os : w'.os = w.os
  tape : w'.tape = w.tape
  output : w'.output = w.output
  size : w.heap.size ≤ w'.heap.size
  block : ∀ i, i < w.heap.size → i ≠ tb → i ≠ mb → w'.heap[i]? = w.heap[i]?
theorem Kept2.refl (tb mb : Nat) (w : World) : Kept2 tb mb w w := ⟨rfl, rfl, rfl, Nat.le_refl _, fun _ _ _ _ => rfl⟩
theorem Kept2.trans {tb mb : Nat} {a b c : World} (h : Kept2 tb mb a b) (k : Kept2 tb mb b c) : Kept2 tb mb a c :=
  ⟨k.os.trans h.os, k.tape.trans h.tape, k.output.trans h.output, Nat.le_trans h.size k.size, fun i hi h1 h2 => (k.block i (Nat.lt_of_lt_of_le hi h.size) h1 h2).trans (h.block i hi h1 h2)⟩
theorem kept2_below {tb mb : Nat} {w w' : World} (h : Below w.heap.size w w') : Kept2 tb mb w w' := ⟨h.os, h.tape, h.output, h.size, fun i hi _ _ => h.block i hi⟩
theorem kept2_set {tb mb : Nat} (w : World) (c j : Nat) (v : Value) (h : c = tb ∨ c = mb) : Kept2 tb mb w (w.setCell ⟨c, j, none⟩ v) :=
  ⟨rfl, rfl, rfl, by show w.heap.size ≤ (w.heap.modify _ _).size; simp, fun i _ h1 h2 => Below.heap_setCell w ⟨c, j, none⟩ v i (by rcases h with rfl | rfl <;> assumption)⟩
theorem kept2_put4 {tb mb : Nat} (w : World) (r c b p : Int) : Kept2 tb mb w (put4 w tb r c b p) :=
  (((kept2_set w tb 0 _ (.inl rfl)).trans (kept2_set _ tb 1 _ (.inl rfl))).trans (kept2_set _ tb 2 _ (.inl rfl))).trans (kept2_set _ tb 3 _ (.inl rfl))
theorem Kept2.below {tb mb B : Nat} {a w w' : World} (h : Kept2 tb mb w w') (hb : Below B a w) (h1 : B ≤ tb) (h2 : B ≤ mb) (h3 : B ≤ w.heap.size) : Below B a w' :=
  ⟨h.os.trans hb.os, h.tape.trans hb.tape, h.output.trans hb.output, Nat.le_trans hb.size h.size, fun i hi => (h.block i (by omega) (by omega) (by omega)).trans (hb.block i hi)⟩

/-- A block of one cell. -/
def One (T : TypeId) (w : World) (b : Nat) (x : Value) : Prop := w.heap[b]? = some (.cells #[x] T (0, 0))
theorem One.lt {T : TypeId} {w : World} {b : Nat} {x : Value} (h : One T w b x) : b < w.heap.size := (Array.getElem?_eq_some_iff.1 h).1
theorem One.next {T : TypeId} {w w' : World} {b : Nat} {x : Value} (h : One T w b x) (hb : Below w.heap.size w w') : One T w' b x := (hb.block b h.lt).trans h
theorem One.cell {T : TypeId} {w : World} {b : Nat} {x : Value} (h : One T w b x) : w.cell? ⟨b, 0, none⟩ = some x := by
  unfold One at h
  simp [World.cell?, h]
theorem One.free {T : TypeId} {w : World} {b : Nat} {x : Value} (h : One T w b x) : w.frozen? ⟨b, 0, none⟩ = false := by
  unfold One at h
  simp [World.frozen?, h]
theorem One.put {T : TypeId} {w : World} {b : Nat} {x : Value} (h : One T w b x) (y : Value) : One T (w.setCell ⟨b, 0, none⟩ y) b y := by
  unfold One at h ⊢
  exact blk_set h rfl
theorem One.other {T : TypeId} {w : World} {b c : Nat} {x : Value} (h : One T w b x) (j : Nat) (v : Value) (hne : b ≠ c) : One T (w.setCell ⟨c, j, none⟩ v) b x := (Below.heap_setCell w ⟨c, j, none⟩ v b hne).trans h
theorem Blk.other {T : TypeId} {w : World} {b c : Nat} {x : Vc} (h : Blk T w b x) (j : Nat) (v : Value) (hne : b ≠ c) : Blk T (w.setCell ⟨c, j, none⟩ v) b x := (Below.heap_setCell w ⟨c, j, none⟩ v b hne).trans h
theorem One.put4 {T : TypeId} {w : World} {b n : Nat} {x : Value} (h : One T w b x) (r c br p : Int) (hne : b ≠ n) : One T (put4 w n r c br p) b x :=
  (((h.other 0 _ hne).other 1 _ hne).other 2 _ hne).other 3 _ hne
theorem one_new (T : TypeId) (w : World) (x : Value) : One T (w.alloc (.cells #[x] T)) w.heap.size x := heap_alloc_new w _

/-- What the scan has in memory: the best vector, the port's place, the row. -/
structure Scan (w : World) (bb pb lb : Nat) (a : Option Addr) (n cap : Nat) (v : Vc) (pv : Int) : Prop where
  best : Blk 47 w bb v
  port : One 3 w pb (.int .i64 pv)
  row : One 135 w lb (.slice a n cap)
theorem Scan.next {w w' : World} {bb pb lb : Nat} {a : Option Addr} {n cap : Nat} {v : Vc} {pv : Int} (h : Scan w bb pb lb a n cap v pv) (hb : Below w.heap.size w w') : Scan w' bb pb lb a n cap v pv :=
  ⟨h.best.next hb, h.port.next hb, h.row.next hb⟩
theorem Scan.ne {w : World} {bb pb lb : Nat} {a : Option Addr} {n cap : Nat} {v : Vc} {pv : Int} (h : Scan w bb pb lb a n cap v pv) : bb ≠ pb ∧ bb ≠ lb ∧ pb ≠ lb := by
  obtain ⟨h1, h2, h3⟩ := h
  unfold Blk at h1
  unfold One at h2 h3
  refine ⟨?_, ?_, ?_⟩
  · rintro rfl; rw [h1] at h2; simp at h2
  · rintro rfl; rw [h1] at h3; simp at h3
  · rintro rfl; rw [h2] at h3; simp at h3
theorem Scan.taken {w : World} {bb pb lb : Nat} {a : Option Addr} {n cap : Nat} {v : Vc} {pv : Int} (h : Scan w bb pb lb a n cap v pv) (r c b p k : Int) :
    Scan ((put4 w bb r c b p).setCell ⟨pb, 0, none⟩ (.int .i64 k)) bb pb lb a n cap ⟨r, c, b, p⟩ k := by
  obtain ⟨n1, n2, n3⟩ := h.ne
  exact ⟨(h.best.set4 r c b p).other _ _ n1, (h.port.put4 r c b p (Ne.symm n1)).put _, (h.row.put4 r c b p (Ne.symm n2)).other _ _ (Ne.symm n3)⟩
theorem taken_kept {bb pb : Nat} (w : World) (r c b p k : Int) : Kept2 bb pb w ((put4 w bb r c b p).setCell ⟨pb, 0, none⟩ (.int .i64 k)) :=
  (kept2_put4 w r c b p).trans (kept2_set _ pb 0 _ (.inr rfl))

set_option maxRecDepth 20000 in
set_option maxHeartbeats 1000000 in
theorem take_w (k j : Nat) (wr wc wb wp vr vc vb vp X pv pi qi : Int) (bb pb lb : Nat) (g o n cap : Nat) (w : World)
    (hS : Scan w bb pb lb (some ⟨g, o, none⟩) n cap ⟨vr, vc, vb, vp⟩ pv) (hX : Hid (cmpR ⟨wr, wc, wb, wp⟩ ⟨vr, vc, vb, vp⟩ = X))
    (hk : k < n) (hg : g < w.heap.size)
    (h : X < 0 ∨ (X = 0 ∧ pv = j ∧ j < n ∧ pi < qi ∧ w.cell? ⟨g, o + k * 7, none⟩ = some (.int .u64 pi) ∧ w.cell? ⟨g, o + j * 7, none⟩ = some (.int .u64 qi))) :
    Calls Tryz.prog 150 #[.int .i64 k, vv wr wc wb wp, .pointer (some ⟨bb, 0, none⟩), .pointer (some ⟨pb, 0, none⟩), .pointer (some ⟨lb, 0, none⟩)] w fun e w' =>
      e = .returned (.tuple #[]) ∧ Scan w' bb pb lb (some ⟨g, o, none⟩) n cap ⟨wr, wc, wb, wp⟩ k ∧ Kept2 bb pb w w' := by
  have lb1 := hS.best.lt
  have lb2 := hS.port.lt
  have lb3 := hS.row.lt
  obtain ⟨b0, b1, b2, b3⟩ := hS.best.cells
  rcases h with hlt | ⟨rfl, rfl, hj, hid, c1, c2⟩
  · have hd : decide (X < 0) = true := decide_eq_true hlt
    go_enter Tryz.func150, Tryz.ntmps150
    go_wp2_with fail
    (with_reducible refine (compare_w wr wc wb wp vr vc vb vp X _ hX).mono ?_)
    rintro e w1 ⟨rfl, hb1⟩
    have hB := bw_trans (below_box w _) hb1
    have HS1 := Lib.hid (hS.next hB)
    have HT := Lib.hid ((blk_new 47 w wr wc wb wp).next hb1)
    have p0 := HS1.out.port.cell
    have r0 := HS1.out.row.cell
    clear hX hb1 b0 b1 b2 b3
    go_wp2_with fail
    go_quiet (fail)
    have hB2 := below_drewN hB nq
    have HS2 := Lib.hid (show Scan (w1.drewN nq) bb pb lb (some ⟨g, o, none⟩) n cap ⟨vr, vc, vb, vp⟩ pv from ⟨HS1.out.best, HS1.out.port, HS1.out.row⟩)
    have HT2 := Lib.hid (show Blk 47 (w1.drewN nq) w.heap.size ⟨wr, wc, wb, wp⟩ from HT.out)
    obtain ⟨W, hW⟩ : ∃ W, W = w1.drewN nq := ⟨_, rfl⟩
    rw [← hW] at hB2 HS2 HT2 ⊢
    clear hW HS1 HT p0 r0 hB
    obtain ⟨t0, t1, t2, t3⟩ := HT2.out.cells
    obtain ⟨b0, b1, b2, b3⟩ := HS2.out.best.cells
    have f0 := HS2.out.best.free 0
    have f1 := HS2.out.best.free 1
    have f2 := HS2.out.best.free 2
    have f3 := HS2.out.best.free 3
    have g0 : ((put4 W bb wr wc wb wp)).frozen? ⟨pb, 0, none⟩ = false := (HS2.out.port.put4 wr wc wb wp (Ne.symm HS2.out.ne.1)).free
    have g1 : ((put4 W bb wr wc wb wp)).cell? ⟨pb, 0, none⟩ = some (.int .i64 pv) := (HS2.out.port.put4 wr wc wb wp (Ne.symm HS2.out.ne.1)).cell
    go_wp2
    go_end0
    exact ⟨rfl, HS2.out.taken wr wc wb wp k, (kept2_below hB2).trans (taken_kept W wr wc wb wp k)⟩
  · have hd : decide (pi < qi) = true := decide_eq_true hid
    have hne : ((j : Int) != -1) = true := bne_iff_ne.2 (by omega)
    go_enter Tryz.func150, Tryz.ntmps150
    go_wp2_with fail
    (with_reducible refine (compare_w wr wc wb wp vr vc vb vp _ _ hX).mono ?_)
    rintro e w1 ⟨rfl, hb1⟩
    have hB := bw_trans (below_box w _) hb1
    have HS1 := Lib.hid (hS.next hB)
    have HT := Lib.hid ((blk_new 47 w wr wc wb wp).next hb1)
    have p0 := HS1.out.port.cell
    have r0 := HS1.out.row.cell
    replace c1 := (hB.cell (p := ⟨g, o + k * 7, none⟩) hg).trans c1
    replace c2 := (hB.cell (p := ⟨g, o + j * 7, none⟩) hg).trans c2
    have hki : (k : Int) < n := by omega
    have hji : (j : Int) < n := by omega
    clear hX hb1 b0 b1 b2 b3
    go_wp2_with fail
    go_quiet (fail)
    have hB2 := below_drewN hB nq
    have HS2 := Lib.hid (show Scan (w1.drewN nq) bb pb lb (some ⟨g, o, none⟩) n cap ⟨vr, vc, vb, vp⟩ j from ⟨HS1.out.best, HS1.out.port, HS1.out.row⟩)
    have HT2 := Lib.hid (show Blk 47 (w1.drewN nq) w.heap.size ⟨wr, wc, wb, wp⟩ from HT.out)
    obtain ⟨W, hW⟩ : ∃ W, W = w1.drewN nq := ⟨_, rfl⟩
    rw [← hW] at hB2 HS2 HT2 ⊢
    clear hW HS1 HT p0 r0 hB c1 c2
    obtain ⟨t0, t1, t2, t3⟩ := HT2.out.cells
    obtain ⟨b0, b1, b2, b3⟩ := HS2.out.best.cells
    have f0 := HS2.out.best.free 0
    have f1 := HS2.out.best.free 1
    have f2 := HS2.out.best.free 2
    have f3 := HS2.out.best.free 3
    have g0 : ((put4 W bb wr wc wb wp)).frozen? ⟨pb, 0, none⟩ = false := (HS2.out.port.put4 wr wc wb wp (Ne.symm HS2.out.ne.1)).free
    have g1 : ((put4 W bb wr wc wb wp)).cell? ⟨pb, 0, none⟩ = some (.int .i64 j) := (HS2.out.port.put4 wr wc wb wp (Ne.symm HS2.out.ne.1)).cell
    go_wp2
    go_end0
    exact ⟨rfl, HS2.out.taken wr wc wb wp k, (kept2_below hB2).trans (taken_kept W wr wc wb wp k)⟩

set_option maxRecDepth 20000 in
set_option maxHeartbeats 1000000 in
theorem keep_w (k j : Nat) (wr wc wb wp vr vc vb vp X pv pi qi : Int) (bb pb lb : Nat) (g o n cap : Nat) (w : World)
    (hS : Scan w bb pb lb (some ⟨g, o, none⟩) n cap ⟨vr, vc, vb, vp⟩ pv) (hX : Hid (cmpR ⟨wr, wc, wb, wp⟩ ⟨vr, vc, vb, vp⟩ = X))
    (hk : k < n) (hg : g < w.heap.size)
    (h : 0 < X ∨ (X = 0 ∧ pv = -1) ∨ (X = 0 ∧ pv = j ∧ j < n ∧ ¬ pi < qi ∧ w.cell? ⟨g, o + k * 7, none⟩ = some (.int .u64 pi) ∧ w.cell? ⟨g, o + j * 7, none⟩ = some (.int .u64 qi))) :
    Calls Tryz.prog 150 #[.int .i64 k, vv wr wc wb wp, .pointer (some ⟨bb, 0, none⟩), .pointer (some ⟨pb, 0, none⟩), .pointer (some ⟨lb, 0, none⟩)] w fun e w' =>
      e = .returned (.tuple #[]) ∧ Scan w' bb pb lb (some ⟨g, o, none⟩) n cap ⟨vr, vc, vb, vp⟩ pv ∧ Kept2 bb pb w w' := by
  have lb1 := hS.best.lt
  have lb2 := hS.port.lt
  have lb3 := hS.row.lt
  obtain ⟨b0, b1, b2, b3⟩ := hS.best.cells
  rcases h with hgt | ⟨rfl, rfl⟩ | ⟨rfl, rfl, hj, hid, c1, c2⟩
  · have hd : decide (X < 0) = false := decide_eq_false (by omega)
    have hz : (X == 0) = false := beq_eq_false_iff_ne.2 (by omega)
    go_enter Tryz.func150, Tryz.ntmps150
    go_wp2_with fail
    (with_reducible refine (compare_w wr wc wb wp vr vc vb vp X _ hX).mono ?_)
    rintro e w1 ⟨rfl, hb1⟩
    have hB := bw_trans (below_box w _) hb1
    have HS1 := Lib.hid (hS.next hB)
    have HT := Lib.hid ((blk_new 47 w wr wc wb wp).next hb1)
    have p0 := HS1.out.port.cell
    have r0 := HS1.out.row.cell
    clear hX hb1 b0 b1 b2 b3
    go_wp2_with fail
    go_quiet (fail)
    go_wp2
    go_end0
    exact ⟨rfl, ⟨HS1.out.best, HS1.out.port, HS1.out.row⟩, kept2_below (below_drewN hB _)⟩
  · go_enter Tryz.func150, Tryz.ntmps150
    go_wp2_with fail
    (with_reducible refine (compare_w wr wc wb wp vr vc vb vp _ _ hX).mono ?_)
    rintro e w1 ⟨rfl, hb1⟩
    have hB := bw_trans (below_box w _) hb1
    have HS1 := Lib.hid (hS.next hB)
    have HT := Lib.hid ((blk_new 47 w wr wc wb wp).next hb1)
    have p0 := HS1.out.port.cell
    have r0 := HS1.out.row.cell
    clear hX hb1 b0 b1 b2 b3
    go_wp2_with fail
    go_quiet (fail)
    go_wp2
    go_end0
    exact ⟨rfl, ⟨HS1.out.best, HS1.out.port, HS1.out.row⟩, kept2_below (below_drewN hB _)⟩
  · have hd : decide (pi < qi) = false := decide_eq_false hid
    have hne : ((j : Int) != -1) = true := bne_iff_ne.2 (by omega)
    go_enter Tryz.func150, Tryz.ntmps150
    go_wp2_with fail
    (with_reducible refine (compare_w wr wc wb wp vr vc vb vp _ _ hX).mono ?_)
    rintro e w1 ⟨rfl, hb1⟩
    have hB := bw_trans (below_box w _) hb1
    have HS1 := Lib.hid (hS.next hB)
    have HT := Lib.hid ((blk_new 47 w wr wc wb wp).next hb1)
    have p0 := HS1.out.port.cell
    have r0 := HS1.out.row.cell
    replace c1 := (hB.cell (p := ⟨g, o + k * 7, none⟩) hg).trans c1
    replace c2 := (hB.cell (p := ⟨g, o + j * 7, none⟩) hg).trans c2
    have hki : (k : Int) < n := by omega
    have hji : (j : Int) < n := by omega
    clear hX hb1 b0 b1 b2 b3
    go_wp2_with fail
    go_quiet (fail)
    go_wp2
    go_end0
    exact ⟨rfl, ⟨HS1.out.best, HS1.out.port, HS1.out.row⟩, kept2_below (below_drewN hB _)⟩
end Go.Proofs.YtldobcfejldbiaaGreatDoor
