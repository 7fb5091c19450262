/-
  Layer 8: eachWay with root's closure; root.
  Layer 8: Select.
  Layer 8: rows of what is known of ports that a call makes; the law's of.
-/
import Derived.Test.YtldobcfejldbiaaGreatDoorMad
import Derived.Deep.AppendLies
import Derived.Deep.RegionLaw
import Derived.Deep.CutBlock
namespace Go.Proofs.YtldobcfejldbiaaGreatDoor
set_option linter.unusedVariables false
set_option linter.unusedSimpArgs false
open Go.RowKit Vm Rm

theorem step_w (br : Int) (l : List Inf) (k : Nat) (i c s r q b p wr wc wb wp : Int) (bb pb lb g o n cap : Nat) (w : World)
    (hx : l[k]? = some ⟨i, c, s, ⟨r, q, b, p⟩⟩) (hw : wayR br ⟨i, c, s, ⟨r, q, b, p⟩⟩ = some ⟨wr, wc, wb, wp⟩)
    (hA : IRow w (some ⟨g, o, none⟩) l) (hn : l.length = n)
    (hS : Scan w bb pb lb (some ⟨g, o, none⟩) n cap (rootV br (l.take k)) (portI (scanP br l k))) :
    Calls Tryz.prog 150 #[.int .i64 k, vv wr wc wb wp, .pointer (some ⟨bb, 0, none⟩), .pointer (some ⟨pb, 0, none⟩), .pointer (some ⟨lb, 0, none⟩)] w fun e w' =>
      e = .returned (.tuple #[]) ∧ Scan w' bb pb lb (some ⟨g, o, none⟩) n cap (rootV br (l.take (k + 1))) (portI (scanP br l (k + 1))) ∧ Kept2 bb pb w w' := by
  have hk : k < n := by rw [← hn]; exact (List.getElem?_eq_some_iff.1 hx).1
  obtain ⟨g', o', e', hg, hc⟩ := hA.at_ k _ hx
  obtain ⟨rfl, rfl⟩ : g = g' ∧ o = o' := by cases e'; exact ⟨rfl, rfl⟩
  have c1 : w.cell? ⟨g, o + k * 7, none⟩ = some (.int .u64 i) := hc.1
  obtain ⟨⟨vr, vc, vb, vp⟩, hv⟩ : ∃ v, rootV br (l.take k) = v := ⟨_, rfl⟩
  obtain ⟨X, hX⟩ : ∃ X, cmpR ⟨wr, wc, wb, wp⟩ ⟨vr, vc, vb, vp⟩ = X := ⟨_, rfl⟩
  have hXr : cmpR ⟨wr, wc, wb, wp⟩ (rootV br (l.take k)) = X := by rw [hv]; exact hX
  rcases Int.lt_trichotomy X 0 with h | h | h
  · obtain ⟨e1, e2⟩ := scan_less hx hw (by rw [hXr]; exact h)
    rw [e1, e2]
    rw [hv] at hS
    exact take_w k 0 wr wc wb wp vr vc vb vp X _ 0 0 bb pb lb g o n cap w hS (Lib.hid hX) hk hg (.inl h)
  · subst h
    cases ho : scanP br l k with
    | none =>
      obtain ⟨e1, e2⟩ := scan_same_none hx hw hXr ho
      rw [e1, e2]
      rw [ho] at hS
      rw [hv] at hS ⊢
      exact keep_w k 0 wr wc wb wp vr vc vb vp 0 _ 0 0 bb pb lb g o n cap w hS (Lib.hid hX) hk hg (.inr (.inl ⟨rfl, rfl⟩))
    | some j =>
      have hj : j < n := Nat.lt_trans (scan_lt (by omega) ho) hk
      obtain ⟨y, hy⟩ := at_some (l := l) (k := j) (by omega)
      obtain ⟨g', o', e'', hg', hcy⟩ := hA.at_ j _ hy
      obtain ⟨rfl, rfl⟩ : g = g' ∧ o = o' := by cases e''; exact ⟨rfl, rfl⟩
      have c2 : w.cell? ⟨g, o + j * 7, none⟩ = some (.int .u64 y.id) := hcy.1
      obtain ⟨e1, e2, e3⟩ := scan_same_some hx hw hXr ho hy
      rw [ho] at hS
      by_cases hid : i < y.id
      · rw [e1, e3, if_pos hid, e2]
        rw [hv] at hS
        exact take_w k j wr wc wb wp vr vc vb vp 0 _ i y.id bb pb lb g o n cap w hS (Lib.hid hX) hk hg (.inr ⟨rfl, rfl, hj, hid, c1, c2⟩)
      · rw [e1, e3, if_neg hid]
        rw [hv] at hS ⊢
        exact keep_w k j wr wc wb wp vr vc vb vp 0 _ i y.id bb pb lb g o n cap w hS (Lib.hid hX) hk hg (.inr (.inr ⟨rfl, rfl, hj, hid, c1, c2⟩))
  · obtain ⟨e1, e2⟩ := scan_more hx hw (by rw [hXr]; exact h)
    rw [e1, e2]
    rw [hv] at hS ⊢
    exact keep_w k 0 wr wc wb wp vr vc vb vp X _ 0 0 bb pb lb g o n cap w hS (Lib.hid hX) hk hg (.inl h)

def EInv (br : Int) (l : List Inf) (bb pb lb : Nat) (a : Option Addr) (n cap : Nat) (w0 : World) (v : Value) (wr : World) : Prop :=
  ∃ k : Nat, k ≤ n ∧ v = .int .i64 (k : Nat) ∧ Scan wr bb pb lb a n cap (rootV br (l.take k)) (portI (scanP br l k)) ∧ Below w0.heap.size w0 wr

set_option maxRecDepth 20000 in
set_option maxHeartbeats 1000000 in
theorem each_w (br : Int) (a : Option Addr) (n cap bb pb lb : Nat) (l : List Inf) (w0 w : World) (hbr : u64B br) (h : IRow w0 a l) (hn : l.length = n) (hl : n ≤ 1000) (hb0 : Below w0.heap.size w0 w)
    (hbb : w0.heap.size ≤ bb) (hpb : w0.heap.size ≤ pb) (hS : Scan w bb pb lb a n cap (mineR br) (-1)) :
    Calls Tryz.prog 149 #[.int .u64 br, .slice a n cap, .func (.func 150) #[] #[.pointer (some ⟨bb, 0, none⟩), .pointer (some ⟨pb, 0, none⟩), .pointer (some ⟨lb, 0, none⟩)]] w fun e w' =>
      e = .returned (.tuple #[]) ∧ Scan w' bb pb lb a n cap (rootV br l) (portI (rootP br l)) ∧ Below w0.heap.size w0 w' := by
  have HN := Lib.hid hn
  have HA := Lib.hid h
  have HS := Lib.hid hS
  have HB := Lib.hid (And.intro hbb hpb)
  have HBR := Lib.hid hbr
  clear hn h hS hbb hpb hbr
  go_enter Tryz.func149, Tryz.ntmps149
  go_wp2_with fail
  go_loopw [10] (fun v wr => EInv br l bb pb lb a n cap w0 v wr) (fun v _ => n - (intOf v).toNat)
  case atStart =>
    refine ⟨0, Nat.zero_le _, rfl, ?_, hb0⟩
    rw [(scan_zero br l).1, (scan_zero br l).2]
    exact HS.out
  case round =>
    obtain ⟨k, hk, rfl, hSk, hG⟩ := hrel
    by_cases hkl : k < n
    · obtain ⟨⟨xi, xc, xs, ⟨r, q, b, p⟩⟩, hx⟩ := at_some (l := l) (k := k) (by rw [HN.out]; exact hkl)
      have hA := HA.out.next hG
      have ok := hA.ok hx
      obtain ⟨g, o, rfl, hgr, q0, q1, q2, q3, q4, q5, q6⟩ := hA.at_ k _ hx
      simp only at q0 q1 q2 q3 q4 q5 q6
      have HSK := Lib.hid hSk
      have HX := Lib.hid hx
      have HOK := Lib.hid ok
      have hki : (k : Int) < n := by omega
      have hsz := hG.size
      cases hw : wayR br ⟨xi, xc, xs, ⟨r, q, b, p⟩⟩ with
      | none =>
        obtain ⟨e1, e2⟩ := scan_none hx hw
        rw [← e1, ← e2] at hSk
        have HS2 := Lib.hid hSk
        rcases way_no hw with h3 | ⟨h3, ho⟩
        · have z3 : (xs == 3) = false := beq_eq_false_iff_ne.2 h3
          clear hSk hx ok hA hw e1 e2 h3
          go_wp2_with fail
          exact ⟨⟨k + 1, by omega, by go_num, HS2.out.next (below_box _ _), bw_alloc hG _⟩, by simp [intOf]; omega⟩
        · simp only at h3 ho
          subst h3
          have CO := Lib.hid (fun w' => same_w b br true w' HOK.out.vec.b HBR.out (Lib.hid ho))
          clear hSk hx ok hA hw e1 e2 ho
          go_wp2_with fail
          (with_reducible refine (CO.out _).mono ?_)
          rintro e w1 ⟨rfl, hb1⟩
          have hB1 := bw_trans (below_box wr _) hb1
          clear hb1
          go_wp2_with fail
          exact ⟨⟨k + 1, by omega, by go_num, HS2.out.next hB1, hG.trans (hB1.mono hsz)⟩, by simp [intOf]; omega⟩
      | some wv =>
        obtain ⟨h3, ho, hR⟩ := way_some hw
        simp only at h3 ho hR
        subst h3
        obtain ⟨C, hC⟩ : ∃ C, (raiseR ⟨r, q, b, p⟩ xc).cost = C := ⟨_, rfl⟩
        have hwv : wv = ⟨r, C, b, p⟩ := by rw [← hR, ← hC]; rfl
        subst hwv
        have CO := Lib.hid (fun w' => same_w b br false w' HOK.out.vec.b HBR.out (Lib.hid ho))
        have CR := Lib.hid (fun w' => raise_w r q b p xc C w' (Lib.hid hC) HOK.out.vec.c HOK.out.cost)
        have HW := Lib.hid hw
        clear hSk hx ok hA hw ho hR hC
        go_wp2_with fail
        (with_reducible refine (CO.out _).mono ?_)
        rintro e w1 ⟨rfl, hb1⟩
        have K := (iblk_new 175 wr xi xc 3 r q b p).next hb1
        have hB1 := bw_trans (below_box wr _) hb1
        obtain ⟨p0, p1, p2, p3, p4, p5, p6⟩ := K.cells
        clear hb1
        go_wp2_with fail
        (with_reducible refine (CR.out _).mono ?_)
        rintro e w2 ⟨rfl, hb2⟩
        have hB2 := bw_trans hB1 hb2
        clear p0 p1 p2 p3 p4 p5 p6 K hb2 hB1
        have hG2 : Below w0.heap.size w0 w2 := hG.trans (hB2.mono hsz)
        have hF := step_w br l k xi xc 3 r q b p r C b p bb pb lb g o n cap w2 HX.out HW.out (HA.out.next hG2) HN.out (HSK.out.next hB2)
        go_wp2_with fail
        refine hF.mono ?_
        clear hF
        rintro e w3 ⟨rfl, hS3, hK3⟩
        have HS3 := Lib.hid hS3
        have hG3 := hK3.below hG2 HB.out.1 HB.out.2 hG2.size
        clear hS3 hK3
        go_wp2_with fail
        exact ⟨⟨k + 1, by omega, by go_num, HS3.out, hG3⟩, by simp [intOf]; omega⟩
    · obtain rfl : k = n := by omega
      have e := scan_end br l
      rw [HN.out] at e
      rw [e.1, e.2] at hSk
      have HS2 := Lib.hid hSk
      clear hSk e
      go_wp2
      go_end0
      exact ⟨rfl, HS2.out, hG⟩

set_option maxRecDepth 20000 in
set_option maxHeartbeats 1000000 in
theorem root_w (br : Int) (a : Option Addr) (n cap : Nat) (l : List Inf) (vr vc vb vp P : Int) (w : World) (hbr : u64B br) (h : IRow w a l) (hn : l.length = n) (hl : n ≤ 1000) (hV : Hid (rootV br l = ⟨vr, vc, vb, vp⟩)) (hP : Hid (portI (rootP br l) = P)) :
    Calls Tryz.prog 106 #[.int .u64 br, .slice a n cap] w fun e w' => e = .returned (.tuple #[vv vr vc vb vp, .int .i64 P]) ∧ Below w.heap.size w w' := by
  have HN := Lib.hid hn
  have HA := Lib.hid h
  have HBR := Lib.hid hbr
  clear hn h hbr
  go_enter Tryz.func106, Tryz.ntmps106
  go_wp2_with fail
  (with_reducible refine (mine_w br _).mono ?_)
  rintro e w1 ⟨rfl, hb1⟩
  have L1 := ((one_new 135 w (.slice a n cap)).next (below_box _ (.cells #[.int .u64 0, .int .u64 0, .int .u64 0, .int .u64 0] 47))).next hb1
  have V1 := (blk_new 47 (w.alloc (.cells #[.slice a n cap] 135)) 0 0 0 0).next hb1
  rw [size_box] at V1
  have B1 := bw_trans (bw_alloc (below_box w _) _) hb1
  clear hb1
  have l0 := L1.cell
  have lw := L1.lt
  go_upto_region 2 with (fail)
  obtain ⟨W, hW⟩ : ∃ W, W = (w1.alloc (.cells #[.int .u64 br, .int .u64 0, .int .u64 br, .int .u64 0] 47)).alloc (.cells #[.int .i64 (-1)] 3) := ⟨_, rfl⟩
  have BW : Below w1.heap.size w1 W := by rw [hW]; exact bw_alloc (below_box _ _) _
  have S1 : Scan W w1.heap.size (w1.heap.size + 1) w.heap.size a n cap (mineR br) (-1) := by
    refine ⟨?_, ?_, L1.next BW⟩
    · rw [hW]; exact (blk_new 47 w1 br 0 br 0).next (below_box _ _)
    · have := one_new 3 (w1.alloc (.cells #[.int .u64 br, .int .u64 0, .int .u64 br, .int .u64 0] 47)) (.int .i64 (-1))
      rw [size_box] at this
      rw [hW]; exact this
  rw [← hW]
  have hF := each_w br a n cap w1.heap.size (w1.heap.size + 1) w.heap.size l w1 W HBR.out (HA.out.next B1) HN.out hl BW (Nat.le_refl _) (Nat.le_succ _) S1
  have l2 := S1.row.cell
  clear hW l0 lw L1
  go_wp2_with fail
  refine hF.mono ?_
  clear hF l2 S1 BW
  rintro e w2 ⟨rfl, hS2, hB2⟩
  rw [hV.out, hP.out] at hS2
  have hlt1 : w.heap.size + 1 < w1.heap.size := V1.lt
  have hne1 : ¬ w1.heap.size = w.heap.size + 1 := by omega
  have hne2 : ¬ w1.heap.size + 1 = w.heap.size + 1 := by omega
  have V2 := V1.next hB2
  have B2 := bw_trans B1 hB2
  clear hB2 V1 B1
  obtain ⟨b0, b1, b2, b3⟩ := hS2.best.cells
  have p0 := hS2.port.cell
  obtain ⟨v0, v1, v2, v3⟩ := V2.cells
  have f0 := V2.free 0
  have f1 := V2.free 1
  have f2 := V2.free 2
  have f3 := V2.free 3
  have lb := hS2.best.lt
  have lp := hS2.port.lt
  have HV2 := Lib.hid V2
  have HB2 := Lib.hid B2
  clear hS2 V2 B2
  go_wp2_with fail
  go_region
  go_wp2
  have H4 : Blk 47 (put4 w2 (w.heap.size + 1) vr vc vb vp).drew (w.heap.size + 1) ⟨vr, vc, vb, vp⟩ := HV2.out.set4 vr vc vb vp
  obtain ⟨k0, k1, k2, k3⟩ := H4.cells
  exact bodyPost_ret (v := .tuple #[vv vr vc vb vp, .int .i64 P]) (by simp [results, Tryz.results106, go_sem, k0, k1, k2, k3]) rfl ⟨rfl, (below_put4 HB2.out (by omega) vr vc vb vp).drew⟩
end Go.Proofs.YtldobcfejldbiaaGreatDoor

namespace Go.Proofs.YtldobcfejldbiaaGreatDoor
set_option linter.unusedVariables false
set_option linter.unusedSimpArgs false
open Go.RowKit Vm Rm

theorem infoInt : (Tryz.prog.info? 3).map (fun i => (i.zero, i.size, i.bytes)) = some (some (.int .i64 0), 1, 8) := by kernel_rfl
theorem infoVec : (Tryz.prog.info? 47).map (fun i => (i.zero, i.size, i.bytes)) = some (some (vv 0 0 0 0), 4, 32) := by kernel_rfl
def cellsI (l : List Int) : List Value := l.map (fun n => .int .i64 n)
def cellsV (l : List Vc) : List Value := l.flatMap (fun v => [.int .u64 v.root, .int .u64 v.cost, .int .u64 v.bridge, .int .u64 v.port])
theorem cellsI_add (l : List Int) (x : Int) : cellsI (l ++ [x]) = cellsI l ++ [.int .i64 x] := by simp [cellsI]
theorem cellsV_add (l : List Vc) (v : Vc) : cellsV (l ++ [v]) = cellsV l ++ [.int .u64 v.root, .int .u64 v.cost, .int .u64 v.bridge, .int .u64 v.port] := by simp [cellsV]
theorem cellsV_at {l : List Vc} {j : Nat} {v : Vc} (h : l[j]? = some v) (c : Nat) (hc : c < 4) : (cellsV l)[j * 4 + c]? = [Value.int .u64 v.root, .int .u64 v.cost, .int .u64 v.bridge, .int .u64 v.port][c]? := by
  induction l generalizing j with
  | nil => simp at h
  | cons y l ih =>
    have e : cellsV (y :: l) = [Value.int .u64 y.root, .int .u64 y.cost, .int .u64 y.bridge, .int .u64 y.port] ++ cellsV l := rfl
    rw [e]
    cases j with
    | zero =>
      simp at h
      subst h
      rw [List.getElem?_append_left (by simp; omega)]
      congr 1; omega
    | succ j =>
      rw [List.getElem?_append_right (by simp; omega)]
      have := ih (j := j) (by simpa using h)
      rw [← this]
      congr 1; simp; omega
/-- A row of ints; of vectors. -/
structure NRow (w : World) (a : Option Addr) (l : List Int) : Prop where
  at_ : ∀ j x, l[j]? = some x → ∃ g o : Nat, a = some ⟨g, o, none⟩ ∧ g < w.heap.size ∧ w.cell? ⟨g, o + j, none⟩ = some (.int .i64 x)
structure VRow (w : World) (a : Option Addr) (l : List Vc) : Prop where
  at_ : ∀ j x, l[j]? = some x → ∃ g o : Nat, a = some ⟨g, o, none⟩ ∧ g < w.heap.size ∧ w.cell? ⟨g, o + j * 4, none⟩ = some (.int .u64 x.root) ∧ w.cell? ⟨g, o + j * 4 + 1, none⟩ = some (.int .u64 x.cost) ∧ w.cell? ⟨g, o + j * 4 + 2, none⟩ = some (.int .u64 x.bridge) ∧ w.cell? ⟨g, o + j * 4 + 3, none⟩ = some (.int .u64 x.port)
theorem NRow.next {w w' : World} {a : Option Addr} {l : List Int} (h : NRow w a l) (hb : Below w.heap.size w w') : NRow w' a l :=
  ⟨fun j x hx => by obtain ⟨g, o, e, hg, k⟩ := h.at_ j x hx; exact ⟨g, o, e, Nat.lt_of_lt_of_le hg hb.size, (hb.cell (p := ⟨g, o + j, none⟩) hg).trans k⟩⟩
theorem VRow.next {w w' : World} {a : Option Addr} {l : List Vc} (h : VRow w a l) (hb : Below w.heap.size w w') : VRow w' a l :=
  ⟨fun j x hx => by
    obtain ⟨g, o, e, hg, k0, k1, k2, k3⟩ := h.at_ j x hx
    exact ⟨g, o, e, Nat.lt_of_lt_of_le hg hb.size, (hb.cell (p := ⟨g, o + j * 4, none⟩) hg).trans k0, (hb.cell (p := ⟨g, o + j * 4 + 1, none⟩) hg).trans k1, (hb.cell (p := ⟨g, o + j * 4 + 2, none⟩) hg).trans k2, (hb.cell (p := ⟨g, o + j * 4 + 3, none⟩) hg).trans k3⟩⟩
theorem nrow_owned {w : World} {base : Nat} {v : Value} {l : List Int} (h : w.ownsRow base 3 1 v l.length (cellsI l)) : ∃ (a : Option Addr) (cap : Nat), v = .slice a l.length cap ∧ NRow w a l ∧ ∀ x, a = some x → base ≤ x.block := by
  rcases h.2 with ⟨rfl, h0⟩ | ⟨g, cap, cur, rfl, hbg, hg, hnc, hcm, hcs, htake⟩
  · have : l = [] := List.eq_nil_of_length_eq_zero h0
    subst this
    exact ⟨none, 0, rfl, ⟨fun j x h => by simp at h⟩, fun x e => by cases e⟩
  · refine ⟨_, cap, rfl, ⟨fun j n hj => ⟨g, 0, rfl, (Array.getElem?_eq_some_iff.1 hg).1, ?_⟩⟩, fun x e => by cases e; exact hbg⟩
    have hjl := (List.getElem?_eq_some_iff.1 hj).1
    have hc := h.cellAt j (by omega)
    rw [Nat.zero_add, hc]
    simp [cellsI, hj]
theorem vrow_owned {w : World} {base : Nat} {v : Value} {l : List Vc} (h : w.ownsRow base 47 4 v l.length (cellsV l)) : ∃ (a : Option Addr) (cap : Nat), v = .slice a l.length cap ∧ VRow w a l ∧ ∀ x, a = some x → base ≤ x.block := by
  rcases h.2 with ⟨rfl, h0⟩ | ⟨g, cap, cur, rfl, hbg, hg, hnc, hcm, hcs, htake⟩
  · have : l = [] := List.eq_nil_of_length_eq_zero h0
    subst this
    exact ⟨none, 0, rfl, ⟨fun j x h => by simp at h⟩, fun x e => by cases e⟩
  · refine ⟨_, cap, rfl, ⟨fun j n hj => ⟨g, 0, rfl, (Array.getElem?_eq_some_iff.1 hg).1, ?_⟩⟩, fun x e => by cases e; exact hbg⟩
    have hjl := (List.getElem?_eq_some_iff.1 hj).1
    have key : ∀ c, c < 4 → w.cell? ⟨g, 0 + j * 4 + c, none⟩ = [Value.int .u64 n.root, .int .u64 n.cost, .int .u64 n.bridge, .int .u64 n.port][c]? := fun c hc => by
      have h1 := h.cellAt (j * 4 + c) (by omega)
      rw [cellsV_at hj c hc] at h1
      rw [Nat.zero_add]; exact h1
    exact ⟨key 0 (by omega), key 1 (by omega), key 2 (by omega), key 3 (by omega)⟩

/-! ### What Select answers -/
def offerR (br : Int) (v : Vc) (p : Inf) : Vc := ⟨v.root, v.cost, br, p.id⟩
def offersR (br : Int) (l : List Inf) : List Vc := l.map (offerR br (rootV br l))
def rolesN (br : Int) (l : List Inf) : Nat → List Int
  | 0 => []
  | k + 1 => rolesN br l k ++ (match l[k]? with | some p => [roleAt br l k p] | none => [])
theorem rolesN_succ {br : Int} {l : List Inf} {k : Nat} {p : Inf} (h : l[k]? = some p) : rolesN br l (k + 1) = rolesN br l k ++ [roleAt br l k p] := by rw [rolesN, h]
theorem rolesN_length (br : Int) (l : List Inf) : ∀ k, k ≤ l.length → (rolesN br l k).length = k
  | 0, _ => rfl
  | k + 1, h => by
    obtain ⟨p, hp⟩ := at_some (l := l) (k := k) (by omega)
    rw [rolesN_succ hp, List.length_append, rolesN_length br l k (by omega)]
    rfl
theorem rolesN_at {br : Int} {l : List Inf} {i : Nat} {p : Inf} (hp : l[i]? = some p) : ∀ k, k ≤ l.length → i < k → (rolesN br l k)[i]? = some (roleAt br l i p)
  | 0, _, h => by omega
  | k + 1, hk, h => by
    obtain ⟨q, hq⟩ := at_some (l := l) (k := k) (by omega)
    have hlen := rolesN_length br l k (by omega)
    rw [rolesN_succ hq]
    by_cases e : i = k
    · subst e
      rw [hp] at hq; cases hq
      rw [List.getElem?_append_right (by omega), hlen, Nat.sub_self]
      rfl
    · rw [List.getElem?_append_left (by omega)]
      exact rolesN_at hp k (by omega) (by omega)
theorem offers_succ {br : Int} {v : Vc} {l : List Inf} {k : Nat} {p : Inf} (h : l[k]? = some p) : (l.take (k + 1)).map (offerR br v) = (l.take k).map (offerR br v) ++ [⟨v.root, v.cost, br, p.id⟩] := by
  rw [take_next' h, List.map_append]; rfl
theorem offers_at {br : Int} {l : List Inf} {i : Nat} {p : Inf} (hp : l[i]? = some p) : (offersR br l)[i]? = some (offerR br (rootV br l) p) := by
  unfold offersR
  rw [List.getElem?_map, hp]; rfl
theorem offers_len (br : Int) (l : List Inf) : (offersR br l).length = l.length := by unfold offersR; rw [List.length_map]

/-! ### A result's block -/
abbrev res (r c b p P : Int) (rs os : Value) : Value := .agg #[.int .u64 r, .int .u64 c, .int .u64 b, .int .u64 p, .int .i64 P, rs, os]
def RBlk (w : World) (n : Nat) (r c b p P : Int) (rs os : Value) : Prop := w.heap[n]? = some (.cells #[.int .u64 r, .int .u64 c, .int .u64 b, .int .u64 p, .int .i64 P, rs, os] 132 (0, 0))
theorem RBlk.lt {w : World} {n : Nat} {r c b p P : Int} {rs os : Value} (h : RBlk w n r c b p P rs os) : n < w.heap.size := (Array.getElem?_eq_some_iff.1 h).1
theorem RBlk.next {w w' : World} {n : Nat} {r c b p P : Int} {rs os : Value} (h : RBlk w n r c b p P rs os) (hb : Below w.heap.size w w') : RBlk w' n r c b p P rs os := (hb.block n h.lt).trans h
theorem RBlk.grown {w w' : World} {n : Nat} {r c b p P : Int} {rs os : Value} {x : Option Nat} (h : RBlk w n r c b p P rs os) (hg : w.grownBy w' x) (hne : some n ≠ x) : RBlk w' n r c b p P rs os := (hg.block n h.lt hne).trans h
theorem RBlk.cells {w : World} {n : Nat} {r c b p P : Int} {rs os : Value} (H : RBlk w n r c b p P rs os) :
    w.cell? ⟨n, 0, none⟩ = some (.int .u64 r) ∧ w.cell? ⟨n, 1, none⟩ = some (.int .u64 c) ∧ w.cell? ⟨n, 2, none⟩ = some (.int .u64 b) ∧ w.cell? ⟨n, 3, none⟩ = some (.int .u64 p) ∧ w.cell? ⟨n, 4, none⟩ = some (.int .i64 P) ∧ w.cell? ⟨n, 5, none⟩ = some rs ∧ w.cell? ⟨n, 6, none⟩ = some os := by
  unfold RBlk at H
  refine ⟨?_, ?_, ?_, ?_, ?_, ?_, ?_⟩ <;> simp [World.cell?, H]
theorem RBlk.free {w : World} {n : Nat} {r c b p P : Int} {rs os : Value} (h : RBlk w n r c b p P rs os) (j : Nat) : w.frozen? ⟨n, j, none⟩ = false := by
  unfold RBlk at h
  simp [World.frozen?, h]
theorem RBlk.set5 {w : World} {n : Nat} {r c b p P : Int} {rs os : Value} (h : RBlk w n r c b p P rs os) (u : Value) : RBlk (w.setCell ⟨n, 5, none⟩ u) n r c b p P u os := by
  unfold RBlk at h ⊢; exact blk_set h rfl
theorem RBlk.set6 {w : World} {n : Nat} {r c b p P : Int} {rs os : Value} (h : RBlk w n r c b p P rs os) (u : Value) : RBlk (w.setCell ⟨n, 6, none⟩ u) n r c b p P rs u := by
  unfold RBlk at h ⊢; exact blk_set h rfl
theorem RBlk.other {w : World} {n : Nat} {r c b p P : Int} {rs os : Value} (h : RBlk w n r c b p P rs os) {m : Nat} (j : Nat) (u : Value) (hne : n ≠ m) : RBlk (w.setCell ⟨m, j, none⟩ u) n r c b p P rs os := (Below.heap_setCell w ⟨m, j, none⟩ u n hne).trans h
theorem rblk_new (w : World) (r c b p P : Int) (rs os : Value) : RBlk (w.alloc (.cells #[.int .u64 r, .int .u64 c, .int .u64 b, .int .u64 p, .int .i64 P, rs, os] 132)) w.heap.size r c b p P rs os := heap_alloc_new w _
/-- A block of seven, filled anew. -/
abbrev put7 (w : World) (n : Nat) (r c b p P : Int) (rs os : Value) : World := ((((put4 w n r c b p).setCell ⟨n, 4, none⟩ (.int .i64 P)).setCell ⟨n, 5, none⟩ rs).setCell ⟨n, 6, none⟩ os)
theorem RBlk.put5 {w : World} {n : Nat} {r c b p P : Int} {rs os : Value} (h : RBlk w n r c b p P rs os) (r' c' b' p' P' : Int) : RBlk ((put4 w n r' c' b' p').setCell ⟨n, 4, none⟩ (.int .i64 P')) n r' c' b' p' P' rs os := by
  unfold RBlk at h ⊢; exact blk_set (blk_set (blk_set (blk_set (blk_set h rfl) rfl) rfl) rfl) rfl
theorem RBlk.set7 {w : World} {n : Nat} {r c b p P : Int} {rs os : Value} (h : RBlk w n r c b p P rs os) (r' c' b' p' P' : Int) (rs' os' : Value) : RBlk (put7 w n r' c' b' p' P' rs' os') n r' c' b' p' P' rs' os' := ((h.put5 r' c' b' p' P').set5 rs').set6 os'
theorem below_put7 {B : Nat} {a w : World} (h : Below B a w) {n : Nat} (hn : B ≤ n) (r c b p P : Int) (rs os : Value) : Below B a (put7 w n r c b p P rs os) :=
  (((below_put4 h hn r c b p).setCell (p := ⟨n, 4, none⟩) hn _).setCell (p := ⟨n, 5, none⟩) hn _).setCell (p := ⟨n, 6, none⟩) hn _
theorem own_far {w : World} {base x : Nat} {T : TypeId} {s : Nat} {v : Value} {k : Nat} {xs : List Value} (h : w.ownsRow base T s v k xs) (hx : x < base) : some x ≠ v.ownBlock := by
  intro e
  have := (h.lt x e.symm).1
  omega
/-- Rows of two types lie in two blocks. -/
theorem own_apart {w : World} {base base' : Nat} {T T' : TypeId} {s s' : Nat} {v v' : Value} {k k' : Nat} {xs xs' : List Value} (h : w.ownsRow base T s v k xs) (h' : w.ownsRow base' T' s' v' k' xs') (hT : T ≠ T') : v.ownBlock = none ∨ v.ownBlock ≠ v'.ownBlock := by
  rcases h.2 with ⟨rfl, _⟩ | ⟨g, cap, cur, rfl, _, hg, _⟩
  · exact .inl rfl
  · right
    intro e
    rcases h'.2 with ⟨rfl, _⟩ | ⟨g', cap', cur', rfl, _, hg', _⟩
    · simp [Value.ownBlock] at e
    · simp [Value.ownBlock] at e
      subst e
      rw [hg] at hg'
      simp at hg'
      exact hT hg'.2
theorem grown_set (w : World) (b i : Nat) (v : Value) : w.grownBy (w.setCell ⟨b, i, none⟩ v) (some b) :=
  ⟨rfl, rfl, rfl, by show w.heap.size ≤ (w.heap.modify _ _).size; simp, fun k _ h => Below.heap_setCell w ⟨b, i, none⟩ v k (fun e => h (by rw [show k = b from e]))⟩

set_option maxHeartbeats 1000000 in
theorem select_bad (br : Int) (a : Option Addr) (cap : Nat) (l : List Inf) (w : World) (h : IRow w a l) (hl : l.length ≤ 1000) (hcap : l.length ≤ cap) (hR : Hid (rightR l = false)) :
    Calls Tryz.prog 62 #[.int .u64 br, .slice a l.length cap] w fun e w' => e = .returned (.tuple #[res 0 0 0 0 0 (.slice none 0 0) (.slice none 0 0), .int .i64 2]) ∧ Below w.heap.size w w' := by
  have CR := Lib.hid (fun w' (hb : Below w.heap.size w w') => right_w a cap l false w' (h.next hb) hl hcap hR)
  clear h hl hcap hR
  obtain ⟨n, hn⟩ : ∃ n, l.length = n := ⟨_, rfl⟩
  rw [hn] at CR ⊢
  clear hn
  go_enter Tryz.func62, Tryz.ntmps62
  go_wp2_with fail
  refine (CR.out _ (below_box _ _)).mono ?_
  rintro e w1 ⟨rfl, hb1⟩
  have K := Lib.hid ((rblk_new w 0 0 0 0 0 (.slice none 0 0) (.slice none 0 0)).next hb1)
  have B1 := bw_trans (below_box w _) hb1
  clear hb1
  obtain ⟨k0, k1, k2, k3, k4, k5, k6⟩ := K.out.cells
  have f0 := K.out.free 0
  have f1 := K.out.free 1
  have f2 := K.out.free 2
  have f3 := K.out.free 3
  have f4 := K.out.free 4
  have f5 := K.out.free 5
  have f6 := K.out.free 6
  go_wp2
  obtain ⟨z0, z1, z2, z3, z4, z5, z6⟩ := (K.out.set7 0 0 0 0 0 (.slice none 0 0) (.slice none 0 0)).cells
  exact bodyPost_ret (v := .tuple #[res 0 0 0 0 0 (.slice none 0 0) (.slice none 0 0), .int .i64 2]) (by simp [results, Tryz.results62, go_sem, z0, z1, z2, z3, z4, z5, z6]) rfl ⟨rfl, below_put7 B1 (Nat.le_refl _) _ _ _ _ _ _ _⟩
end Go.Proofs.YtldobcfejldbiaaGreatDoor

namespace Go.Proofs.YtldobcfejldbiaaGreatDoor
set_option linter.unusedVariables false
set_option linter.unusedSimpArgs false
open Go.RowKit Vm Rm

def seven (x : Inf) : List Value := [.int .u64 x.id, .int .u64 x.cost, .int .i64 x.source, .int .u64 x.vec.root, .int .u64 x.vec.cost, .int .u64 x.vec.bridge, .int .u64 x.vec.port]
def cellsP (l : List Inf) : List Value := l.flatMap seven
theorem cellsP_add (l : List Inf) (x : Inf) : cellsP (l ++ [x]) = cellsP l ++ seven x := by simp [cellsP]
theorem cellsP_at {l : List Inf} {j : Nat} {x : Inf} (h : l[j]? = some x) (c : Nat) (hc : c < 7) : (cellsP l)[j * 7 + c]? = (seven x)[c]? := by
  induction l generalizing j with
  | nil => simp at h
  | cons y l ih =>
    have e : cellsP (y :: l) = seven y ++ cellsP l := rfl
    have ly : (seven y).length = 7 := rfl
    rw [e]
    cases j with
    | zero =>
      simp at h
      subst h
      rw [List.getElem?_append_left (by omega)]
      congr 1; omega
    | succ j =>
      rw [List.getElem?_append_right (by omega), ly]
      have := ih (j := j) (by simpa using h)
      rw [← this]
      congr 1; omega
theorem irow_owned {w : World} {base : Nat} {T : TypeId} {v : Value} {l : List Inf} (h : w.ownsRow base T 7 v l.length (cellsP l)) (hr : ∀ x ∈ l, InfOk x) : ∃ (a : Option Addr) (cap : Nat), v = .slice a l.length cap ∧ l.length ≤ cap ∧ IRow w a l := by
  rcases h.2 with ⟨rfl, h0⟩ | ⟨g, cap, cur, rfl, hbg, hg, hnc, hcm, hcs, htake⟩
  · have : l = [] := List.eq_nil_of_length_eq_zero h0
    subst this
    exact ⟨none, 0, rfl, Nat.le_refl _, ⟨fun j x h => by simp at h, hr⟩⟩
  · refine ⟨_, cap, rfl, hnc, ⟨fun j n hj => ⟨g, 0, rfl, (Array.getElem?_eq_some_iff.1 hg).1, ?_⟩, hr⟩⟩
    have hjl := (List.getElem?_eq_some_iff.1 hj).1
    have key : ∀ c, c < 7 → w.cell? ⟨g, 0 + j * 7 + c, none⟩ = (seven n)[c]? := fun c hc => by
      have h1 := h.cellAt (j * 7 + c) (by omega)
      rw [cellsP_at hj c hc] at h1
      rw [Nat.zero_add]; exact h1
    exact ⟨key 0 (by omega), key 1 (by omega), key 2 (by omega), key 3 (by omega), key 4 (by omega), key 5 (by omega), key 6 (by omega)⟩
theorem infoP : (Tryz.prog.info? 175).map (fun i => (i.zero, i.size, i.bytes)) = some (some (iv 0 0 0 0 0 0 0), 7, 56) := by kernel_rfl
end Go.Proofs.YtldobcfejldbiaaGreatDoor
