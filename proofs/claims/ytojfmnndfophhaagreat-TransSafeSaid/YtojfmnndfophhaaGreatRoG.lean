/-
  Layer 8: eachWay with root's closure; root.
-/
import Derived.Test.YtojfmnndfophhaaGreatRoF
namespace Go.Proofs.YtojfmnndfophhaaGreat
set_option linter.unusedVariables false
set_option linter.unusedSimpArgs false
open Go.RowKit Vm Rm

theorem portI_some (j : Nat) : portI (some j) = (j : Int) := rfl
theorem step_w (br : Int) (l : List Inf) (k : Nat) (i c s r q b p wr wc wb wp : Int) (bb pb lb g o n cap : Nat) (w : World)
    (hx : l[k]? = some ⟨i, c, s, ⟨r, q, b, p⟩⟩) (hw : wayR br ⟨i, c, s, ⟨r, q, b, p⟩⟩ = some ⟨wr, wc, wb, wp⟩)
    (hA : IRow w (some ⟨g, o, none⟩) l) (hn : l.length = n)
    (hS : Scan w bb pb lb (some ⟨g, o, none⟩) n cap (rootV br (l.take k)) (portI (scanP br l k))) :
    Calls Tryz.prog 94 #[.int .i64 k, vv wr wc wb wp, .pointer (some ⟨bb, 0, none⟩), .pointer (some ⟨pb, 0, none⟩), .pointer (some ⟨lb, 0, none⟩)] w fun e w' =>
      e = .returned (.tuple #[]) ∧ Scan w' bb pb lb (some ⟨g, o, none⟩) n cap (rootV br (l.take (k + 1))) (portI (scanP br l (k + 1))) ∧ Kept2 bb pb w w' := by
  have hk : k < n := by rw [← hn]; exact (List.getElem?_eq_some_iff.1 hx).1
  obtain ⟨g', o', e', hg, hc⟩ := hA.at_ k _ hx
  obtain ⟨rfl, rfl⟩ : g = g' ∧ o = o' := by cases e'; exact ⟨rfl, rfl⟩
  have c1 : w.cell? ⟨g, o + k * 7, none⟩ = some (.int .u64 i) := hc.1
  obtain ⟨⟨vr, vc, vb, vp⟩, hv⟩ : ∃ v, rootV br (l.take k) = v := ⟨_, rfl⟩
  obtain ⟨X, hX⟩ : ∃ X, cmpR ⟨wr, wc, wb, wp⟩ ⟨vr, vc, vb, vp⟩ = X := ⟨_, rfl⟩
  have hXr : cmpR ⟨wr, wc, wb, wp⟩ (rootV br (l.take k)) = X := by rw [hv]; exact hX
  rcases Int.lt_trichotomy X 0 with h | h | h
  · obtain ⟨e1, e2⟩ := scan_less hx hw (by rw [hXr]; exact h)
    rw [e1, e2]
    rw [hv] at hS
    exact take_w k 0 wr wc wb wp vr vc vb vp X _ 0 0 bb pb lb g o n cap w hS (Lib.hid hX) hk hg (.inl h)
  · subst h
    cases ho : scanP br l k with
    | none =>
      obtain ⟨e1, e2⟩ := scan_same_none hx hw hXr ho
      rw [e1, e2]
      rw [ho] at hS
      rw [hv] at hS ⊢
      exact keep_w k 0 wr wc wb wp vr vc vb vp 0 _ 0 0 bb pb lb g o n cap w hS (Lib.hid hX) hk hg (.inr (.inl ⟨rfl, rfl⟩))
    | some j =>
      have hj : j < n := Nat.lt_trans (scan_lt (by omega) ho) hk
      obtain ⟨y, hy⟩ := at_some (l := l) (k := j) (by omega)
      obtain ⟨g', o', e'', hg', hcy⟩ := hA.at_ j _ hy
      obtain ⟨rfl, rfl⟩ : g = g' ∧ o = o' := by cases e''; exact ⟨rfl, rfl⟩
      have c2 : w.cell? ⟨g, o + j * 7, none⟩ = some (.int .u64 y.id) := hcy.1
      obtain ⟨e1, e2, e3⟩ := scan_same_some hx hw hXr ho hy
      rw [ho] at hS
      by_cases hid : i < y.id
      · rw [e1, e3, if_pos hid, e2]
        rw [hv] at hS
        exact take_w k j wr wc wb wp vr vc vb vp 0 _ i y.id bb pb lb g o n cap w hS (Lib.hid hX) hk hg (.inr ⟨rfl, rfl, hj, hid, c1, c2⟩)
      · rw [e1, e3, if_neg hid]
        rw [hv] at hS ⊢
        exact keep_w k j wr wc wb wp vr vc vb vp 0 _ i y.id bb pb lb g o n cap w hS (Lib.hid hX) hk hg (.inr (.inr ⟨rfl, rfl, hj, hid, c1, c2⟩))
  · obtain ⟨e1, e2⟩ := scan_more hx hw (by rw [hXr]; exact h)
    rw [e1, e2]
    rw [hv] at hS ⊢
    exact keep_w k 0 wr wc wb wp vr vc vb vp X _ 0 0 bb pb lb g o n cap w hS (Lib.hid hX) hk hg (.inl h)

def EInv (br : Int) (l : List Inf) (bb pb lb : Nat) (a : Option Addr) (n cap : Nat) (w0 : World) (v : Value) (wr : World) : Prop :=
  ∃ k : Nat, k ≤ n ∧ v = .int .i64 (k : Nat) ∧ Scan wr bb pb lb a n cap (rootV br (l.take k)) (portI (scanP br l k)) ∧ Below w0.heap.size w0 wr

set_option maxRecDepth 20000 in
set_option maxHeartbeats 1000000 in
theorem each_w (br : Int) (a : Option Addr) (n cap bb pb lb : Nat) (l : List Inf) (w0 w : World) (hbr : u64B br) (h : IRow w0 a l) (hn : l.length = n) (hl : n ≤ 1000) (hb0 : Below w0.heap.size w0 w)
    (hbb : w0.heap.size ≤ bb) (hpb : w0.heap.size ≤ pb) (hS : Scan w bb pb lb a n cap (mineR br) (-1)) :
    Calls Tryz.prog 93 #[.int .u64 br, .slice a n cap, .func (.func 94) #[] #[.pointer (some ⟨bb, 0, none⟩), .pointer (some ⟨pb, 0, none⟩), .pointer (some ⟨lb, 0, none⟩)]] w fun e w' =>
      e = .returned (.tuple #[]) ∧ Scan w' bb pb lb a n cap (rootV br l) (portI (rootP br l)) ∧ Below w0.heap.size w0 w' := by
  have HN := Lib.hid hn
  have HA := Lib.hid h
  have HS := Lib.hid hS
  have HB := Lib.hid (And.intro hbb hpb)
  have HBR := Lib.hid hbr
  clear hn h hS hbb hpb hbr
  go_enter Tryz.func93, Tryz.ntmps93
  go_wp2_with fail
  go_loopw [10] (fun v wr => EInv br l bb pb lb a n cap w0 v wr) (fun v _ => n - (intOf v).toNat)
  case atStart =>
    refine ⟨0, Nat.zero_le _, rfl, ?_, hb0⟩
    rw [(scan_zero br l).1, (scan_zero br l).2]
    exact HS.out
  case round =>
    obtain ⟨k, hk, rfl, hSk, hG⟩ := hrel
    by_cases hkl : k < n
    · obtain ⟨⟨xi, xc, xs, ⟨r, q, b, p⟩⟩, hx⟩ := at_some (l := l) (k := k) (by rw [HN.out]; exact hkl)
      have hA := HA.out.next hG
      have ok := hA.ok hx
      obtain ⟨g, o, rfl, hgr, q0, q1, q2, q3, q4, q5, q6⟩ := hA.at_ k _ hx
      simp only at q0 q1 q2 q3 q4 q5 q6
      have HSK := Lib.hid hSk
      have HX := Lib.hid hx
      have HOK := Lib.hid ok
      have hki : (k : Int) < n := by omega
      have hsz := hG.size
      cases hw : wayR br ⟨xi, xc, xs, ⟨r, q, b, p⟩⟩ with
      | none =>
        obtain ⟨e1, e2⟩ := scan_none hx hw
        rw [← e1, ← e2] at hSk
        have HS2 := Lib.hid hSk
        rcases way_no hw with h3 | ⟨h3, ho⟩
        · have z3 : (xs == 3) = false := beq_eq_false_iff_ne.2 h3
          clear hSk hx ok hA hw e1 e2 h3
          go_wp2_with fail
          exact ⟨⟨k + 1, by omega, by go_num, HS2.out.next (below_box _ _), bw_alloc hG _⟩, by simp [intOf]; omega⟩
        · simp only at h3 ho
          subst h3
          have CO := Lib.hid (fun w' => same_w b br true w' HOK.out.vec.b HBR.out (Lib.hid ho))
          clear hSk hx ok hA hw e1 e2 ho
          go_wp2_with fail
          (with_reducible refine (CO.out _).mono ?_)
          rintro e w1 ⟨rfl, hb1⟩
          have hB1 := bw_trans (below_box wr _) hb1
          clear hb1
          go_wp2_with fail
          exact ⟨⟨k + 1, by omega, by go_num, HS2.out.next hB1, hG.trans (hB1.mono hsz)⟩, by simp [intOf]; omega⟩
      | some wv =>
        obtain ⟨h3, ho, hR⟩ := way_some hw
        simp only at h3 ho hR
        subst h3
        obtain ⟨C, hC⟩ : ∃ C, (raiseR ⟨r, q, b, p⟩ xc).cost = C := ⟨_, rfl⟩
        have hwv : wv = ⟨r, C, b, p⟩ := by rw [← hR, ← hC]; rfl
        subst hwv
        have CO := Lib.hid (fun w' => same_w b br false w' HOK.out.vec.b HBR.out (Lib.hid ho))
        have CR := Lib.hid (fun w' => raise_w r q b p xc C w' (Lib.hid hC) HOK.out.vec.c HOK.out.cost)
        have HW := Lib.hid hw
        clear hSk hx ok hA hw ho hR hC
        go_wp2_with fail
        (with_reducible refine (CO.out _).mono ?_)
        rintro e w1 ⟨rfl, hb1⟩
        have K := (iblk_new 81 wr xi xc 3 r q b p).next hb1
        have hB1 := bw_trans (below_box wr _) hb1
        obtain ⟨p0, p1, p2, p3, p4, p5, p6⟩ := K.cells
        clear hb1
        go_wp2_with fail
        (with_reducible refine (CR.out _).mono ?_)
        rintro e w2 ⟨rfl, hb2⟩
        have hB2 := bw_trans hB1 hb2
        clear p0 p1 p2 p3 p4 p5 p6 K hb2 hB1
        have hG2 : Below w0.heap.size w0 w2 := hG.trans (hB2.mono hsz)
        have hF := step_w br l k xi xc 3 r q b p r C b p bb pb lb g o n cap w2 HX.out HW.out (HA.out.next hG2) HN.out (HSK.out.next hB2)
        go_wp2_with fail
        refine hF.mono ?_
        clear hF
        rintro e w3 ⟨rfl, hS3, hK3⟩
        have HS3 := Lib.hid hS3
        have hG3 := hK3.below hG2 HB.out.1 HB.out.2 hG2.size
        clear hS3 hK3
        go_wp2_with fail
        exact ⟨⟨k + 1, by omega, by go_num, HS3.out, hG3⟩, by simp [intOf]; omega⟩
    · obtain rfl : k = n := by omega
      have e := scan_end br l
      rw [HN.out] at e
      rw [e.1, e.2] at hSk
      have HS2 := Lib.hid hSk
      clear hSk e
      go_wp2
      go_end0
      exact ⟨rfl, HS2.out, hG⟩

set_option maxRecDepth 20000 in
set_option maxHeartbeats 1000000 in
theorem root_w (br : Int) (a : Option Addr) (n cap : Nat) (l : List Inf) (vr vc vb vp P : Int) (w : World) (hbr : u64B br) (h : IRow w a l) (hn : l.length = n) (hl : n ≤ 1000) (hV : Hid (rootV br l = ⟨vr, vc, vb, vp⟩)) (hP : Hid (portI (rootP br l) = P)) :
    Calls Tryz.prog 43 #[.int .u64 br, .slice a n cap] w fun e w' => e = .returned (.tuple #[vv vr vc vb vp, .int .i64 P]) ∧ Below w.heap.size w w' := by
  have HN := Lib.hid hn
  have HA := Lib.hid h
  have HBR := Lib.hid hbr
  clear hn h hbr
  go_enter Tryz.func43, Tryz.ntmps43
  go_wp2_with fail
  (with_reducible refine (mine_w br _).mono ?_)
  rintro e w1 ⟨rfl, hb1⟩
  have L1 := ((one_new 68 w (.slice a n cap)).next (below_box _ (.cells #[.int .u64 0, .int .u64 0, .int .u64 0, .int .u64 0] 32))).next hb1
  have V1 := (blk_new 32 (w.alloc (.cells #[.slice a n cap] 68)) 0 0 0 0).next hb1
  rw [size_box] at V1
  have B1 := bw_trans (bw_alloc (below_box w _) _) hb1
  clear hb1
  have l0 := L1.cell
  have lw := L1.lt
  go_upto_region 2 with (fail)
  obtain ⟨W, hW⟩ : ∃ W, W = (w1.alloc (.cells #[.int .u64 br, .int .u64 0, .int .u64 br, .int .u64 0] 32)).alloc (.cells #[.int .i64 (-1)] 3) := ⟨_, rfl⟩
  have BW : Below w1.heap.size w1 W := by rw [hW]; exact bw_alloc (below_box _ _) _
  have S1 : Scan W w1.heap.size (w1.heap.size + 1) w.heap.size a n cap (mineR br) (-1) := by
    refine ⟨?_, ?_, L1.next BW⟩
    · rw [hW]; exact (blk_new 32 w1 br 0 br 0).next (below_box _ _)
    · have := one_new 3 (w1.alloc (.cells #[.int .u64 br, .int .u64 0, .int .u64 br, .int .u64 0] 32)) (.int .i64 (-1))
      rw [size_box] at this
      rw [hW]; exact this
  rw [← hW]
  have hF := each_w br a n cap w1.heap.size (w1.heap.size + 1) w.heap.size l w1 W HBR.out (HA.out.next B1) HN.out hl BW (Nat.le_refl _) (Nat.le_succ _) S1
  have l2 := S1.row.cell
  clear hW l0 lw L1
  go_wp2_with fail
  refine hF.mono ?_
  clear hF l2 S1 BW
  rintro e w2 ⟨rfl, hS2, hB2⟩
  rw [hV.out, hP.out] at hS2
  have hlt1 : w.heap.size + 1 < w1.heap.size := V1.lt
  have hne1 : ¬ w1.heap.size = w.heap.size + 1 := by omega
  have hne2 : ¬ w1.heap.size + 1 = w.heap.size + 1 := by omega
  have V2 := V1.next hB2
  have B2 := bw_trans B1 hB2
  clear hB2 V1 B1
  obtain ⟨b0, b1, b2, b3⟩ := hS2.best.cells
  have p0 := hS2.port.cell
  obtain ⟨v0, v1, v2, v3⟩ := V2.cells
  have f0 := V2.free 0
  have f1 := V2.free 1
  have f2 := V2.free 2
  have f3 := V2.free 3
  have lb := hS2.best.lt
  have lp := hS2.port.lt
  have HV2 := Lib.hid V2
  have HB2 := Lib.hid B2
  clear hS2 V2 B2
  go_wp2_with fail
  go_region
  go_wp2
  have H4 : Blk 32 (put4 w2 (w.heap.size + 1) vr vc vb vp).drew (w.heap.size + 1) ⟨vr, vc, vb, vp⟩ := HV2.out.set4 vr vc vb vp
  obtain ⟨k0, k1, k2, k3⟩ := H4.cells
  exact bodyPost_ret (v := .tuple #[vv vr vc vb vp, .int .i64 P]) (by simp [results, Tryz.results43, go_sem, k0, k1, k2, k3]) rfl ⟨rfl, (below_put4 HB2.out (by omega) vr vc vb vp).drew⟩
end Go.Proofs.YtojfmnndfophhaaGreat
