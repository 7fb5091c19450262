/-
  Layer 8: the document's Root and Role.
-/
import Derived.Test.YtkakjkdjjapiaaaRoG
namespace Go.Proofs.Ytkakjkdjjapiaaa
set_option linter.unusedVariables false
set_option linter.unusedSimpArgs false
open Go.RowKit Vm Rm

theorem Blk.put {T : TypeId} {w : World} {b n : Nat} {x : Vc} (h : Blk T w b x) (r c br p : Int) (hne : b ≠ n) : Blk T (put4 w n r c br p) b x :=
  (((h.other 0 _ hne).other 1 _ hne).other 2 _ hne).other 3 _ hne
/-- Behind k rounds of the first loop. -/
def H1Inv (br : Int) (l : List Inf) (n rb bb : Nat) (w : World) (v : Value) (wr : World) : Prop :=
  ∃ k : Nat, k ≤ n ∧ v = .int .i64 (k : Nat) ∧ Blk 28 wr bb (rootV br (l.take k)) ∧ Blk 28 wr rb ⟨0, 0, 0, 0⟩ ∧ Below w.heap.size w wr
/-- Behind k rounds of the second. -/
def H2Inv (br : Int) (l : List Inf) (V : Vc) (n rb bb : Nat) (w : World) (o v : Value) (wr : World) : Prop :=
  ∃ k : Nat, k ≤ n ∧ v = .int .i64 (k : Nat) ∧ o = .int .i64 (portI (portN br V l k)) ∧ Blk 28 wr bb V ∧ Blk 28 wr rb ⟨0, 0, 0, 0⟩ ∧ Below w.heap.size w wr
theorem way_eq {br i c s r q b p : Int} {wv : Vc} (hw : wayR br ⟨i, c, s, ⟨r, q, b, p⟩⟩ = some wv) : ∃ C, wv = ⟨r, C, b, p⟩ ∧ (s = 3 ∧ ownB ⟨r, q, b, p⟩ br = false ∧ (raiseR ⟨r, q, b, p⟩ c).cost = C) := by
  obtain ⟨h3, ho, hR⟩ := way_some hw
  simp only at h3 ho hR
  exact ⟨_, hR.symm.trans rfl, h3, ho, rfl⟩
theorem root_step_no {br : Int} {l : List Inf} {k : Nat} {p : Inf} (h : l[k]? = some p) (hw : wayR br p = none) : rootV br (l.take (k + 1)) = rootV br (l.take k) := (scan_none h hw).1
theorem root_step_less {br : Int} {l : List Inf} {k : Nat} {p : Inf} {w : Vc} (h : l[k]? = some p) (hw : wayR br p = some w) (hc : cmpR w (rootV br (l.take k)) < 0) : rootV br (l.take (k + 1)) = w := (scan_less h hw hc).1
theorem root_step_not {br : Int} {l : List Inf} {k : Nat} {p : Inf} {w : Vc} (h : l[k]? = some p) (hw : wayR br p = some w) (hc : ¬ cmpR w (rootV br (l.take k)) < 0) : rootV br (l.take (k + 1)) = rootV br (l.take k) := by
  rw [root_next h]; unfold stepV; rw [hw]; simp only
  rw [if_neg hc]

theorem port_next_none {br : Int} {v : Vc} {l : List Inf} {k : Nat} {p : Inf} (h : l[k]? = some p) (hw : wayR br p = some v) (ho : portN br v l k = none) : portN br v l (k + 1) = some k := by
  rw [portN, h]
  simp only
  rw [if_pos hw, ho]
theorem port_next_some {br : Int} {v : Vc} {l : List Inf} {k j : Nat} {p q : Inf} (h : l[k]? = some p) (hw : wayR br p = some v) (ho : portN br v l k = some j) (hq : l[j]? = some q) : portN br v l (k + 1) = if p.id < q.id then some k else some j := by
  rw [portN, h]
  simp only
  rw [if_pos hw, ho]
  simp only [hq]

set_option maxRecDepth 20000 in
set_option maxHeartbeats 2000000 in
theorem root8_w (br : Int) (a : Option Addr) (n cap : Nat) (l : List Inf) (vr vc vb vp P : Int) (w : World) (hbr : u64B br) (h : IRow w a l) (hn : l.length = n) (hl : n ≤ 1000) (hV : Hid (rootV br l = ⟨vr, vc, vb, vp⟩)) (hP : Hid (portI (rootP br l) = P)) :
    Calls Try.prog 11 #[.int .u64 br, .slice a n cap] w fun e w' => e = .returned (.tuple #[vv vr vc vb vp, .int .i64 P]) ∧ Below w.heap.size w w' := by
  have HN := Lib.hid hn
  have HA := Lib.hid h
  have HBR := Lib.hid hbr
  clear hn h hbr
  have hq := run_vcEq vr vc vb vp br 0 br 0
  go_enter Try.func11, Try.ntmps11
  go_wp2_with fail
  obtain ⟨rb, hrb⟩ : ∃ rb, rb = w.heap.size := ⟨_, rfl⟩
  obtain ⟨bb, hbb⟩ : ∃ bb, bb = w.heap.size + 1 := ⟨_, rfl⟩
  obtain ⟨W, hW⟩ : ∃ W, W = (w.alloc (.cells #[.int .u64 0, .int .u64 0, .int .u64 0, .int .u64 0] 28)).alloc (.cells #[.int .u64 br, .int .u64 0, .int .u64 br, .int .u64 0] 28) := ⟨_, rfl⟩
  have V1 : Blk 28 W rb ⟨0, 0, 0, 0⟩ := by
    rw [hW, hrb]; exact (blk_new 28 w 0 0 0 0).next (below_box _ _)
  have V2 : Blk 28 W bb (mineR br) := by
    have := blk_new 28 (w.alloc (.cells #[.int .u64 0, .int .u64 0, .int .u64 0, .int .u64 0] 28)) br 0 br 0
    rw [size_box] at this
    rw [hW, hbb]; exact this
  have B1 : Below w.heap.size w W := by rw [hW]; exact bw_alloc (below_box _ _) _
  have hne : bb ≠ rb := by omega
  have hbl : w.heap.size ≤ bb := by omega
  have hrl : w.heap.size ≤ rb := by omega
  rw [← hW, ← hbb, ← hrb]
  have HX := Lib.hid (And.intro V1 (And.intro V2 B1))
  clear hW hbb hrb V1 V2 B1
  go_loopw [7] (fun v wr => H1Inv br l n rb bb w v wr) (fun v _ => n - (intOf v).toNat)
  case atStart => exact ⟨0, Nat.zero_le _, rfl, HX.out.2.1, HX.out.1, HX.out.2.2⟩
  case round =>
    obtain ⟨k, hk, rfl, hK, hR, hG⟩ := hrel
    by_cases hkl : k < n
    · obtain ⟨⟨xi, xc, xs, ⟨r, q, b, p⟩⟩, hx⟩ := at_some (l := l) (k := k) (by rw [HN.out]; exact hkl)
      have hA := HA.out.next hG
      have ok := hA.ok hx
      obtain ⟨g, o, rfl, hgr, q0, q1, q2, q3, q4, q5, q6⟩ := hA.at_ k _ hx
      simp only at q0 q1 q2 q3 q4 q5 q6
      have hki : (k : Int) < n := by omega
      have HOK := Lib.hid ok
      obtain ⟨⟨br1, bc1, bb1, bp1⟩, hv⟩ : ∃ v, rootV br (l.take k) = v := ⟨_, rfl⟩
      cases hw : wayR br ⟨xi, xc, xs, ⟨r, q, b, p⟩⟩ with
      | none =>
        have HE := Lib.hid (root_step_no hx hw)
        have CW := Lib.hid (fun w' => wayNo_w br xi xc xs r q b p w' (Lib.hid hw) HOK.out.vec.b HBR.out)
        have HKR := Lib.hid (And.intro hK hR)
        clear hK hR hw ok hA hx hv
        go_wp2_with fail
        (with_reducible refine (CW.out _).mono ?_)
        rintro e w1 ⟨rfl, hb1⟩
        go_wp2_with fail
        have B2 := bw_alloc hb1 (.cells #[.int .u64 0, .int .u64 0, .int .u64 0, .int .u64 0] 28)
        exact ⟨⟨k + 1, by omega, by go_num, by rw [HE.out]; exact HKR.out.1.next B2, HKR.out.2.next B2, hG.trans (B2.mono hG.size)⟩, by simp [intOf]; omega⟩
      | some wv =>
        obtain ⟨C, rfl, hwy⟩ := way_eq hw
        have CW := Lib.hid (fun w' => wayYes_w br xi xc xs r q b p C w' (Lib.hid hwy) HOK.out.vec.b HBR.out HOK.out.vec.c HOK.out.cost)
        obtain ⟨X, hX⟩ : ∃ X, cmpR ⟨r, C, b, p⟩ ⟨br1, bc1, bb1, bp1⟩ = X := ⟨_, rfl⟩
        have HC := Lib.hid hX
        have HK := Lib.hid (hv ▸ hK)
        have HR := Lib.hid hR
        have hbk := hK.lt
        have hrk := hR.lt
        by_cases hlt : X < 0
        · have HE := Lib.hid (root_step_less hx hw (by rw [hv, hX]; exact hlt))
          clear hK hR hw ok hA hx hwy hX hv
          go_wp2_with fail
          (with_reducible refine (CW.out _).mono ?_)
          rintro e w1 ⟨rfl, hb1⟩
          have lw := hb1.size
          have K1 := (HK.out.next hb1).next (below_box w1 (.cells #[.int .u64 r, .int .u64 C, .int .u64 b, .int .u64 p] 28))
          obtain ⟨k0, k1, k2, k3⟩ := K1.cells
          go_wp2_with fail
          (with_reducible refine (compare5_w r C b p br1 bc1 bb1 bp1 X _ HC).mono ?_)
          rintro e w2 ⟨rfl, hb2⟩
          have K2 := Lib.hid (K1.next hb2)
          have N2 := Lib.hid ((blk_new 28 w1 r C b p).next hb2)
          have hB2 := bw_trans (bw_alloc hb1 (.cells #[.int .u64 r, .int .u64 C, .int .u64 b, .int .u64 p] 28)) hb2
          have R2 := Lib.hid (HR.out.next hB2)
          clear k0 k1 k2 k3 K1 hb1 hb2
          obtain ⟨k0, k1, k2, k3⟩ := K2.out.cells
          obtain ⟨m0, m1, m2, m3⟩ := N2.out.cells
          have f0 := K2.out.free 0
          have f1 := K2.out.free 1
          have f2 := K2.out.free 2
          have f3 := K2.out.free 3
          go_wp2_with fail
          exact ⟨⟨k + 1, by omega, by go_num, by rw [HE.out]; exact K2.out.set4 r C b p, R2.out.put r C b p (Ne.symm hne), below_put4 (hG.trans (hB2.mono hG.size)) hbl r C b p⟩, by simp [intOf]; omega⟩
        · have HE := Lib.hid ((root_step_not hx hw (by rw [hv, hX]; exact hlt)).trans hv)
          clear hK hR hw ok hA hx hwy hX hv
          go_wp2_with fail
          (with_reducible refine (CW.out _).mono ?_)
          rintro e w1 ⟨rfl, hb1⟩
          have lw := hb1.size
          have K1 := (HK.out.next hb1).next (below_box w1 (.cells #[.int .u64 r, .int .u64 C, .int .u64 b, .int .u64 p] 28))
          obtain ⟨k0, k1, k2, k3⟩ := K1.cells
          go_wp2_with fail
          (with_reducible refine (compare5_w r C b p br1 bc1 bb1 bp1 X _ HC).mono ?_)
          rintro e w2 ⟨rfl, hb2⟩
          have hB2 := bw_trans (bw_alloc hb1 (.cells #[.int .u64 r, .int .u64 C, .int .u64 b, .int .u64 p] 28)) hb2
          clear k0 k1 k2 k3 K1 hb1 hb2
          go_wp2_with fail
          exact ⟨⟨k + 1, by omega, by go_num, by rw [HE.out]; exact HK.out.next hB2, HR.out.next hB2, hG.trans (hB2.mono hG.size)⟩, by simp [intOf]; omega⟩
    · obtain rfl : k = n := by omega
      rw [← HN.out, List.take_length, hV.out] at hK
      have HK := Lib.hid hK
      have HR := Lib.hid hR
      have HG := Lib.hid hG
      clear hK hR
      obtain ⟨k0, k1, k2, k3⟩ := HK.out.cells
      obtain ⟨r0, r1, r2, r3⟩ := HR.out.cells
      have f0 := HR.out.free 0
      have f1 := HR.out.free 1
      have f2 := HR.out.free 2
      have f3 := HR.out.free 3
      by_cases hm : (⟨vr, vc, vb, vp⟩ : Vc) = ⟨br, 0, br, 0⟩
      · have hP2 : P = -1 := by
          rw [← hP.out, rootP_none.2 (by rw [hV.out]; exact hm)]; rfl
        have hd : decide ((⟨vr, vc, vb, vp⟩ : Vc) = ⟨br, 0, br, 0⟩) = true := decide_eq_true hm
        rw [hd] at hq
        subst hP2
        clear hm hd
        go_wp2
        obtain ⟨z0, z1, z2, z3⟩ := (HR.out.set4 vr vc vb vp).cells
        exact bodyPost_ret (v := .tuple #[vv vr vc vb vp, .int .i64 (-1)]) (by simp [results, Try.results11, go_sem, z0, z1, z2, z3]) rfl ⟨rfl, below_put4 HG.out hrl _ _ _ _⟩
      · have hd : decide ((⟨vr, vc, vb, vp⟩ : Vc) = ⟨br, 0, br, 0⟩) = false := decide_eq_false hm
        have hP2 : portI (portN br ⟨vr, vc, vb, vp⟩ l l.length) = P := by
          rw [← hP.out]
          unfold rootP
          rw [hV.out, if_neg (show ¬ (⟨vr, vc, vb, vp⟩ : Vc) = mineR br from hm)]
        have HP2 := Lib.hid hP2
        rw [hd] at hq
        clear hm hd hP2 k0 k1 k2 k3 r0 r1 r2 r3 f0 f1 f2 f3
        obtain ⟨k0, k1, k2, k3⟩ := HK.out.cells
        go_wp2_with fail
        go_loopw [10, 11] (fun o v w2 => H2Inv br l ⟨vr, vc, vb, vp⟩ k rb bb w o v w2) (fun _ v _ => k - (intOf v).toNat)
        case atStart => exact ⟨0, Nat.zero_le _, rfl, rfl, HK.out, HR.out, HG.out⟩
        case round =>
          clear k0 k1 k2 k3
          obtain ⟨j, hj, rfl, rfl, hK2, hR2, hG2⟩ := hrel
          have HKR := Lib.hid (And.intro hK2 hR2)
          have hbk := hK2.lt
          have hrk := hR2.lt
          clear hK2 hR2
          by_cases hjl : j < k
          · obtain ⟨⟨xi, xc, xs, ⟨r, q, b, p⟩⟩, hx⟩ := at_some (l := l) (k := j) (by rw [HN.out]; exact hjl)
            have hA := HA.out.next hG2
            have ok := hA.ok hx
            obtain ⟨g, o, rfl, hgr, q0, q1, q2, q3, q4, q5, q6⟩ := hA.at_ j _ hx
            simp only at q0 q1 q2 q3 q4 q5 q6
            have hji : (j : Int) < k := by omega
            have HOK := Lib.hid ok
            cases hw : wayR br ⟨xi, xc, xs, ⟨r, q, b, p⟩⟩ with
            | none =>
              have HE := Lib.hid (congrArg portI (port_next_no (v := ⟨vr, vc, vb, vp⟩) hx (by rw [hw]; exact nofun)))
              obtain ⟨Q, hQ⟩ : ∃ Q, portI (portN br ⟨vr, vc, vb, vp⟩ l j) = Q := ⟨_, rfl⟩
              rw [hQ] at HE ⊢
              have CW := Lib.hid (fun w' => wayNo_w br xi xc xs r q b p w' (Lib.hid hw) HOK.out.vec.b HBR.out)
              clear hw ok hA hx hQ
              go_wp2_with fail
              (with_reducible refine (CW.out _).mono ?_)
              rintro e w1 ⟨rfl, hb1⟩
              have hB1 := bw_alloc hb1 (.cells #[.int .u64 0, .int .u64 0, .int .u64 0, .int .u64 0] 28)
              go_wp2_with fail
              go_quiet (fail)
              go_wp2_with fail
              exact ⟨⟨j + 1, by omega, by go_num, by rw [HE.out], HKR.out.1.next (below_drewN hB1 _), HKR.out.2.next (below_drewN hB1 _), hG2.trans ((below_drewN hB1 _).mono hG2.size)⟩, by simp [intOf]; omega⟩
            | some wv =>
              obtain ⟨C, rfl, hwy⟩ := way_eq hw
              have CW := Lib.hid (fun w' => wayYes_w br xi xc xs r q b p C w' (Lib.hid hwy) HOK.out.vec.b HBR.out HOK.out.vec.c HOK.out.cost)
              have hq2 := run_vcEq r C b p vr vc vb vp
              by_cases hev : (⟨r, C, b, p⟩ : Vc) = ⟨vr, vc, vb, vp⟩
              · have hwv := hw.trans (congrArg some hev)
                rw [decide_eq_true hev] at hq2
                cases ho : portN br ⟨vr, vc, vb, vp⟩ l j with
                | none =>
                  have HE := Lib.hid (congrArg portI (port_next_none hx hwv ho))
                  rw [show portI none = -1 from rfl]
                  clear hw hwv ok hA hx hwy hev ho
                  go_wp2_with fail
                  (with_reducible refine (CW.out _).mono ?_)
                  rintro e w1 ⟨rfl, hb1⟩
                  have lw := hb1.size
                  have hB1 := bw_alloc hb1 (.cells #[.int .u64 r, .int .u64 C, .int .u64 b, .int .u64 p] 28)
                  obtain ⟨k0, k1, k2, k3⟩ := (HKR.out.1.next hB1).cells
                  obtain ⟨m0, m1, m2, m3⟩ := (blk_new 28 w1 r C b p).cells
                  obtain ⟨W2, hW2⟩ : ∃ W2, W2 = w1.alloc (.cells #[.int .u64 r, .int .u64 C, .int .u64 b, .int .u64 p] 28) := ⟨_, rfl⟩
                  have lW2 : w1.heap.size < W2.heap.size := by rw [hW2, size_box]; omega
                  go_upto_region 15 with (fail)
                  rw [← hW2] at k0 k1 k2 k3 m0 m1 m2 m3 hB1 ⊢
                  clear hW2
                  go_wp2_with fail
                  go_quiet (fail)
                  go_wp2_with fail
                  exact ⟨⟨j + 1, by omega, by go_num, by rw [HE.out]; try rfl, HKR.out.1.next (below_drewN hB1 _), HKR.out.2.next (below_drewN hB1 _), hG2.trans ((below_drewN hB1 _).mono hG2.size)⟩, by simp [intOf]; omega⟩
                | some i =>
                  have hik : i < k := Nat.lt_trans ((port_spec br _ l j (by rw [HN.out]; omega)).2 i ho).lt hjl
                  obtain ⟨y, hy⟩ := at_some (l := l) (k := i) (by rw [HN.out]; exact hik)
                  obtain ⟨g', o', e'', hg', hcy⟩ := hA.at_ i _ hy
                  obtain ⟨rfl, rfl⟩ : g = g' ∧ o = o' := by cases e''; exact ⟨rfl, rfl⟩
                  have c2 : wr.cell? ⟨g, o + i * 7, none⟩ = some (.int .u64 y.id) := hcy.1
                  obtain ⟨yi, hyi⟩ : ∃ yi, y.id = yi := ⟨_, rfl⟩
                  have hnx := port_next_some hx hwv ho hy
                  simp only at hnx
                  rw [hyi] at hnx c2
                  have hii : (i : Int) < k := by omega
                  have hi0 : decide ((i : Int) < 0) = false := decide_eq_false (by omega)
                  rw [show portI (some i) = (i : Int) from rfl]
                  by_cases hid : xi < yi
                  · have hd : decide (xi < yi) = true := decide_eq_true hid
                    rw [if_pos hid] at hnx
                    have HE := Lib.hid (congrArg portI hnx)
                    clear hw hwv ok hA hx hwy hev ho hcy hy hyi hnx hid
                    go_wp2_with fail
                    (with_reducible refine (CW.out _).mono ?_)
                    rintro e w1 ⟨rfl, hb1⟩
                    have lw := hb1.size
                    have hB1 := bw_alloc hb1 (.cells #[.int .u64 r, .int .u64 C, .int .u64 b, .int .u64 p] 28)
                    obtain ⟨k0, k1, k2, k3⟩ := (HKR.out.1.next hB1).cells
                    obtain ⟨m0, m1, m2, m3⟩ := (blk_new 28 w1 r C b p).cells
                    have y0 := (hB1.cell (p := ⟨g, o + j * 7, none⟩) hgr).trans q0
                    have z0 := (hB1.cell (p := ⟨g, o + i * 7, none⟩) hgr).trans c2
                    obtain ⟨W2, hW2⟩ : ∃ W2, W2 = w1.alloc (.cells #[.int .u64 r, .int .u64 C, .int .u64 b, .int .u64 p] 28) := ⟨_, rfl⟩
                    have lW2 : w1.heap.size < W2.heap.size := by rw [hW2, size_box]; omega
                    go_upto_region 15 with (fail)
                    rw [← hW2] at k0 k1 k2 k3 m0 m1 m2 m3 hB1 y0 z0 ⊢
                    clear hW2
                    go_wp2_with fail
                    go_quiet (fail)
                    go_wp2_with fail
                    exact ⟨⟨j + 1, by omega, by go_num, by rw [HE.out]; try rfl, HKR.out.1.next (below_drewN hB1 _), HKR.out.2.next (below_drewN hB1 _), hG2.trans ((below_drewN hB1 _).mono hG2.size)⟩, by simp [intOf]; omega⟩
                  · have hd : decide (xi < yi) = false := decide_eq_false hid
                    rw [if_neg hid] at hnx
                    have HE := Lib.hid (congrArg portI hnx)
                    clear hw hwv ok hA hx hwy hev ho hcy hy hyi hnx hid
                    go_wp2_with fail
                    (with_reducible refine (CW.out _).mono ?_)
                    rintro e w1 ⟨rfl, hb1⟩
                    have lw := hb1.size
                    have hB1 := bw_alloc hb1 (.cells #[.int .u64 r, .int .u64 C, .int .u64 b, .int .u64 p] 28)
                    obtain ⟨k0, k1, k2, k3⟩ := (HKR.out.1.next hB1).cells
                    obtain ⟨m0, m1, m2, m3⟩ := (blk_new 28 w1 r C b p).cells
                    have y0 := (hB1.cell (p := ⟨g, o + j * 7, none⟩) hgr).trans q0
                    have z0 := (hB1.cell (p := ⟨g, o + i * 7, none⟩) hgr).trans c2
                    obtain ⟨W2, hW2⟩ : ∃ W2, W2 = w1.alloc (.cells #[.int .u64 r, .int .u64 C, .int .u64 b, .int .u64 p] 28) := ⟨_, rfl⟩
                    have lW2 : w1.heap.size < W2.heap.size := by rw [hW2, size_box]; omega
                    go_upto_region 15 with (fail)
                    rw [← hW2] at k0 k1 k2 k3 m0 m1 m2 m3 hB1 y0 z0 ⊢
                    clear hW2
                    go_wp2_with fail
                    go_quiet (fail)
                    go_wp2_with fail
                    exact ⟨⟨j + 1, by omega, by go_num, by rw [HE.out]; try rfl, HKR.out.1.next (below_drewN hB1 _), HKR.out.2.next (below_drewN hB1 _), hG2.trans ((below_drewN hB1 _).mono hG2.size)⟩, by simp [intOf]; omega⟩
              · rw [decide_eq_false hev] at hq2
                have HE := Lib.hid (congrArg portI (port_next_no (v := ⟨vr, vc, vb, vp⟩) hx (by rw [hw]; intro h; cases h; exact hev rfl)))
                obtain ⟨Q, hQ⟩ : ∃ Q, portI (portN br ⟨vr, vc, vb, vp⟩ l j) = Q := ⟨_, rfl⟩
                rw [hQ] at HE ⊢
                clear hw ok hA hx hwy hev hQ
                go_wp2_with fail
                (with_reducible refine (CW.out _).mono ?_)
                rintro e w1 ⟨rfl, hb1⟩
                have lw := hb1.size
                have hB1 := bw_alloc hb1 (.cells #[.int .u64 r, .int .u64 C, .int .u64 b, .int .u64 p] 28)
                obtain ⟨k0, k1, k2, k3⟩ := (HKR.out.1.next hB1).cells
                obtain ⟨m0, m1, m2, m3⟩ := (blk_new 28 w1 r C b p).cells
                obtain ⟨W2, hW2⟩ : ∃ W2, W2 = w1.alloc (.cells #[.int .u64 r, .int .u64 C, .int .u64 b, .int .u64 p] 28) := ⟨_, rfl⟩
                have lW2 : w1.heap.size < W2.heap.size := by rw [hW2, size_box]; omega
                go_upto_region 15 with (fail)
                rw [← hW2] at k0 k1 k2 k3 m0 m1 m2 m3 hB1 ⊢
                clear hW2
                go_wp2_with fail
                go_quiet (fail)
                go_wp2_with fail
                exact ⟨⟨j + 1, by omega, by go_num, by rw [HE.out]; try rfl, HKR.out.1.next (below_drewN hB1 _), HKR.out.2.next (below_drewN hB1 _), hG2.trans ((below_drewN hB1 _).mono hG2.size)⟩, by simp [intOf]; omega⟩
          · obtain rfl : j = k := by omega
            have hP3 := HP2.out
            rw [HN.out] at hP3
            rw [hP3]
            clear hP3
            obtain ⟨k0, k1, k2, k3⟩ := HKR.out.1.cells
            obtain ⟨r0, r1, r2, r3⟩ := HKR.out.2.cells
            have f0 := HKR.out.2.free 0
            have f1 := HKR.out.2.free 1
            have f2 := HKR.out.2.free 2
            have f3 := HKR.out.2.free 3
            go_wp2
            obtain ⟨z0, z1, z2, z3⟩ := (HKR.out.2.set4 vr vc vb vp).cells
            exact bodyPost_ret (v := .tuple #[vv vr vc vb vp, .int .i64 P]) (by simp [results, Try.results11, go_sem, z0, z1, z2, z3]) rfl ⟨rfl, below_put4 hG2 hrl _ _ _ _⟩
end Go.Proofs.Ytkakjkdjjapiaaa
