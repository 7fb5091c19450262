/-
  Layer 14: Send.
-/
import Derived.Test.YtldobcfejldbiaaGreatDoorMbm
import Derived.Test.YtldobcfejldbiaaGreatDoorMbe
namespace Go.Proofs.YtldobcfejldbiaaGreatDoor
set_option linter.unusedVariables false
set_option linter.unusedSimpArgs false
open Go.RowKit Vm Rm Bm Im

theorem results_cct {P : Program} {fn : Func} {p q u : Tmp} {ty ty2 : TypeId} (h : fn.results = #[.cell p ty, .cell q ty2, .tmp u]) (tmps : Array Value) (w : World) (g g2 : Nat) (t t2 : TypeId) (cs cs2 : Array Value) (fr fr2 : Nat × Nat) (d d2 : TypeDesc)
    (hp : tmps.getD p undef = .pointer (some ⟨g, 0, none⟩)) (hg : w.heap[g]? = some (.cells cs t fr))
    (hu : P.underlying ty = some d) (hd : (match d with | .struct _ | .array _ _ => true | _ => false) = true) (hi : (P.info? ty).map (·.size) = some cs.size)
    (hp2 : tmps.getD q undef = .pointer (some ⟨g2, 0, none⟩)) (hg2 : w.heap[g2]? = some (.cells cs2 t2 fr2))
    (hu2 : P.underlying ty2 = some d2) (hd2 : (match d2 with | .struct _ | .array _ _ => true | _ => false) = true) (hi2 : (P.info? ty2).map (·.size) = some cs2.size) (v : Value) (hv : tmps.getD u undef = v) :
    (results fn tmps).run P w = .ok (.tuple #[.agg cs, .agg cs2, v]) w := by
  subst hv
  have hp' : tmps[p]?.getD undef = .pointer (some ⟨g, 0, none⟩) := by simpa using hp
  have hp2' : tmps[q]?.getD undef = .pointer (some ⟨g2, 0, none⟩) := by simpa using hp2
  simp [results, h, hp', hp2', asAddr, run_loadVar_row w g t ty cs fr d hg hu hd hi, run_loadVar_row w g2 t2 ty2 cs2 fr2 d2 hg2 hu2 hd2 hi2]

/-- What lies in memory while Send goes on: the bridge, the port as it is by now, both results' places. -/
structure SdW (w : World) (nb : Nat) (i : Int) (t : Tm) (Q : Pt) (V : World) : Prop where
  br : BrBlk V nb i t.age t.max t.hello t.delay
  pt : PtBlk 78 V (nb + 1) Q
  r1 : PtBlk 78 V (nb + 2) zeroP
  r2 : BBlk 49 V (nb + 3) zeroM
  roles : TRoles V
  below : Below nb w V
theorem SdW.next {w V V' : World} {nb : Nat} {i : Int} {t : Tm} {Q : Pt} (h : SdW w nb i t Q V) (hb : Below V.heap.size V V') : SdW w nb i t Q V' :=
  ⟨h.br.next hb, h.pt.next hb, h.r1.next hb, h.r2.next hb, h.roles.next hb, h.below.trans (hb.mono (by have := h.br.lt; omega))⟩
theorem SdW.tn {w V V' : World} {nb : Nat} {i : Int} {t : Tm} {Q X : Pt} (h : SdW w nb i t Q V) (k : Tn 78 (nb + 1) X V V') : SdW w nb i t X V' :=
  ⟨(k.at h.br.lt (by omega)).trans h.br, k.blk, (k.at h.r1.lt (by omega)).trans h.r1, (k.at h.r2.lt (by omega)).trans h.r2,
   ⟨(k.cell (p := ⟨0, 0, none⟩) h.roles.pos (by show 0 ≠ nb + 1; omega)).trans h.roles.1, (k.cell (p := ⟨0, 1, none⟩) h.roles.pos (by show 0 ≠ nb + 1; omega)).trans h.roles.2.1, (k.cell (p := ⟨0, 2, none⟩) h.roles.pos (by show 0 ≠ nb + 1; omega)).trans h.roles.2.2.1, (k.cell (p := ⟨0, 3, none⟩) h.roles.pos (by show 0 ≠ nb + 1; omega)).trans h.roles.2.2.2.1, (k.cell (p := ⟨0, 4, none⟩) h.roles.pos (by show 0 ≠ nb + 1; omega)).trans h.roles.2.2.2.2⟩,
   k.below h.below (by omega) (by have := h.br.lt; omega)⟩
theorem SdW.as {w V : World} {nb : Nat} {i : Int} {t : Tm} {Q X : Pt} (h : SdW w nb i t Q V) (e : Q = X) : SdW w nb i t X V := e ▸ h
theorem send4_is (i : Int) (t : Tm) (p : Pt) (w : World) (hT : TRoles w) : ∃ (W : World) (nb : Nat), Hid ((((w.alloc (.cells #[.int .u64 i, .int .i64 t.age, .int .i64 t.max, .int .i64 t.hello, .int .i64 t.delay] 26)).alloc (.cells (cellsT p) 78)).alloc (.cells (cellsT zeroP) 78)).alloc (.cells (cellsB zeroM) 49) = W) ∧ Hid (w.heap.size = nb) ∧ SdW w nb i t p W := by
  have e1 := size_box w (.cells #[.int .u64 i, .int .i64 t.age, .int .i64 t.max, .int .i64 t.hello, .int .i64 t.delay] 26)
  have b1 := below_box w (.cells #[.int .u64 i, .int .i64 t.age, .int .i64 t.max, .int .i64 t.hello, .int .i64 t.delay] 26)
  generalize hA : w.alloc (.cells #[.int .u64 i, .int .i64 t.age, .int .i64 t.max, .int .i64 t.hello, .int .i64 t.delay] 26) = A at *
  have kA : BrBlk A w.heap.size i t.age t.max t.hello t.delay := hA ▸ heap_alloc_new w _
  have e2 := size_box A (.cells (cellsT p) 78)
  have b2 := below_box A (.cells (cellsT p) 78)
  have kB := ptblk_new 78 A p
  generalize hB : A.alloc (.cells (cellsT p) 78) = B at *
  have e3 := size_box B (.cells (cellsT zeroP) 78)
  have b3 := below_box B (.cells (cellsT zeroP) 78)
  have kC := ptblk_new 78 B zeroP
  generalize hC : B.alloc (.cells (cellsT zeroP) 78) = C at *
  have b4 := below_box C (.cells (cellsB zeroM) 49)
  have kD : BBlk 49 (C.alloc (.cells (cellsB zeroM) 49)) C.heap.size zeroM := heap_alloc_new C _
  refine ⟨_, _, Lib.hid rfl, Lib.hid rfl, ((kA.next b2).next b3).next b4, ?_, ?_, ?_, ?_, ?_⟩
  · rw [← e1]; exact (kB.next b3).next b4
  · rw [show w.heap.size + 2 = B.heap.size by omega]; exact kC.next b4
  · rw [show w.heap.size + 3 = C.heap.size by omega]; exact kD
  · exact (((hT.next b1).next b2).next b3).next b4
  · exact bw_trans (bw_trans (bw_trans b1 b2) b3) b4
theorem sd_end {w V : World} {nb : Nat} {i : Int} {t : Tm} {Q X : Pt} {M : Bp} (h : SdW w nb i t Q V) : PtBlk 78 ((V.setRow (nb + 2) (cellsT X)).setRow (nb + 3) (cellsB M)) (nb + 2) X ∧ BBlk 49 ((V.setRow (nb + 2) (cellsT X)).setRow (nb + 3) (cellsB M)) (nb + 3) M ∧ Below nb w ((V.setRow (nb + 2) (cellsT X)).setRow (nb + 3) (cellsB M)) :=
  ⟨(setRow_other _ _ _ _ (by omega)).trans (h.r1.row X), BBlk.row ((setRow_other _ _ _ _ (by omega)).trans h.r2) M, below_row (below_row h.below (by omega) _) (by omega) _⟩
theorem sd_drew {w V : World} {nb : Nat} {i : Int} {t : Tm} {Q : Pt} (h : SdW w nb i t Q V) : SdW w nb i t Q V.drew := ⟨h.br, h.pt, h.r1, h.r2, h.roles, h.below.drew⟩

set_option maxRecDepth 20000 in
set_option maxHeartbeats 4000000 in
theorem send_a1 (i : Int) (t : Tm) (p X : Pt) (M : Bp) (ok : Bool) (w : World) (hT : TRoles w) (hb : rightBr t = false) (hX : (X, M, ok) = (p, zeroM, false)) :
    Calls Tryz.prog 50 #[brv i t.age t.max t.hello t.delay, .agg (cellsT p)] w fun e w' => e = .returned (.tuple #[.agg (cellsT X), M.val, .bool ok]) ∧ Below w.heap.size w w' := by
  obtain ⟨W, nb, HW, HN, s0⟩ := send4_is i t p w hT
  have S0 := Lib.hid s0
  have CR := Lib.hid (fun w' => brRight_w i t.age t.max t.hello t.delay false w' (Lib.hid hb))
  obtain ⟨rfl, rfl, rfl⟩ : X = p ∧ M = zeroM ∧ ok = false := by simpa using hX
  clear hX
  have hX : True := trivial
  clear s0 hT hb
  unfold brv at CR ⊢
  go_enter Tryz.func50, Tryz.ntmps50
  go_upto_region 1 with (fail)
  refine wp_to (W := W) (by exact HW.out.symm) ?_
  rw [HN.out]
  obtain ⟨k0, k1, k2, k3, k4⟩ := S0.out.br.cells
  go_wp2_with fail
  refine (CR.out W).mono ?_
  rintro e w1 ⟨rfl, hb1⟩
  have S1 := Lib.hid (S0.out.next hb1)
  clear hb1 S0 CR k0 k1 k2 k3 k4
  have f := S1.out.pt.free
  clear hX 
  go_upto_region 2 with (fail)
  go_wp2_with (first | (with_reducible refine wpList_pt rfl _ rfl (nb + 1) rfl X S1.out.pt ?_) | (refine wpList_ptst rfl _ _ rfl (nb + 2) rfl X zeroP rfl S1.out.r1 ?_) | (refine wpList_bpst rfl _ _ rfl (nb + 3) rfl zeroM zeroM rfl ((setRow_other _ _ _ _ (by omega)).trans S1.out.r2) ?_))
  have E := sd_end (X := X) (M := zeroM) S1.out
  refine bodyPost_ret (v := .tuple #[.agg (cellsT X), .agg (cellsB zeroM), .bool false]) ?_ rfl ⟨rfl, HN.out ▸ E.2.2⟩
  exact results_cct rfl _ _ (nb + 2) (nb + 3) 78 49 (cellsT X) (cellsB zeroM) (0, 0) (0, 0) _ _ rfl E.1 rfl rfl infoSP rfl E.2.1 rfl rfl infoSB _ rfl

set_option maxRecDepth 20000 in
set_option maxHeartbeats 4000000 in
theorem send_a2 (i : Int) (t : Tm) (p X : Pt) (M : Bp) (ok : Bool) (w : World) (hT : TRoles w) (hb : rightBr t = true) (ho : p.on = false) (hX : (X, M, ok) = (p, zeroM, false)) :
    Calls Tryz.prog 50 #[brv i t.age t.max t.hello t.delay, .agg (cellsT p)] w fun e w' => e = .returned (.tuple #[.agg (cellsT X), M.val, .bool ok]) ∧ Below w.heap.size w w' := by
  obtain ⟨W, nb, HW, HN, s0⟩ := send4_is i t p w hT
  have S0 := Lib.hid s0
  have CR := Lib.hid (fun w' => brRight_w i t.age t.max t.hello t.delay true w' (Lib.hid hb))
  obtain ⟨rfl, rfl, rfl⟩ : X = p ∧ M = zeroM ∧ ok = false := by simpa using hX
  clear hX
  have hX : True := trivial
  clear s0 hT hb
  unfold brv at CR ⊢
  go_enter Tryz.func50, Tryz.ntmps50
  go_upto_region 1 with (fail)
  refine wp_to (W := W) (by exact HW.out.symm) ?_
  rw [HN.out]
  obtain ⟨k0, k1, k2, k3, k4⟩ := S0.out.br.cells
  go_wp2_with fail
  refine (CR.out W).mono ?_
  rintro e w1 ⟨rfl, hb1⟩
  have S1 := Lib.hid (S0.out.next hb1)
  clear hb1 S0 CR k0 k1 k2 k3 k4
  have f := S1.out.pt.free
  have c_on := S1.out.pt.c_on
  rw [ho] at c_on
  clear hX ho
  go_upto_region 2 with (fail)
  go_wp2_with (first | (with_reducible refine wpList_pt rfl _ rfl (nb + 1) rfl X S1.out.pt ?_) | (refine wpList_ptst rfl _ _ rfl (nb + 2) rfl X zeroP rfl S1.out.r1 ?_) | (refine wpList_bpst rfl _ _ rfl (nb + 3) rfl zeroM zeroM rfl ((setRow_other _ _ _ _ (by omega)).trans S1.out.r2) ?_))
  have E := sd_end (X := X) (M := zeroM) S1.out
  refine bodyPost_ret (v := .tuple #[.agg (cellsT X), .agg (cellsB zeroM), .bool false]) ?_ rfl ⟨rfl, HN.out ▸ E.2.2⟩
  exact results_cct rfl _ _ (nb + 2) (nb + 3) 78 49 (cellsT X) (cellsB zeroM) (0, 0) (0, 0) _ _ rfl E.1 rfl rfl infoSP rfl E.2.1 rfl rfl infoSB _ rfl

set_option maxRecDepth 20000 in
set_option maxHeartbeats 4000000 in
theorem send_a3 (i : Int) (t : Tm) (p X : Pt) (M : Bp) (ok : Bool) (w : World) (hT : TRoles w) (hb : rightBr t = true) (ho : p.on = true) (hr : p.ready = false) (hX : (X, M, ok) = (p, zeroM, false)) :
    Calls Tryz.prog 50 #[brv i t.age t.max t.hello t.delay, .agg (cellsT p)] w fun e w' => e = .returned (.tuple #[.agg (cellsT X), M.val, .bool ok]) ∧ Below w.heap.size w w' := by
  obtain ⟨W, nb, HW, HN, s0⟩ := send4_is i t p w hT
  have S0 := Lib.hid s0
  have CR := Lib.hid (fun w' => brRight_w i t.age t.max t.hello t.delay true w' (Lib.hid hb))
  obtain ⟨rfl, rfl, rfl⟩ : X = p ∧ M = zeroM ∧ ok = false := by simpa using hX
  clear hX
  have hX : True := trivial
  clear s0 hT hb
  unfold brv at CR ⊢
  go_enter Tryz.func50, Tryz.ntmps50
  go_upto_region 1 with (fail)
  refine wp_to (W := W) (by exact HW.out.symm) ?_
  rw [HN.out]
  obtain ⟨k0, k1, k2, k3, k4⟩ := S0.out.br.cells
  go_wp2_with fail
  refine (CR.out W).mono ?_
  rintro e w1 ⟨rfl, hb1⟩
  have S1 := Lib.hid (S0.out.next hb1)
  clear hb1 S0 CR k0 k1 k2 k3 k4
  have f := S1.out.pt.free
  have c_on := S1.out.pt.c_on
  rw [ho] at c_on
  have c_ready := S1.out.pt.c_ready
  rw [hr] at c_ready
  clear hX ho hr
  go_upto_region 2 with (fail)
  go_wp2_with (first | (with_reducible refine wpList_pt rfl _ rfl (nb + 1) rfl X S1.out.pt ?_) | (refine wpList_ptst rfl _ _ rfl (nb + 2) rfl X zeroP rfl S1.out.r1 ?_) | (refine wpList_bpst rfl _ _ rfl (nb + 3) rfl zeroM zeroM rfl ((setRow_other _ _ _ _ (by omega)).trans S1.out.r2) ?_))
  have E := sd_end (X := X) (M := zeroM) S1.out
  refine bodyPost_ret (v := .tuple #[.agg (cellsT X), .agg (cellsB zeroM), .bool false]) ?_ rfl ⟨rfl, HN.out ▸ E.2.2⟩
  exact results_cct rfl _ _ (nb + 2) (nb + 3) 78 49 (cellsT X) (cellsB zeroM) (0, 0) (0, 0) _ _ rfl E.1 rfl rfl infoSP rfl E.2.1 rfl rfl infoSB _ rfl

set_option maxRecDepth 20000 in
set_option maxHeartbeats 4000000 in
theorem send_a4 (i : Int) (t : Tm) (p X : Pt) (M : Bp) (ok : Bool) (w : World) (hT : TRoles w) (hb : rightBr t = true) (ho : p.on = true) (hr : p.ready = true) (hu : p.update = true) (hX : (X, M, ok) = (p, zeroM, false)) :
    Calls Tryz.prog 50 #[brv i t.age t.max t.hello t.delay, .agg (cellsT p)] w fun e w' => e = .returned (.tuple #[.agg (cellsT X), M.val, .bool ok]) ∧ Below w.heap.size w w' := by
  obtain ⟨W, nb, HW, HN, s0⟩ := send4_is i t p w hT
  have S0 := Lib.hid s0
  have CR := Lib.hid (fun w' => brRight_w i t.age t.max t.hello t.delay true w' (Lib.hid hb))
  obtain ⟨rfl, rfl, rfl⟩ : X = p ∧ M = zeroM ∧ ok = false := by simpa using hX
  clear hX
  have hX : True := trivial
  clear s0 hT hb
  unfold brv at CR ⊢
  go_enter Tryz.func50, Tryz.ntmps50
  go_upto_region 1 with (fail)
  refine wp_to (W := W) (by exact HW.out.symm) ?_
  rw [HN.out]
  obtain ⟨k0, k1, k2, k3, k4⟩ := S0.out.br.cells
  go_wp2_with fail
  refine (CR.out W).mono ?_
  rintro e w1 ⟨rfl, hb1⟩
  have S1 := Lib.hid (S0.out.next hb1)
  clear hb1 S0 CR k0 k1 k2 k3 k4
  have f := S1.out.pt.free
  have c_on := S1.out.pt.c_on
  rw [ho] at c_on
  have c_ready := S1.out.pt.c_ready
  rw [hr] at c_ready
  have c_update := S1.out.pt.c_update
  rw [hu] at c_update
  clear hX ho hr hu
  go_upto_region 2 with (fail)
  go_wp2_with (first | (with_reducible refine wpList_pt rfl _ rfl (nb + 1) rfl X S1.out.pt ?_) | (refine wpList_ptst rfl _ _ rfl (nb + 2) rfl X zeroP rfl S1.out.r1 ?_) | (refine wpList_bpst rfl _ _ rfl (nb + 3) rfl zeroM zeroM rfl ((setRow_other _ _ _ _ (by omega)).trans S1.out.r2) ?_))
  have E := sd_end (X := X) (M := zeroM) S1.out
  refine bodyPost_ret (v := .tuple #[.agg (cellsT X), .agg (cellsB zeroM), .bool false]) ?_ rfl ⟨rfl, HN.out ▸ E.2.2⟩
  exact results_cct rfl _ _ (nb + 2) (nb + 3) 78 49 (cellsT X) (cellsB zeroM) (0, 0) (0, 0) _ _ rfl E.1 rfl rfl infoSP rfl E.2.1 rfl rfl infoSB _ rfl

/-- Behind the Hello. -/
def tellP (Q : Pt) : Pt × Bp × Bool :=
  if Q.newInfo = false ∨ 5 < Q.txCount then (Q, zeroM, false)
  else if kindP Q = 0 then ({ Q with newInfo := false }, zeroM, false)
  else if kindP Q = 2 then ({ Q with newInfo := false, txCount := Q.txCount + 1 }, noticeM, true)
  else ({ Q with newInfo := false, txCount := Q.txCount + 1, tcAck := false }, msgP Q, true)
theorem send_tell {t : Tm} {p : Pt} (h : goesB t p = true) : sendP t p = tellP (helloP t p) := by
  unfold sendP tellP
  rw [if_neg (by rw [h]; decide), kind_keeps (hello_keeps t p)]
theorem run_nil_nil (w : World) : Sem.run Tryz.prog (binOp .eql 162 .nilFunc .nilFunc) w = .ok (.bool true) w := by kernel_rfl
theorem run_func_nil (f : Fn) (a c : Array Value) (w : World) : Sem.run Tryz.prog (binOp .eql 162 (.func f a c) .nilFunc) w = .ok (.bool false) w := by kernel_rfl
set_option maxRecDepth 20000 in
set_option maxHeartbeats 8000000 in
theorem send_b (i : Int) (t : Tm) (p Q X : Pt) (M : Bp) (ok : Bool) (w : World) (hT : TRoles w) (hb : rightBr t = true) (ho : p.on = true) (hr : p.ready = true) (hu : p.update = false) (hQ : Hid (helloP t p = Q)) (hX : (X, M, ok) = tellP Q)
    (h0 : 0 ≤ Q.given.age ∧ 0 ≤ Q.given.max ∧ 0 ≤ Q.given.hello ∧ 0 ≤ Q.given.delay) (hs : smallB Q = true) (hx : -9223372036854775808 ≤ Q.txCount) :
    Calls Tryz.prog 50 #[brv i t.age t.max t.hello t.delay, .agg (cellsT p)] w fun e w' => e = .returned (.tuple #[.agg (cellsT X), M.val, .bool ok]) ∧ Below w.heap.size w w' := by
  obtain ⟨W, nb, HW, HN, s0⟩ := send4_is i t p w hT
  have S0 := Lib.hid s0
  have CR := Lib.hid (fun w' => brRight_w i t.age t.max t.hello t.delay true w' (Lib.hid hb))
  have HX := Lib.hid hX
  have H0 := Lib.hid h0
  have HS := Lib.hid hs
  have HXl := Lib.hid hx
  clear s0 hT hb hX h0 hs hx
  unfold brv at CR ⊢
  go_enter Tryz.func50, Tryz.ntmps50
  go_upto_region 1 with (fail)
  refine wp_to (W := W) (by exact HW.out.symm) ?_
  rw [HN.out]
  obtain ⟨k0, k1, k2, k3, k4⟩ := S0.out.br.cells
  go_wp2_with fail
  refine (CR.out W).mono ?_
  rintro e w1 ⟨rfl, hb1⟩
  have S1 := Lib.hid (S0.out.next hb1)
  clear hb1 S0 CR k0 k1 k2 k3 k4
  have f := S1.out.pt.free
  have c_on := S1.out.pt.c_on
  have c_ready := S1.out.pt.c_ready
  have c_update := S1.out.pt.c_update
  have c_hello := S1.out.pt.c_hello
  rw [ho] at c_on
  rw [hr] at c_ready
  rw [hu] at c_update
  clear ho hr hu f
  go_upto_if 30 with (fail)
  clear c_on c_ready c_update
  go_cut [30] (fun u wx => SdW w nb i t Q wx)
  case first =>
    by_cases hh : p.hello = 0
    · have hz : (p.hello == 0) = true := by simpa using hh
      cases hn : p.newInfo with
      | true =>
        have e : ({ p with newInfo := true, hello := t.hello } : Pt) = Q := by rw [← hQ.out]; unfold helloP; rw [if_pos hh, hn]; rfl
        have E := Lib.hid e
        have f := S1.out.pt.free
        have c_new := S1.out.pt.c_newInfo
        rw [hn] at c_new
        obtain ⟨k0, k1, k2, k3, k4⟩ := S1.out.br.cells
        have hne : nb ≠ nb + 1 := by omega
        have SS := Lib.hid ((S1.out.tn (((Tn.refl S1.out.pt).set 39 (.bool true) (S1.out.pt.s_newInfo true)).set 57 (.int .i64 t.hello) ((S1.out.pt.s_newInfo true).s_hello t.hello))).as E.out)
        clear e hh hn
        go_wp2_with fail
        go_meet
        exact SS.out
      | false =>
        obtain ⟨R, hR⟩ : ∃ R, (decide (p.role = 2) || (decide (p.role = 1) && !decide (p.tc = 0))) = R := ⟨_, rfl⟩
        have e : ({ p with newInfo := R, hello := t.hello } : Pt) = Q := by rw [← hQ.out]; unfold helloP; rw [if_pos hh, hn, ← hR]; rfl
        have E := Lib.hid e
        have HR := Lib.hid hR
        have f := S1.out.pt.free
        have c_new := S1.out.pt.c_newInfo
        rw [hn] at c_new
        clear e hh hn hR
        go_wp2_with (first | (refine wpList_ptg (by kernel_rfl) _ rfl (nb + 1) rfl p S1.out.pt ?_; go_wp2_with fail))
        refine (hellos14_w p R _ HR).mono ?_
        rintro e w2 ⟨rfl, hb2⟩
        have S2 := Lib.hid (S1.out.next hb2)
        clear hb2 S1 c_new c_hello f
        have f := S2.out.pt.free
        obtain ⟨k0, k1, k2, k3, k4⟩ := S2.out.br.cells
        have c_new := S2.out.pt.c_newInfo
        have c_hello := S2.out.pt.c_hello
        have SS := Lib.hid ((S2.out.tn (((Tn.refl S2.out.pt).set 39 (.bool R) (S2.out.pt.s_newInfo R)).set 57 (.int .i64 t.hello) ((S2.out.pt.s_newInfo R).s_hello t.hello))).as E.out)
        have hne : nb ≠ nb + 1 := by omega
        go_wp2_with fail
        go_meet
        exact SS.out
    · have hz : (p.hello == 0) = false := by simpa using hh
      have e : p = Q := by rw [← hQ.out]; unfold helloP; rw [if_neg hh]
      have SS := Lib.hid (S1.out.as e)
      clear e
      go_wp2_with fail
      go_meet
      exact SS.out
  case rest =>
  have hX := HX.out
  unfold tellP at hX
  have S := Lib.hid hcut
  skip
  clear hcut c_hello S1 HX
  have f := S.out.pt.free
  have c_new := S.out.pt.c_newInfo
  have c_tx := S.out.pt.c_txCount
  cases hn : Q.newInfo with
  | false =>
    rw [if_pos (.inl hn)] at hX
    rw [hn] at c_new
    obtain ⟨rfl, rfl, rfl⟩ : X = Q ∧ M = zeroM ∧ ok = false := by simpa using hX
    clear hX hn
    go_upto_region 7 with (fail)
    go_wp2_with (first | (with_reducible refine wpList_pt rfl _ rfl (nb + 1) rfl X S.out.pt ?_) | (refine wpList_ptst rfl _ _ rfl (nb + 2) rfl X zeroP rfl S.out.r1 ?_) | (refine wpList_bpst rfl _ _ rfl (nb + 3) rfl zeroM zeroM rfl ((setRow_other _ _ _ _ (by omega)).trans S.out.r2) ?_))
    have E := sd_end (X := X) (M := zeroM) S.out
    refine bodyPost_ret (v := .tuple #[.agg (cellsT X), .agg (cellsB zeroM), .bool false]) ?_ rfl ⟨rfl, HN.out ▸ E.2.2⟩
    exact results_cct rfl _ _ (nb + 2) (nb + 3) 78 49 (cellsT X) (cellsB zeroM) (0, 0) (0, 0) _ _ rfl E.1 rfl rfl infoSP rfl E.2.1 rfl rfl infoSB _ rfl
  | true =>
    rw [hn] at c_new
    by_cases htx : 5 < Q.txCount
    · rw [if_pos (.inr htx)] at hX
      have g : Q.txCount ≥ 6 := by omega
      obtain ⟨rfl, rfl, rfl⟩ : X = Q ∧ M = zeroM ∧ ok = false := by simpa using hX
      clear hX hn
      go_upto_region 7 with (fail)
      go_wp2_with (first | (with_reducible refine wpList_pt rfl _ rfl (nb + 1) rfl X S.out.pt ?_) | (refine wpList_ptst rfl _ _ rfl (nb + 2) rfl X zeroP rfl S.out.r1 ?_) | (refine wpList_bpst rfl _ _ rfl (nb + 3) rfl zeroM zeroM rfl ((setRow_other _ _ _ _ (by omega)).trans S.out.r2) ?_))
      have E := sd_end (X := X) (M := zeroM) S.out
      refine bodyPost_ret (v := .tuple #[.agg (cellsT X), .agg (cellsB zeroM), .bool false]) ?_ rfl ⟨rfl, HN.out ▸ E.2.2⟩
      exact results_cct rfl _ _ (nb + 2) (nb + 3) 78 49 (cellsT X) (cellsB zeroM) (0, 0) (0, 0) _ _ rfl E.1 rfl rfl infoSP rfl E.2.1 rfl rfl infoSB _ rfl
    · rw [if_neg (by rw [hn]; simp; omega)] at hX
      have g : ¬ Q.txCount ≥ 6 := by omega
      obtain ⟨Q1, hQ1⟩ : ∃ Q1, ({ Q with newInfo := false } : Pt) = Q1 := ⟨_, rfl⟩
      have hk1 : kindP Q1 = kindP Q := by rw [← hQ1]; rfl
      have HTX := Lib.hid (show -9223372036854775808 ≤ Q1.txCount ∧ Q1.txCount ≤ 5 by rw [← hQ1]; exact ⟨HXl.out, by show Q.txCount ≤ 5; omega⟩)
      have HQ1 := Lib.hid hQ1
      have HX := Lib.hid hX
      have HK1 := Lib.hid hk1
      clear hn hX hk1 htx
      go_upto_region 9 with (fail)
      obtain ⟨V1, hV1⟩ : ∃ V1, wc.setCell ⟨nb + 1, 39, none⟩ (.bool false) = V1 := ⟨_, rfl⟩
      have S1 := Lib.hid (show SdW w nb i t Q1 V1 by rw [← hV1]; exact (S.out.tn ((Tn.refl S.out.pt).set 39 (.bool false) (S.out.pt.s_newInfo false))).as HQ1.out)
      refine wp_to (W := V1) (by exact hV1.symm) ?_
      clear hV1 hQ1 f c_new c_tx S
      go_wp2_with (first | (with_reducible refine wpList_pt rfl _ rfl (nb + 1) rfl Q1 S1.out.pt ?_) | fail)
      refine (speech_w Q1 _).mono ?_
      rintro e w2 ⟨v, rfl, sp, hb2⟩
      have S2 := Lib.hid (S1.out.next hb2)
      have SP := Lib.hid sp
      have n0 := run_nil_nil
      have n1 := run_func_nil
      clear hb2 sp S1
      have hX := HX.out
      by_cases hk0 : kindP Q = 0
      · rw [if_pos hk0] at hX
        obtain rfl := SP.out.no (HK1.out.trans hk0)
        obtain ⟨rfl, rfl, rfl⟩ : X = Q1 ∧ M = zeroM ∧ ok = false := by rw [← HQ1.out]; simpa using hX
        clear hX hk0 HX
        go_upto_region 11 with (fail)
        go_wp2_with (first | (with_reducible refine wpList_pt rfl _ rfl (nb + 1) rfl X S2.out.pt ?_) | (refine wpList_ptst rfl _ _ rfl (nb + 2) rfl X zeroP rfl S2.out.r1 ?_) | (refine wpList_bpst rfl _ _ rfl (nb + 3) rfl zeroM zeroM rfl ((setRow_other _ _ _ _ (by omega)).trans S2.out.r2) ?_))
        have E := sd_end (X := X) (M := zeroM) S2.out
        refine bodyPost_ret (v := .tuple #[.agg (cellsT X), .agg (cellsB zeroM), .bool false]) ?_ rfl ⟨rfl, HN.out ▸ E.2.2⟩
        exact results_cct rfl _ _ (nb + 2) (nb + 3) 78 49 (cellsT X) (cellsB zeroM) (0, 0) (0, 0) _ _ rfl E.1 rfl rfl infoSP rfl E.2.1 rfl rfl infoSB _ rfl
      rw [if_neg hk0] at hX
      by_cases hk2 : kindP Q = 2
      · rw [if_pos hk2] at hX
        obtain rfl := SP.out.notice (HK1.out.trans hk2)
        obtain ⟨X1, hX1⟩ : ∃ X1, ({ Q1 with txCount := Q1.txCount + 1 } : Pt) = X1 := ⟨_, rfl⟩
        have HQX := Lib.hid hX1
        have hX : (X, M, ok) = (X1, (⟨2, 0, 0, 0, 0, 0, 0, 0, 0, 0⟩ : Bp), true) := by rw [hX, ← hX1, ← HQ1.out]; rfl
        obtain ⟨rfl, rfl, rfl⟩ : X = X1 ∧ M = (⟨2, 0, 0, 0, 0, 0, 0, 0, 0, 0⟩ : Bp) ∧ ok = true := by simpa using hX
        clear hX hk0 HX hX1
        go_wp2_with fail
        refine (notice_w _ _).mono ?_
        rintro e w3 ⟨rfl, hb3⟩
        have S3 := Lib.hid (S2.out.next hb3)
        clear hb3
        go_upto_region 13 with (fail)
        obtain ⟨V3, mb, hV3, hmb, km, kb⟩ : ∃ (V : World) (b : Nat), w3.alloc (.cells (cellsB ⟨2, 0, 0, 0, 0, 0, 0, 0, 0, 0⟩) 49) = V ∧ w3.heap.size = b ∧ BBlk 49 V b ⟨2, 0, 0, 0, 0, 0, 0, 0, 0, 0⟩ ∧ Below w3.heap.size w3 V := ⟨_, _, rfl, rfl, heap_alloc_new w3 _, below_box w3 _⟩
        refine wp_to (W := V3) (by exact hV3.symm) ?_
        rw [hmb]
        have S := Lib.hid (S3.out.next kb)
        have KM := Lib.hid km
        have HMB := Lib.hid (show nb + 3 < mb by rw [← hmb]; exact S3.out.r2.lt)
        clear hV3 hmb km kb S3 S2
        have hX : True := trivial
        have f := S.out.pt.free
        have c_tx := S.out.pt.c_txCount
        have t0 := HTX.out.1
        have t1 := HTX.out.2
        go_upto_region 14 with (fail)
        have hmb : nb + 3 < mb := HMB.out
        obtain ⟨V4, hV4⟩ : ∃ V4, V3.setCell ⟨nb + 1, 58, none⟩ (.int .i64 (Q1.txCount + 1)) = V4 := ⟨_, rfl⟩
        have S4 := Lib.hid (show SdW w nb i t X V4 by rw [← hV4]; exact (S.out.tn ((Tn.refl S.out.pt).set 58 (.int .i64 (Q1.txCount + 1)) (S.out.pt.s_txCount (Q1.txCount + 1)))).as HQX.out)
        have KM4 := Lib.hid (show BBlk 49 V4 mb ⟨2, 0, 0, 0, 0, 0, 0, 0, 0, 0⟩ by rw [← hV4]; exact KM.out.other 58 _ (by omega))
        refine wp_to (W := V4) (by exact hV4.symm) ?_
        clear hV4 f c_tx t0 t1 S KM
        refine wp_region_held_drew (S := fun V => PtBlk 78 V (nb + 1) X ∧ BBlk 49 V mb ⟨2, 0, 0, 0, 0, 0, 0, 0, 0, 0⟩) (by kernel_rfl) (show PtBlk 78 V4.drew (nb + 1) X ∧ BBlk 49 V4.drew mb ⟨2, 0, 0, 0, 0, 0, 0, 0, 0, 0⟩ from ⟨S4.out.pt, KM4.out⟩) (fun hHeld => ?_)
        try simp only [Act.put]
        refine wpAnyH_take (i := 0) (v := .agg (cellsT X)) rfl (by kernel_rfl) (by kernel_rfl) (by kernel_rfl) (fun _ _ _ h => h) (yieldsIf_run (by rfl) 78 _ rfl ⟨nb + 1, 0, none⟩ rfl _ (fun V h => loadAt_row h.1 rfl rfl (by kernel_rfl))) hHeld ?_
        try simp only [Act.put, List.getElem_toArray, List.getElem_cons_succ, List.getElem_cons_zero, List.setIfInBounds_toArray, List.set_cons_zero, List.set_cons_succ]
        refine wpAnyH_take (i := 1) (v := .agg (cellsB ⟨2, 0, 0, 0, 0, 0, 0, 0, 0, 0⟩)) rfl (by kernel_rfl) (by kernel_rfl) (by kernel_rfl) (fun _ _ _ h => h) (yieldsIf_run (by rfl) 49 _ rfl ⟨mb, 0, none⟩ rfl _ (fun V h => loadAt_row h.2 rfl rfl (by kernel_rfl))) hHeld ?_
        try simp only [Act.put, List.getElem_toArray, List.getElem_cons_succ, List.getElem_cons_zero, List.setIfInBounds_toArray, List.set_cons_zero, List.set_cons_succ]
        refine wpAnyH_ready (rs := [2]) (by kernel_rfl) (by simp) ?_
        refine AllReadyH.cons rfl (fun K hK => ?_) AllReadyH.nil
        · rw [if_pos (by kernel_rfl)]
          refine wp_store_row 78 _ _ rfl (nb + 2) (cellsT X) rfl rfl 78 _ ((sd_drew S4.out).r1) infoSP rfl (cellsT_one _) ?_
          refine hK.out _ _ ⟨(setRow_other _ _ _ _ (by omega)).trans S4.out.pt, (setRow_other _ _ _ _ (by omega)).trans KM4.out⟩ (fun hHeld => ?_)
          clear hK
          try simp only [Act.put, List.getElem_toArray, List.getElem_cons_succ, List.getElem_cons_zero, List.setIfInBounds_toArray, List.set_cons_zero, List.set_cons_succ]
          refine wpAnyH_ready (rs := [3]) (by kernel_rfl) (by simp) ?_
          refine AllReadyH.cons rfl (fun K hK => ?_) AllReadyH.nil
          rw [if_pos (by kernel_rfl)]
          refine wp_store_row 49 _ _ rfl (nb + 3) (cellsB ⟨2, 0, 0, 0, 0, 0, 0, 0, 0, 0⟩) rfl rfl 49 _ ((setRow_other _ _ _ _ (by omega)).trans (sd_drew S4.out).r2) infoSB rfl (cellsB_one _) ?_
          refine hK.out _ _ ⟨(setRow_other _ _ _ _ (by omega)).trans ((setRow_other _ _ _ _ (by omega)).trans S4.out.pt), (setRow_other _ _ _ _ (by omega)).trans ((setRow_other _ _ _ _ (by omega)).trans KM4.out)⟩ (fun hHeld => ?_)
          clear hK
          try simp only [Act.put, List.getElem_toArray, List.getElem_cons_succ, List.getElem_cons_zero, List.setIfInBounds_toArray, List.set_cons_zero, List.set_cons_succ]
          refine wpAnyH_take (i := 4) (v := .bool true) rfl (by kernel_rfl) (by kernel_rfl) (by kernel_rfl) (fun _ _ _ h => h) (Or.inl ⟨by rfl, fun V h => by go_simp⟩) hHeld ?_
          try simp only [Act.put, List.getElem_toArray, List.getElem_cons_succ, List.getElem_cons_zero, List.setIfInBounds_toArray, List.set_cons_zero, List.set_cons_succ]
          refine wpAnyH_done (by kernel_rfl) ?_ _
          clear hHeld
          have E := sd_end (X := X) (M := ⟨2, 0, 0, 0, 0, 0, 0, 0, 0, 0⟩) (sd_drew S4.out)
          go_wp2_with fail
          refine bodyPost_ret (v := .tuple #[.agg (cellsT X), .agg (cellsB ⟨2, 0, 0, 0, 0, 0, 0, 0, 0, 0⟩), .bool true]) ?_ rfl ⟨rfl, HN.out ▸ E.2.2⟩
          exact results_cct rfl _ _ (nb + 2) (nb + 3) 78 49 (cellsT X) (cellsB ⟨2, 0, 0, 0, 0, 0, 0, 0, 0, 0⟩) (0, 0) (0, 0) _ _ rfl E.1 rfl rfl infoSP rfl E.2.1 rfl rfl infoSB _ rfl
      · rw [if_neg hk2] at hX
        have hk : kindP Q = 1 ∨ kindP Q = 3 := by rcases kind_is Q with h | h | h | h <;> simp_all
        obtain ⟨c, rfl, oc⟩ := SP.out.offer (by rw [HK1.out]; exact hk)
        rw [HK1.out] at oc
        obtain ⟨k, hkk⟩ : ∃ k, kindP Q = k := ⟨_, rfl⟩
        rw [hkk] at oc
        obtain ⟨cfg, hc⟩ : ∃ c, (k == 1) = c := ⟨_, rfl⟩
        obtain ⟨Q2, hQ2⟩ : ∃ Q2, ({ Q1 with tcAck := false } : Pt) = Q2 := ⟨_, rfl⟩
        obtain ⟨X1, hX1⟩ : ∃ X1, ({ Q2 with txCount := Q2.txCount + 1 } : Pt) = X1 := ⟨_, rfl⟩
        obtain ⟨Fl, hFl⟩ : ∃ F, flagsI Q1 cfg = F := ⟨_, rfl⟩
        obtain ⟨A, hA⟩ : ∃ F, scaledI Q1.given.age = F := ⟨_, rfl⟩
        obtain ⟨Mx, hM⟩ : ∃ F, scaledI Q1.given.max = F := ⟨_, rfl⟩
        obtain ⟨He, hH⟩ : ∃ F, scaledI Q1.given.hello = F := ⟨_, rfl⟩
        obtain ⟨De, hD⟩ : ∃ F, scaledI Q1.given.delay = F := ⟨_, rfl⟩
        have HQX := Lib.hid hX1
        have HTX2 := Lib.hid (show -9223372036854775808 ≤ Q2.txCount ∧ Q2.txCount ≤ 5 by rw [← hQ2]; exact HTX.out)
        have hmq : msgP Q = ⟨k, Fl, Q1.offer.root, Q1.offer.cost, Q1.offer.bridge, Q1.offer.port, A, Mx, He, De⟩ := by
          rw [← hFl, ← hA, ← hM, ← hH, ← hD, ← hc, ← hkk, ← HQ1.out]
          rfl
        have hX : (X, M, ok) = (X1, (⟨k, Fl, Q1.offer.root, Q1.offer.cost, Q1.offer.bridge, Q1.offer.port, A, Mx, He, De⟩ : Bp), true) := by rw [hX, ← hX1, ← hQ2, ← HQ1.out, hmq]; rw [← HQ1.out]
        obtain ⟨rfl, rfl, rfl⟩ : X = X1 ∧ M = (⟨k, Fl, Q1.offer.root, Q1.offer.cost, Q1.offer.bridge, Q1.offer.port, A, Mx, He, De⟩ : Bp) ∧ ok = true := by simpa using hX
        have HO := Lib.hid oc
        have CO := Lib.hid (offers_w (nb + 1) c k Fl A Mx He De cfg Q1 Q2 w2 S2.out.pt HO.out S2.out.roles hc (Lib.hid hFl) (Lib.hid hA) (Lib.hid hM) (Lib.hid hH) (Lib.hid hD) (by rw [← HQ1.out]; exact H0.out) (by rw [← HQ1.out]; exact HS.out) (Lib.hid hQ2))
        clear hX hk0 hk2 HX hX1 hQ2 hmq hFl hA hM hH hD hc hkk hk oc HTX
        have HTX := HTX2
        clear HTX2
        go_wp2_with fail
        refine CO.out.mono ?_
        rintro e w3 ⟨rfl, tn⟩
        have S3 := Lib.hid (S2.out.tn tn)
        clear tn CO
        go_upto_region 13 with (fail)
        obtain ⟨V3, mb, hV3, hmb, km, kb⟩ : ∃ (V : World) (b : Nat), w3.alloc (.cells (cellsB ⟨k, Fl, Q1.offer.root, Q1.offer.cost, Q1.offer.bridge, Q1.offer.port, A, Mx, He, De⟩) 49) = V ∧ w3.heap.size = b ∧ BBlk 49 V b ⟨k, Fl, Q1.offer.root, Q1.offer.cost, Q1.offer.bridge, Q1.offer.port, A, Mx, He, De⟩ ∧ Below w3.heap.size w3 V := ⟨_, _, rfl, rfl, heap_alloc_new w3 _, below_box w3 _⟩
        refine wp_to (W := V3) (by exact hV3.symm) ?_
        rw [hmb]
        have S := Lib.hid (S3.out.next kb)
        have KM := Lib.hid km
        have HMB := Lib.hid (show nb + 3 < mb by rw [← hmb]; exact S3.out.r2.lt)
        clear hV3 hmb km kb S3 S2
        have hX : True := trivial
        have f := S.out.pt.free
        have c_tx := S.out.pt.c_txCount
        have t0 := HTX.out.1
        have t1 := HTX.out.2
        go_upto_region 14 with (fail)
        have hmb : nb + 3 < mb := HMB.out
        obtain ⟨V4, hV4⟩ : ∃ V4, V3.setCell ⟨nb + 1, 58, none⟩ (.int .i64 (Q2.txCount + 1)) = V4 := ⟨_, rfl⟩
        have S4 := Lib.hid (show SdW w nb i t X V4 by rw [← hV4]; exact (S.out.tn ((Tn.refl S.out.pt).set 58 (.int .i64 (Q2.txCount + 1)) (S.out.pt.s_txCount (Q2.txCount + 1)))).as HQX.out)
        have KM4 := Lib.hid (show BBlk 49 V4 mb ⟨k, Fl, Q1.offer.root, Q1.offer.cost, Q1.offer.bridge, Q1.offer.port, A, Mx, He, De⟩ by rw [← hV4]; exact KM.out.other 58 _ (by omega))
        refine wp_to (W := V4) (by exact hV4.symm) ?_
        clear hV4 f c_tx t0 t1 S KM
        refine wp_region_held_drew (S := fun V => PtBlk 78 V (nb + 1) X ∧ BBlk 49 V mb ⟨k, Fl, Q1.offer.root, Q1.offer.cost, Q1.offer.bridge, Q1.offer.port, A, Mx, He, De⟩) (by kernel_rfl) (show PtBlk 78 V4.drew (nb + 1) X ∧ BBlk 49 V4.drew mb ⟨k, Fl, Q1.offer.root, Q1.offer.cost, Q1.offer.bridge, Q1.offer.port, A, Mx, He, De⟩ from ⟨S4.out.pt, KM4.out⟩) (fun hHeld => ?_)
        try simp only [Act.put]
        refine wpAnyH_take (i := 0) (v := .agg (cellsT X)) rfl (by kernel_rfl) (by kernel_rfl) (by kernel_rfl) (fun _ _ _ h => h) (yieldsIf_run (by rfl) 78 _ rfl ⟨nb + 1, 0, none⟩ rfl _ (fun V h => loadAt_row h.1 rfl rfl (by kernel_rfl))) hHeld ?_
        try simp only [Act.put, List.getElem_toArray, List.getElem_cons_succ, List.getElem_cons_zero, List.setIfInBounds_toArray, List.set_cons_zero, List.set_cons_succ]
        refine wpAnyH_take (i := 1) (v := .agg (cellsB ⟨k, Fl, Q1.offer.root, Q1.offer.cost, Q1.offer.bridge, Q1.offer.port, A, Mx, He, De⟩)) rfl (by kernel_rfl) (by kernel_rfl) (by kernel_rfl) (fun _ _ _ h => h) (yieldsIf_run (by rfl) 49 _ rfl ⟨mb, 0, none⟩ rfl _ (fun V h => loadAt_row h.2 rfl rfl (by kernel_rfl))) hHeld ?_
        try simp only [Act.put, List.getElem_toArray, List.getElem_cons_succ, List.getElem_cons_zero, List.setIfInBounds_toArray, List.set_cons_zero, List.set_cons_succ]
        refine wpAnyH_ready (rs := [2]) (by kernel_rfl) (by simp) ?_
        refine AllReadyH.cons rfl (fun K hK => ?_) AllReadyH.nil
        · rw [if_pos (by kernel_rfl)]
          refine wp_store_row 78 _ _ rfl (nb + 2) (cellsT X) rfl rfl 78 _ ((sd_drew S4.out).r1) infoSP rfl (cellsT_one _) ?_
          refine hK.out _ _ ⟨(setRow_other _ _ _ _ (by omega)).trans S4.out.pt, (setRow_other _ _ _ _ (by omega)).trans KM4.out⟩ (fun hHeld => ?_)
          clear hK
          try simp only [Act.put, List.getElem_toArray, List.getElem_cons_succ, List.getElem_cons_zero, List.setIfInBounds_toArray, List.set_cons_zero, List.set_cons_succ]
          refine wpAnyH_ready (rs := [3]) (by kernel_rfl) (by simp) ?_
          refine AllReadyH.cons rfl (fun K hK => ?_) AllReadyH.nil
          rw [if_pos (by kernel_rfl)]
          refine wp_store_row 49 _ _ rfl (nb + 3) (cellsB ⟨k, Fl, Q1.offer.root, Q1.offer.cost, Q1.offer.bridge, Q1.offer.port, A, Mx, He, De⟩) rfl rfl 49 _ ((setRow_other _ _ _ _ (by omega)).trans (sd_drew S4.out).r2) infoSB rfl (cellsB_one _) ?_
          refine hK.out _ _ ⟨(setRow_other _ _ _ _ (by omega)).trans ((setRow_other _ _ _ _ (by omega)).trans S4.out.pt), (setRow_other _ _ _ _ (by omega)).trans ((setRow_other _ _ _ _ (by omega)).trans KM4.out)⟩ (fun hHeld => ?_)
          clear hK
          try simp only [Act.put, List.getElem_toArray, List.getElem_cons_succ, List.getElem_cons_zero, List.setIfInBounds_toArray, List.set_cons_zero, List.set_cons_succ]
          refine wpAnyH_take (i := 4) (v := .bool true) rfl (by kernel_rfl) (by kernel_rfl) (by kernel_rfl) (fun _ _ _ h => h) (Or.inl ⟨by rfl, fun V h => by go_simp⟩) hHeld ?_
          try simp only [Act.put, List.getElem_toArray, List.getElem_cons_succ, List.getElem_cons_zero, List.setIfInBounds_toArray, List.set_cons_zero, List.set_cons_succ]
          refine wpAnyH_done (by kernel_rfl) ?_ _
          clear hHeld
          have E := sd_end (X := X) (M := ⟨k, Fl, Q1.offer.root, Q1.offer.cost, Q1.offer.bridge, Q1.offer.port, A, Mx, He, De⟩) (sd_drew S4.out)
          go_wp2_with fail
          refine bodyPost_ret (v := .tuple #[.agg (cellsT X), .agg (cellsB ⟨k, Fl, Q1.offer.root, Q1.offer.cost, Q1.offer.bridge, Q1.offer.port, A, Mx, He, De⟩), .bool true]) ?_ rfl ⟨rfl, HN.out ▸ E.2.2⟩
          exact results_cct rfl _ _ (nb + 2) (nb + 3) 78 49 (cellsT X) (cellsB ⟨k, Fl, Q1.offer.root, Q1.offer.cost, Q1.offer.bridge, Q1.offer.port, A, Mx, He, De⟩) (0, 0) (0, 0) _ _ rfl E.1 rfl rfl infoSP rfl E.2.1 rfl rfl infoSB _ rfl

theorem send14_w (i : Int) (t : Tm) (p X : Pt) (M : Bp) (ok : Bool) (w : World) (hT : TRoles w) (hs : smallB p = true) (h0 : 0 ≤ p.given.age ∧ 0 ≤ p.given.max ∧ 0 ≤ p.given.hello ∧ 0 ≤ p.given.delay) (hx : -9223372036854775808 ≤ p.txCount) (hX : sendP t p = (X, M, ok)) :
    Calls Tryz.prog 50 #[brv i t.age t.max t.hello t.delay, .agg (cellsT p)] w fun e w' => e = .returned (.tuple #[.agg (cellsT X), M.val, .bool ok]) ∧ Below w.heap.size w w' := by
  have hno : goesB t p = false → (X, M, ok) = (p, zeroM, false) := fun h => by rw [← hX]; unfold sendP; rw [if_pos h]
  cases hb : rightBr t with
  | false => exact send_a1 i t p X M ok w hT hb (hno (by unfold goesB; rw [hb]; rfl))
  | true =>
  cases ho : p.on with
  | false => exact send_a2 i t p X M ok w hT hb ho (hno (by unfold goesB; rw [hb, ho]; rfl))
  | true =>
  cases hr : p.ready with
  | false => exact send_a3 i t p X M ok w hT hb ho hr (hno (by unfold goesB; rw [hb, ho, hr]; rfl))
  | true =>
  cases hu : p.update with
  | true => exact send_a4 i t p X M ok w hT hb ho hr hu (hno (by unfold goesB; rw [hb, ho, hr, hu]; rfl))
  | false =>
  have hk := hello_keeps t p
  refine send_b i t p (helloP t p) X M ok w hT hb ho hr hu (Lib.hid rfl) ?_ ?_ ?_ ?_
  · rw [← hX, send_tell (by unfold goesB; rw [hb, ho, hr, hu]; rfl)]
  · rw [hk.given]; exact h0
  · unfold smallB; rw [hk.given]; exact hs
  · rw [hello_tx]; exact hx
end Go.Proofs.YtldobcfejldbiaaGreatDoor
