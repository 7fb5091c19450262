/-
  Layer 15: an instance in memory; what is done to one port; doAll.
  Layer 15: doAll; what else is done to one port (a new port, Power, a notice, Hear, Check); has.
  Layer 15: a notice, Power, Hear, Check, as they are done to one port; has.
  Layer 15: the set of what is to be forgotten: a number more; cleared; forget.
-/
import Derived.Test.YtldobcfejldbiaaGreatDoorMbg
import Derived.Test.YtldobcfejldbiaaGreatDoorMav
namespace Go.Proofs.YtldobcfejldbiaaGreatDoor
set_option linter.unusedVariables false
set_option linter.unusedSimpArgs false
open Go.RowKit Vm Rm Bm Im

abbrev xcl (i : Int) (t : Tm) (a : Option Addr) (n cap mb : Nat) (r : Int) : Array Value := #[.int .u64 i, .int .i64 t.age, .int .i64 t.max, .int .i64 t.hello, .int .i64 t.delay, .slice a n cap, .map (some mb), .int .i64 r]
/-- An instance's block. -/
def XBlk (w : World) (xb : Nat) (i : Int) (t : Tm) (a : Option Addr) (n cap mb : Nat) (r : Int) : Prop := w.heap[xb]? = some (.cells (xcl i t a n cap mb r) 95 (0, 0))
section
variable {w w' : World} {xb n cap mb : Nat} {i r : Int} {t : Tm} {a : Option Addr}
theorem XBlk.lt (h : XBlk w xb i t a n cap mb r) : xb < w.heap.size := (Array.getElem?_eq_some_iff.1 h).1
theorem XBlk.same (h : XBlk w xb i t a n cap mb r) (e : w'.heap[xb]? = w.heap[xb]?) : XBlk w' xb i t a n cap mb r := e.trans h
theorem XBlk.next (h : XBlk w xb i t a n cap mb r) (hb : Below w.heap.size w w') : XBlk w' xb i t a n cap mb r := h.same (hb.block xb h.lt)
theorem XBlk.drew (h : XBlk w xb i t a n cap mb r) : XBlk w.drew xb i t a n cap mb r := h
theorem XBlk.kp {g : Nat} (h : XBlk w xb i t a n cap mb r) (hk : Kp g w w') (hne : xb ≠ g) : XBlk w' xb i t a n cap mb r := h.same (hk.block xb h.lt hne)
theorem XBlk.free (h : XBlk w xb i t a n cap mb r) (j : Nat) : w.frozen? ⟨xb, j, none⟩ = false := by
  unfold XBlk at h
  simp [World.frozen?, h]
theorem XBlk.cells (h : XBlk w xb i t a n cap mb r) : w.cell? ⟨xb, 0, none⟩ = some (.int .u64 i) ∧ w.cell? ⟨xb, 1, none⟩ = some (.int .i64 t.age) ∧ w.cell? ⟨xb, 2, none⟩ = some (.int .i64 t.max) ∧ w.cell? ⟨xb, 3, none⟩ = some (.int .i64 t.hello) ∧ w.cell? ⟨xb, 4, none⟩ = some (.int .i64 t.delay) ∧
    w.cell? ⟨xb, 5, none⟩ = some (.slice a n cap) ∧ w.cell? ⟨xb, 6, none⟩ = some (.map (some mb)) ∧ w.cell? ⟨xb, 7, none⟩ = some (.int .i64 r) := by
  unfold XBlk at h
  refine ⟨?_, ?_, ?_, ?_, ?_, ?_, ?_, ?_⟩ <;> simp [World.cell?, h]
theorem XBlk.ports (h : XBlk w xb i t a n cap mb r) (a' : Option Addr) (n' cap' : Nat) : XBlk (w.setCell ⟨xb, 5, none⟩ (.slice a' n' cap')) xb i t a' n' cap' mb r := heap_setCell_same _ _ _ _ _ _ h
theorem XBlk.rounds (h : XBlk w xb i t a n cap mb r) (r' : Int) : XBlk (w.setCell ⟨xb, 7, none⟩ (.int .i64 r')) xb i t a n cap mb r' := heap_setCell_same _ _ _ _ _ _ h
/-- No port lies in an instance's block: it has too few cells. -/
theorem XBlk.apart {l : List Pt} {a2 : Option Addr} (h : XBlk w xb i t a n cap mb r) (hr : PRow w a2 l) {j : Nat} {p : Pt} (hp : l[j]? = some p) {g o : Nat} (e : a2 = some ⟨g, o, none⟩) : g ≠ xb := by
  rintro rfl
  obtain ⟨g', o', e', _, hc⟩ := hr.at_ j p hp
  rw [e] at e'
  cases e'
  have := hc 60 (.int .i64 p.migrate) rfl
  unfold XBlk at h
  unfold World.cell? at this
  simp only [h] at this
  have h2 : (xcl i t a n cap mb r)[o + j * 61 + 60]? = none := Array.getElem?_eq_none (by show 8 ≤ _; omega)
  simp only [Option.isSome_none, Bool.false_eq_true, if_false] at this
  rw [h2] at this
  cases this
theorem PRow.kx {l : List Pt} {a2 : Option Addr} (hr : PRow w a2 l) (h : XBlk w xb i t a n cap mb r) (hk : Kp xb w w') : PRow w' a2 l :=
  ⟨fun j p hp => by
    obtain ⟨g, o, e, hg, k⟩ := hr.at_ j p hp
    have hne := h.apart hr hp e
    exact ⟨g, o, e, Nat.lt_of_lt_of_le hg hk.size, fun c v hv => by
      have := k c v hv
      rw [← this]
      simp only [World.cell?, hk.block g hg hne]⟩⟩
/-- Nor in a map's. -/
theorem IsFm.apart {l : List Pt} {a2 : Option Addr} {f : List Int} (h : IsFm w mb f) (hr : PRow w a2 l) {j : Nat} {p : Pt} (hp : l[j]? = some p) {g o : Nat} (e : a2 = some ⟨g, o, none⟩) : g ≠ mb := by
  rintro rfl
  obtain ⟨D, nn, _, ⟨es, clock, hb, _⟩, _⟩ := h.own
  obtain ⟨g', o', e', _, hc⟩ := hr.at_ j p hp
  rw [e] at e'
  cases e'
  have := hc 60 (.int .i64 p.migrate) rfl
  unfold World.cell? at this
  simp only [hb] at this
  cases this
theorem IsFm.ne {f : List Int} (h : IsFm w mb f) (hx : XBlk w xb i t a n cap mb r) : xb ≠ mb := by
  rintro rfl
  obtain ⟨D, nn, _, ⟨es, clock, hb, _⟩, _⟩ := h.own
  unfold XBlk at hx
  rw [hx] at hb
  cases hb
theorem PRow.km {l : List Pt} {a2 : Option Addr} {f : List Int} (hr : PRow w a2 l) (h : IsFm w mb f) (hk : Kp mb w w') : PRow w' a2 l :=
  ⟨fun j p hp => by
    obtain ⟨g, o, e, hg, k⟩ := hr.at_ j p hp
    have hne := h.apart hr hp e
    exact ⟨g, o, e, Nat.lt_of_lt_of_le hg hk.size, fun c v hv => by
      have := k c v hv
      rw [← this]
      simp only [World.cell?, hk.block g hg hne]⟩⟩
end
theorem PRow.drew {w : World} {a : Option Addr} {l : List Pt} (h : PRow w a l) : PRow w.drew a l := ⟨h.at_⟩
theorem Kp.drew {g : Nat} {w w1 : World} (h : Kp g w w1) : Kp g w w1.drew := ⟨h.os, h.tape, h.output, h.size, h.block⟩
theorem Kp.drew0 {g : Nat} {w w1 : World} (h : Kp g w.drew w1) : Kp g w w1 := ⟨h.os, h.tape, h.output, h.size, h.block⟩

/-! What is done to one port. -/
set_option maxRecDepth 20000 in
set_option maxHeartbeats 1000000 in
theorem round1_w (p : Pt) (w : World) : Calls Tryz.prog 115 #[.agg (cellsT p)] w fun e w' => e = .returned (.agg (cellsT (endP p))) ∧ Below w.heap.size w w' := by
  obtain ⟨W, nb, HW, HN, k0, k1, kB⟩ := twoP_is 78 w p
  have K0 := Lib.hid k0
  have K1 := Lib.hid k1
  have KB := Lib.hid kB
  have CT := Lib.hid (fun w' => tongue14_w p w')
  have CE := Lib.hid (fun w' => edge14_w (tongueP p) w')
  clear k0 k1 kB
  go_enter Tryz.func115, Tryz.ntmps115
  go_upto_region 1 with (fail)
  refine wp_to (W := W) (by exact HW.out.symm) ?_
  rw [HN.out]
  go_wp2_with (first
    | (with_reducible refine wpList_pt rfl _ rfl nb rfl p K0.out ?_)
    | (go_at_call 117; (with_reducible refine (CT.out _).mono ?_); rintro e w1 ⟨rfl, hb1⟩; have K2 := Lib.hid (K1.out.next hb1); have B2 := Lib.hid (KB.out.trans (hb1.mono (Nat.le_of_lt K0.out.lt))))
    | (go_at_call 116; (with_reducible refine (CE.out _).mono ?_); rintro e w2 ⟨rfl, hb2⟩; have K3 := Lib.hid (K2.out.next hb2); have B3 := Lib.hid (B2.out.trans (hb2.mono (by have := K2.out.lt; omega))))
    | (with_reducible refine wpList_ptst rfl _ _ rfl _ rfl (edgeP (tongueP p)) zeroP rfl K3.out ?_))
  have K5 := Lib.hid (K3.out.row (edgeP (tongueP p)))
  have K6 := Lib.hid (below_row B3.out (g := nb + 1) (by omega) (cellsT (edgeP (tongueP p))))
  exact bodyPost_ret (v := .agg (cellsT (edgeP (tongueP p)))) (results_cell_row rfl _ _ (nb + 1) 78 (cellsT (edgeP (tongueP p))) (0, 0) _ rfl K5.out rfl rfl infoSP) rfl ⟨rfl, HN.out ▸ K6.out⟩
end Go.Proofs.YtldobcfejldbiaaGreatDoor

namespace Go.Proofs.YtldobcfejldbiaaGreatDoor
set_option linter.unusedVariables false
set_option linter.unusedSimpArgs false
open Go.RowKit Vm Rm Bm Im

set_option maxRecDepth 20000 in
set_option maxHeartbeats 1000000 in
theorem doAll_w (f : Nat) (F : Pt → Pt) (he : ∀ (a : Array Value) (w : World), Sem.run Tryz.prog (callFunc f a) w = .ok (.enter f a) w) (xb : Nat) (i : Int) (t : Tm) (a : Option Addr) (n cap mb : Nat) (r : Int) (l : List Pt) (w : World) (h : XBlk w xb i t a n cap mb r) (hr : PRow w a l) (hn : l.length = n) (hl : n ≤ 1000)
    (hc : ∀ (i : Nat) (p : Pt), l[i]? = some p → ∀ w' : World, Below w.heap.size w w' → Calls Tryz.prog f #[.agg (cellsT p)] w' fun e w'' => e = .returned (.agg (cellsT (F p))) ∧ Below w'.heap.size w' w'') :
    Calls Tryz.prog 46 #[.pointer (some ⟨xb, 0, none⟩), .func (.func f) #[] #[]] w fun e w' => e = .returned (.tuple #[]) ∧ ∃ (a' : Option Addr) (cap' : Nat), n ≤ cap' ∧ XBlk w' xb i t a' n cap' mb r ∧ PRow w' a' (l.map F) ∧ Kp xb w w' := by
  have CE := Lib.hid (eachP_w f F he a cap l w hr (by omega) hc)
  have HX := Lib.hid h
  obtain ⟨k0, k1, k2, k3, k4, k5, k6, k7⟩ := h.cells
  have f5 := h.free 5
  rw [hn] at CE
  clear hr hc h
  go_enter Tryz.func46, Tryz.ntmps46
  go_wp2_with fail
  (with_reducible refine CE.out.mono ?_)
  rintro e w1 ⟨a', cap', rfl, hcap, hrow, hb1⟩
  have H1 := Lib.hid (HX.out.next hb1)
  have g5 := H1.out.free 5
  have HB := Lib.hid hb1
  have HR := Lib.hid hrow
  clear hb1 hrow k0 k1 k2 k3 k4 k5 k6 k7 f5
  obtain ⟨k0, k1, k2, k3, k4, k5, k6, k7⟩ := H1.out.cells
  go_wp2_with fail
  go_end0
  have hk : Kp xb w1 (w1.setCell ⟨xb, 5, none⟩ (.slice a' n cap')) := (Kp.refl' xb w1).set 5 _
  exact ⟨rfl, a', cap', hcap, H1.out.ports _ _ _, HR.out.kx H1.out hk, (Kp.of HB.out).trans' hk⟩

set_option maxRecDepth 20000 in
set_option maxHeartbeats 1000000 in
theorem newPort_w (i c : Int) (e : Bool) (w : World) : Calls Tryz.prog 29 #[suv i c e] w fun e' w' => e' = .returned (.agg (cellsT (firstPt i c e))) ∧ Below w.heap.size w w' := by
  obtain ⟨W, hW⟩ : ∃ W, (w.alloc (.cells #[.int .u64 i, .int .u64 c, .bool e] 82)).alloc (.cells (cellsT zeroP) 78) = W := ⟨_, rfl⟩
  have HW := Lib.hid hW
  have KS := Lib.hid (show SuBlk W w.heap.size i c e by rw [← hW]; exact heap_alloc2_old w _ _)
  have K1 := Lib.hid (show PtBlk 78 W (w.heap.size + 1) zeroP by rw [← hW]; exact heap_alloc2_new w _ _)
  have KB := Lib.hid (show Below w.heap.size w W by rw [← hW]; exact bw_alloc (below_box w _) _)
  have k0 : W.cell? ⟨w.heap.size, 0, none⟩ = some (.int .u64 i) := by have := KS.out; unfold SuBlk at this; simp [World.cell?, this]
  have k1 : W.cell? ⟨w.heap.size, 1, none⟩ = some (.int .u64 c) := by have := KS.out; unfold SuBlk at this; simp [World.cell?, this]
  have k2 : W.cell? ⟨w.heap.size, 2, none⟩ = some (.bool e) := by have := KS.out; unfold SuBlk at this; simp [World.cell?, this]
  have CN := Lib.hid (fun w' => new_w i c e (newP i c e) w' (Lib.hid rfl))
  clear hW
  go_enter Tryz.func29, Tryz.ntmps29
  go_upto_region 1 with (fail)
  refine wp_to (W := W) (by exact HW.out.symm) ?_
  go_upto_region 2 with (first
    | (go_at_call 58; (with_reducible refine (CN.out _).mono ?_); rintro e1 w1 ⟨rfl, hb1⟩; have H1 := Lib.hid hb1; clear hb1 k0 k1 k2)
    | (refine wpList_ptst rfl _ _ rfl _ rfl (newP i c e) zeroP rfl (ptblk_new _ w1 zeroP) ?_))
  obtain ⟨V, nb, HV, HNB, kP, kB, kL⟩ := fillS_is w1 (newP i c e)
  refine wp_to (W := V) (by exact HV.out.symm) ?_
  rw [HNB.out]
  have hvb : Below w1.heap.size w1 V := by rw [HNB.out]; exact kB
  have K2 := Lib.hid ((K1.out.next H1.out).next hvb)
  have B2 := Lib.hid (bw_trans KB.out (bw_trans H1.out hvb))
  have f26 := kP.free 26
  have HP := Lib.hid (show PtBlk 78 (V.setCell ⟨nb, 26, none⟩ (.bool true)) nb (firstPt i c e) from kP.s_reselect true)
  have hne : nb ≠ w.heap.size + 1 := by have := (K1.out.next H1.out).lt; have := HNB.out; omega
  have hnb : w.heap.size ≤ nb := by have := KB.out.size; have := H1.out.size; have := HNB.out; omega
  have K3 := Lib.hid (show PtBlk 78 (V.setCell ⟨nb, 26, none⟩ (.bool true)) (w.heap.size + 1) zeroP from K2.out.same (Below.heap_setCell V ⟨nb, 26, none⟩ _ _ (fun e => hne e.symm)))
  have B3 := Lib.hid (show Below w.heap.size w (V.setCell ⟨nb, 26, none⟩ (.bool true)) from B2.out.setCell hnb _)
  have c26 := kP.c_reselect
  clear kP kB kL hvb HV
  go_wp2_with (first
    | (with_reducible refine wpList_pt rfl _ rfl nb rfl (firstPt i c e) HP.out ?_)
    | (with_reducible refine wpList_ptst rfl _ _ rfl _ rfl (firstPt i c e) zeroP rfl K3.out ?_))
  have K5 := Lib.hid (K3.out.row (firstPt i c e))
  have K6 := Lib.hid (below_row B3.out (g := w.heap.size + 1) (by omega) (cellsT (firstPt i c e)))
  exact bodyPost_ret (v := .agg (cellsT (firstPt i c e))) (results_cell_row rfl _ _ (w.heap.size + 1) 78 (cellsT (firstPt i c e)) (0, 0) _ rfl K5.out rfl rfl infoSP) rfl ⟨rfl, K6.out⟩
end Go.Proofs.YtldobcfejldbiaaGreatDoor

namespace Go.Proofs.YtldobcfejldbiaaGreatDoor
set_option linter.unusedVariables false
set_option linter.unusedSimpArgs false
open Go.RowKit Vm Rm Bm Im

set_option maxRecDepth 100000 in
theorem wpList_bq {ops : Array Oper} {rest : List Oper} {op : Oper} {a : Act} {w : World} {Q : Exit → Act → World → Prop} (hgd : op.guard = none) (x : Operand) (ho : op.op = .load 49 x)
    (b : Nat) (hx : a.eval x = .pointer (some ⟨b, 0, none⟩)) (q : Bp) (hc : BBlk 49 w b q)
    (h : wpList Tryz.prog ops Q rest (a.put op.dst (bq q)) w) : wpList Tryz.prog ops Q (op :: rest) a w :=
  wpList_load_row hgd 49 x ho b hx 49 (cellsB q) (0, 0) _ hc rfl rfl infoSB h

set_option maxRecDepth 20000 in
set_option maxHeartbeats 1000000 in
theorem heedN_w (p : Pt) (w : World) : Calls Tryz.prog 42 #[.agg (cellsT p)] w fun e w' => e = .returned (.agg (cellsT (noticeP p))) ∧ Below w.heap.size w w' := by
  obtain ⟨W, nb, HW, HN, k0, k1, kB⟩ := twoP_is 78 w p
  have K0 := Lib.hid k0
  have K1 := Lib.hid k1
  have KB := Lib.hid kB
  have c_on := k0.c_on
  clear k0 k1 kB
  cases ho : p.on with
  | false =>
    rw [ho] at c_on
    rw [show noticeP p = p from by unfold noticeP; rw [ho]; simp]
    clear ho
    go_enter Tryz.func42, Tryz.ntmps42
    go_upto_region 1 with (fail)
    refine wp_to (W := W) (by exact HW.out.symm) ?_
    rw [HN.out]
    go_wp2_with (first
      | (with_reducible refine wpList_pt rfl _ rfl nb rfl p K0.out ?_)
      | (with_reducible refine wpList_ptst rfl _ _ rfl _ rfl p zeroP rfl K1.out ?_))
    have K5 := Lib.hid (K1.out.row p)
    have K6 := Lib.hid (below_row KB.out (g := nb + 1) (by omega) (cellsT p))
    exact bodyPost_ret (v := .agg (cellsT p)) (results_cell_row rfl _ _ (nb + 1) 78 (cellsT p) (0, 0) _ rfl K5.out rfl rfl infoSP) rfl ⟨rfl, HN.out ▸ K6.out⟩
  | true =>
    rw [ho] at c_on
    obtain ⟨X, hX⟩ : ∃ X, ({ p with heardStp := true, oper := false, heardTcn := p.heardTcn || decide (p.role = 2) } : Pt) = X := ⟨_, rfl⟩
    rw [show noticeP p = X from by unfold noticeP; rw [if_pos ho]; exact hX]
    have f48 := K0.out.free 48
    have f4 := K0.out.free 4
    have c48 := K0.out.c_heardStp
    have c4 := K0.out.c_oper
    have HX := Lib.hid hX
    clear ho hX
    go_enter Tryz.func42, Tryz.ntmps42
    go_upto_region 1 with (fail)
    refine wp_to (W := W) (by exact HW.out.symm) ?_
    rw [HN.out]
    go_upto_region 3 with (fail)
    obtain ⟨V, hV⟩ : ∃ V, (W.setCell ⟨nb, 48, none⟩ (.bool true)).setCell ⟨nb, 4, none⟩ (.bool false) = V := ⟨_, rfl⟩
    have K2 := Lib.hid (show PtBlk 78 V nb { p with heardStp := true, oper := false } from hV ▸ (K0.out.s_heardStp true).s_oper false)
    have K3 := Lib.hid (show PtBlk 78 V (nb + 1) zeroP from K1.out.same (by rw [← hV]; exact (Below.heap_setCell _ ⟨nb, 4, none⟩ _ _ (by show nb + 1 ≠ nb; omega)).trans (Below.heap_setCell _ ⟨nb, 48, none⟩ _ _ (by show nb + 1 ≠ nb; omega))))
    have B2 := Lib.hid (show Below nb w V from hV ▸ (KB.out.setCell (Nat.le_refl _) _).setCell (Nat.le_refl _) _)
    refine wp_to (W := V) (by exact hV.symm) ?_
    have c_tcn : V.cell? ⟨nb, 41, none⟩ = some (.bool p.heardTcn) := K2.out.c_heardTcn
    have c_role : V.cell? ⟨nb, 22, none⟩ = some (.int .i64 p.role) := K2.out.c_role
    have f41 := K2.out.free 41
    clear hV c_on f48 f4
    have FIN : ∀ B : Bool, (p.heardTcn || decide (p.role = 2)) = B → PtBlk 78 (V.setCell ⟨nb, 41, none⟩ (.bool B)) nb X ∧ PtBlk 78 (V.setCell ⟨nb, 41, none⟩ (.bool B)) (nb + 1) zeroP ∧ Below nb w (V.setCell ⟨nb, 41, none⟩ (.bool B)) := fun B hB =>
      ⟨by rw [← HX.out, hB]; exact K2.out.s_heardTcn B, K3.out.same (Below.heap_setCell _ ⟨nb, 41, none⟩ _ _ (by show nb + 1 ≠ nb; omega)), B2.out.setCell (Nat.le_refl _) _⟩
    have HF := Lib.hid FIN
    clear FIN
    cases ht : p.heardTcn with
    | true =>
      rw [ht] at c_tcn
      obtain ⟨h1, h2, h3⟩ := HF.out true (by rw [ht]; rfl)
      have H1 := Lib.hid h1
      have H2 := Lib.hid h2
      have H3 := Lib.hid h3
      clear h1 h2 h3 ht HF
      go_wp2_with (first
        | (with_reducible refine wpList_pt rfl _ rfl nb rfl X H1.out ?_)
        | (with_reducible refine wpList_ptst rfl _ _ rfl _ rfl X zeroP rfl H2.out ?_))
      have K5 := Lib.hid (H2.out.row X)
      have K6 := Lib.hid (below_row H3.out (g := nb + 1) (by omega) (cellsT X))
      exact bodyPost_ret (v := .agg (cellsT X)) (results_cell_row rfl _ _ (nb + 1) 78 (cellsT X) (0, 0) _ rfl K5.out rfl rfl infoSP) rfl ⟨rfl, HN.out ▸ K6.out⟩
    | false =>
      rw [ht] at c_tcn
      obtain ⟨R, hR⟩ : ∃ R, decide (p.role = 2) = R := ⟨_, rfl⟩
      have hR2 : (p.role == 2) = R := by rw [← hR]; rfl
      obtain ⟨h1, h2, h3⟩ := HF.out R (by rw [ht, hR]; rfl)
      have H1 := Lib.hid h1
      have H2 := Lib.hid h2
      have H3 := Lib.hid h3
      clear h1 h2 h3 ht HF hR
      go_wp2_with (first
        | (with_reducible refine wpList_pt rfl _ rfl nb rfl X H1.out ?_)
        | (with_reducible refine wpList_ptst rfl _ _ rfl _ rfl X zeroP rfl H2.out ?_))
      have K5 := Lib.hid (H2.out.row X)
      have K6 := Lib.hid (below_row H3.out (g := nb + 1) (by omega) (cellsT X))
      exact bodyPost_ret (v := .agg (cellsT X)) (results_cell_row rfl _ _ (nb + 1) 78 (cellsT X) (0, 0) _ rfl K5.out rfl rfl infoSP) rfl ⟨rfl, HN.out ▸ K6.out⟩

set_option maxRecDepth 20000 in
set_option maxHeartbeats 1000000 in
theorem check1_w (p : Pt) (w : World) : Calls Tryz.prog 49 #[.agg (cellsT p)] w fun e w' => e = .returned (.agg (cellsT (checkP p))) ∧ Below w.heap.size w w' := by
  obtain ⟨W, nb, HW, HN, k0, k1, kB⟩ := twoP_is 78 w p
  have K0 := Lib.hid k0
  have H1 := Lib.hid (show PtBlk 78 (W.setCell ⟨nb, 49, none⟩ (.bool true)) nb (checkP p) from k0.s_check true)
  have H2 := Lib.hid (show PtBlk 78 (W.setCell ⟨nb, 49, none⟩ (.bool true)) (nb + 1) zeroP from k1.same (Below.heap_setCell _ ⟨nb, 49, none⟩ _ _ (by show nb + 1 ≠ nb; omega)))
  have H3 := Lib.hid (show Below nb w (W.setCell ⟨nb, 49, none⟩ (.bool true)) from kB.setCell (Nat.le_refl _) _)
  have f49 := k0.free 49
  have c49 := k0.c_check
  clear k0 k1 kB
  go_enter Tryz.func49, Tryz.ntmps49
  go_upto_region 1 with (fail)
  refine wp_to (W := W) (by exact HW.out.symm) ?_
  rw [HN.out]
  go_wp2_with (first
    | (with_reducible refine wpList_pt rfl _ rfl nb rfl (checkP p) H1.out ?_)
    | (with_reducible refine wpList_ptst rfl _ _ rfl _ rfl (checkP p) zeroP rfl H2.out ?_))
  have K5 := Lib.hid (H2.out.row (checkP p))
  have K6 := Lib.hid (below_row H3.out (g := nb + 1) (by omega) (cellsT (checkP p)))
  exact bodyPost_ret (v := .agg (cellsT (checkP p))) (results_cell_row rfl _ _ (nb + 1) 78 (cellsT (checkP p)) (0, 0) _ rfl K5.out rfl rfl infoSP) rfl ⟨rfl, HN.out ▸ K6.out⟩

set_option maxRecDepth 20000 in
set_option maxHeartbeats 1000000 in
theorem power1_w (p : Pt) (on : Bool) (cb : Nat) (w : World) (hc : w.cell? ⟨cb, 0, none⟩ = some (.bool on)) (hcb : cb < w.heap.size) : Calls Tryz.prog 36 #[.agg (cellsT p), .pointer (some ⟨cb, 0, none⟩)] w fun e w' => e = .returned (.agg (cellsT (powerP p on))) ∧ Below w.heap.size w w' := by
  obtain ⟨W, nb, HW, HN, k0, k1, kB⟩ := twoP_is 78 w p
  have K0 := Lib.hid k0
  have K1 := Lib.hid k1
  have KB := Lib.hid kB
  have c0 : W.cell? ⟨cb, 0, none⟩ = some (.bool on) := (kB.cell (p := ⟨cb, 0, none⟩) (by have := HN.out; show cb < nb; omega)).trans hc
  have CP := Lib.hid (fun w' => power_w p (powerP p on) on w' (Lib.hid rfl))
  clear k0 k1 kB hc
  go_enter Tryz.func36, Tryz.ntmps36
  go_upto_region 1 with (fail)
  refine wp_to (W := W) (by exact HW.out.symm) ?_
  rw [HN.out]
  go_wp2_with (first
    | (with_reducible refine wpList_pt rfl _ rfl nb rfl p K0.out ?_)
    | (go_at_call 37; (with_reducible refine (CP.out _).mono ?_); rintro e w1 ⟨rfl, hb1⟩; have K2 := Lib.hid (K1.out.next hb1); have B2 := Lib.hid (KB.out.trans (hb1.mono (Nat.le_of_lt K0.out.lt))))
    | (with_reducible refine wpList_ptst rfl _ _ rfl _ rfl (powerP p on) zeroP rfl K2.out ?_))
  have K5 := Lib.hid (K2.out.row (powerP p on))
  have K6 := Lib.hid (below_row B2.out (g := nb + 1) (by omega) (cellsT (powerP p on)))
  exact bodyPost_ret (v := .agg (cellsT (powerP p on))) (results_cell_row rfl _ _ (nb + 1) 78 (cellsT (powerP p on)) (0, 0) _ rfl K5.out rfl rfl infoSP) rfl ⟨rfl, HN.out ▸ K6.out⟩

set_option maxRecDepth 20000 in
set_option maxHeartbeats 1000000 in
theorem hear1_w (p : Pt) (q : Bp) (cb : Nat) (w : World) (ho : p.vec.ok) (hq : BpOk q) (hc : BBlk 49 w cb q) : Calls Tryz.prog 41 #[.agg (cellsT p), .pointer (some ⟨cb, 0, none⟩)] w fun e w' => e = .returned (.agg (cellsT (hearX1 q p))) ∧ Below w.heap.size w w' := by
  obtain ⟨W, nb, HW, HN, k0, k1, kB⟩ := twoP_is 78 w p
  have K0 := Lib.hid k0
  have K1 := Lib.hid k1
  have KB := Lib.hid kB
  have hcb : cb < nb := by have := HN.out; have := hc.lt; omega
  have KQ := Lib.hid (show BBlk 49 W cb q from (kB.block cb hcb).trans hc)
  have c0 : W.cell? ⟨cb, 0, none⟩ = some (.int .i64 q.kind) := by have := KQ.out; unfold BBlk at this; simp [World.cell?, this]
  obtain ⟨X, hX⟩ : ∃ X, hearX1 q p = X := ⟨_, rfl⟩
  rw [hX]
  unfold hearX1 at hX
  clear k0 k1 kB hc hcb
  by_cases hk : q.kind = 2
  · rw [if_pos hk] at hX
    rw [hk] at c0
    have CP := Lib.hid (fun w' => heedN_w p w')
    rw [hX] at CP
    clear hX hk
    go_enter Tryz.func41, Tryz.ntmps41
    go_upto_region 1 with (fail)
    refine wp_to (W := W) (by exact HW.out.symm) ?_
    rw [HN.out]
    go_wp2_with (first
      | (with_reducible refine wpList_pt rfl _ rfl nb rfl p K0.out ?_)
      | (go_at_call 42; (with_reducible refine (CP.out _).mono ?_); rintro e w1 ⟨rfl, hb1⟩; have K2 := Lib.hid (K1.out.next hb1); have B2 := Lib.hid (KB.out.trans (hb1.mono (Nat.le_of_lt K0.out.lt))))
      | (with_reducible refine wpList_ptst rfl _ _ rfl _ rfl X zeroP rfl K2.out ?_))
    have K5 := Lib.hid (K2.out.row X)
    have K6 := Lib.hid (below_row B2.out (g := nb + 1) (by omega) (cellsT X))
    exact bodyPost_ret (v := .agg (cellsT X)) (results_cell_row rfl _ _ (nb + 1) 78 (cellsT X) (0, 0) _ rfl K5.out rfl rfl infoSP) rfl ⟨rfl, HN.out ▸ K6.out⟩
  · rw [if_neg hk] at hX
    have CP := Lib.hid (fun w' => hear_w p X q w' ho hq (Lib.hid hX))
    have hkb : (q.kind == 2) = false := beq_eq_false_iff_ne.2 hk
    clear hX hk
    go_enter Tryz.func41, Tryz.ntmps41
    go_upto_region 1 with (fail)
    refine wp_to (W := W) (by exact HW.out.symm) ?_
    rw [HN.out]
    go_wp2_with (first
      | (with_reducible refine wpList_pt rfl _ rfl nb rfl p K0.out ?_)
      | (with_reducible refine wpList_bq rfl _ rfl cb rfl q KQ.out ?_)
      | (go_at_call 43; (with_reducible refine (CP.out _).mono ?_); rintro e w1 ⟨rfl, hb1⟩; have K2 := Lib.hid (K1.out.next hb1); have B2 := Lib.hid (KB.out.trans (hb1.mono (Nat.le_of_lt K0.out.lt))))
      | (with_reducible refine wpList_ptst rfl _ _ rfl _ rfl X zeroP rfl K2.out ?_))
    have K5 := Lib.hid (K2.out.row X)
    have K6 := Lib.hid (below_row B2.out (g := nb + 1) (by omega) (cellsT X))
    exact bodyPost_ret (v := .agg (cellsT X)) (results_cell_row rfl _ _ (nb + 1) 78 (cellsT X) (0, 0) _ rfl K5.out rfl rfl infoSP) rfl ⟨rfl, HN.out ▸ K6.out⟩
end Go.Proofs.YtldobcfejldbiaaGreatDoor

namespace Go.Proofs.YtldobcfejldbiaaGreatDoor
set_option linter.unusedVariables false
set_option linter.unusedSimpArgs false
open Go.RowKit Go.Maps Go.ChangeMaps Go.MapKept Vm Rm Bm Im

/-! A number, in its place. -/
theorem addI_mem (n x : Int) : ∀ f : List Int, x ∈ addI n f ↔ x = n ∨ x ∈ f
  | [] => by simp [addI]
  | y :: f => by
    unfold addI
    by_cases h1 : y = n
    · rw [if_pos h1]
      subst h1
      simp
    · rw [if_neg h1]
      by_cases h2 : n < y
      · rw [if_pos h2]; simp
      · rw [if_neg h2, List.mem_cons, addI_mem n x f, List.mem_cons]
        constructor
        · rintro (h | h | h)
          · exact .inr (.inl h)
          · exact .inl h
          · exact .inr (.inr h)
        · rintro (h | h | h)
          · exact .inr (.inl h)
          · exact .inl h
          · exact .inr (.inr h)
theorem addI_rise (n : Int) : ∀ f : List Int, f.Pairwise (· < ·) → (addI n f).Pairwise (· < ·)
  | [], _ => by simp [addI]
  | y :: f, h => by
    have hp := List.pairwise_cons.1 h
    unfold addI
    by_cases h1 : y = n
    · rw [if_pos h1]; exact h
    · rw [if_neg h1]
      by_cases h2 : n < y
      · rw [if_pos h2]
        exact List.pairwise_cons.2 ⟨fun z hz => by
          rcases List.mem_cons.1 hz with rfl | hz
          · exact h2
          · have := hp.1 z hz; omega, h⟩
      · rw [if_neg h2]
        exact List.pairwise_cons.2 ⟨fun z hz => by
          rcases (addI_mem n z f).1 hz with rfl | hz
          · omega
          · exact hp.1 z hz, addI_rise n f hp.2⟩
theorem few_of_sub : ∀ (f m : List Int), f.Nodup → (∀ x ∈ f, x ∈ m) → f.length ≤ m.length
  | [], m, _, _ => Nat.zero_le _
  | x :: f, m, hn, hs => by
    have hx := hs x (List.mem_cons_self ..)
    have hn' := List.nodup_cons.1 hn
    have := few_of_sub f (m.erase x) hn'.2 (fun y hy => (List.mem_erase_of_ne (fun e : y = x => hn'.1 (by rw [← e]; exact hy))).2 (hs y (List.mem_cons_of_mem _ hy)))
    rw [List.length_erase_of_mem hx] at this
    have h0 : 0 < m.length := List.length_pos_of_mem hx
    rw [List.length_cons]
    omega
/-- What is to be forgotten: rising, of ports that there are. -/
structure FOk (m f : List Int) : Prop where
  rise : f.Pairwise (· < ·)
  sub : ∀ x ∈ f, x ∈ m
theorem FOk.add {m f : List Int} (h : FOk m f) {n : Int} (hn : n ∈ m) : FOk m (addI n f) :=
  ⟨addI_rise n f h.rise, fun x hx => by rcases (addI_mem n x f).1 hx with rfl | hx; exact hn; exact h.sub x hx⟩
theorem FOk.addAll {m : List Int} : ∀ {f ids : List Int}, FOk m f → (∀ x ∈ ids, x ∈ m) → FOk m (addAll f ids)
  | f, [], h, _ => h
  | f, x :: ids, h, hi => FOk.addAll (f := addI x f) (ids := ids) (h.add (hi x (List.mem_cons_self ..))) (fun y hy => hi y (List.mem_cons_of_mem _ hy))
theorem FOk.few {m f : List Int} (h : FOk m f) : f.length ≤ m.length := few_of_sub f m (h.rise.imp fun hlt e => by omega) h.sub
theorem addAll_next {f ids : List Int} {j : Nat} {x : Int} (h : ids[j]? = some x) : addAll f (ids.take (j + 1)) = addI x (addAll f (ids.take j)) := by
  unfold addAll
  rw [List.take_add_one, h, List.foldl_append]
  rfl
theorem kp_turned {mb : Nat} {w w' : World} (h : w.mapTurned w' mb) : Kp mb w w' := by
  have g := h.grown
  exact ⟨g.os, g.tape, g.output, g.size, fun i hi hn => g.block i hi (fun e => hn (by cases e; rfl))⟩
theorem unit_zero (w : World) : (zeroValue 89).run Tryz.prog w = .ok (.agg #[]) w := by kernel_rfl
theorem IsFm.add {w : World} {mb : Nat} {f : List Int} (h : IsFm w mb f) {n : Int} (hn : Vm.u64B n) (hfew : (addI n f).length ≤ 16) :
    ∃ w', (Instr.mapUpdate 88 (.map (some mb)) (.int .u64 n) (.agg #[])).run Tryz.prog w = .ok () w' ∧ IsFm w' mb (addI n f) ∧ w.mapTurned w' mb := by
  obtain ⟨D, m, hm, h1, h2⟩ := h.own
  have hsz := size_of h1 h2 h.nodup
  obtain ⟨es, clock, hb, F, hs, hD⟩ := h1
  have hes : es.size ≤ 16 := by
    have e : Maps.size D = es.size := by rw [hD]; exact length_read es
    have := h.few
    omega
  have h1' : w.ownsMap (H := Unit) Tryz.prog 22 unitElem mb 16 D := ⟨es, clock, hb, F, hes, hD⟩
  obtain ⟨w', hrun, h3, h4⟩ := h1'.store (H := Unit) keyU Tryz.underlying88 (by unfold maxLen; omega) (keyU_mk hn) unitElem_mk
  refine ⟨w', hrun, ⟨⟨_, 17, by omega, h3, fun x => ?_⟩, addI_rise n f h.rise, hfew, fun x hx => ?_⟩, h4⟩
  · rw [addI_mem]
    by_cases e : x = n
    · subst e
      simp [Maps.has_put_same h1'.isMap (show WideAt.IsKeyLit (zu x) from trivial)]
    · rw [Maps.has_put_other (by simpa using e), h2 x]
      simp [e]
  · rcases (addI_mem n x f).1 hx with rfl | hx
    · exact hn
    · exact h.u64 x hx
theorem fm_cleared {w : World} {mb : Nat} {f : List Int} (h : IsFm w mb f) (ty : TypeId) : ∃ w', (Builtin.clear_ #[88] ty #[.map (some mb)]).run Tryz.prog w = .ok (.tuple #[]) w' ∧ IsFm w' mb [] ∧ w.mapTurned w' mb := by
  obtain ⟨D, m, hm, h1, h2⟩ := h.own
  obtain ⟨es, clock, hb, F, hs, hD⟩ := h1
  refine ⟨setBlock w mb (.map #[] clock), ?_, ?_, ⟨es, clock, #[], clock, hb, rfl⟩⟩
  · simp [Builtin.clear_, run_underlying Tryz.underlying88, MapKept.run_getObj_map hb, MapKept.run_setObj_map _ hb, Result.andThen, setBlock]
  · refine ⟨⟨.map [], 0, by omega, ⟨#[], clock, ?_, ⟨by simp, stamped_empty clock, by simp⟩, Nat.le_refl _, rfl⟩, fun x => by simp [Maps.has]⟩, List.Pairwise.nil, by simp, by simp⟩
    have hlt := (Array.getElem?_eq_some_iff.1 hb).1
    simp [setBlock, Array.getElem?_setIfInBounds, hlt]
end Go.Proofs.YtldobcfejldbiaaGreatDoor
