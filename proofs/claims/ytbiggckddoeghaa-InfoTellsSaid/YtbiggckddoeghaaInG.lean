/-
  Layer 10, as layer 11 asks it: what was heard, of a port and a BPDU that is right and no notice.
-/
import Derived.Test.YtbiggckddoeghaaInF
namespace Go.Proofs.Ytbiggckddoeghaa
set_option linter.unusedVariables false
set_option linter.unusedSimpArgs false
open Go.RowKit Vm Rm Bm Im

/-- A port's numbers are of their kinds. -/
structure PtOk (p : Pt) : Prop where
  id : Vm.u64B p.id
  cost : Vm.u64B p.cost
  source : inI64 p.source
  vec : p.vec.ok
  age : inI64 p.times.age
/-- A BPDU's numbers are of their kinds. -/
structure BpOk (q : Bp) : Prop where
  root : Vm.u64B q.root
  cost : Vm.u64B q.cost
  bridge : Vm.u64B q.bridge
  port : Vm.u64B q.port
def bcells (q : Bp) : Array Value := #[.int .i64 q.kind, .int .i64 q.flags, .int .u64 q.root, .int .u64 q.cost, .int .u64 q.bridge, .int .u64 q.port, .int .i64 q.age, .int .i64 q.max, .int .i64 q.hello, .int .i64 q.delay]
theorem pb_is (T T' : TypeId) (w : World) (p : Pt) (q : Bp) : ∃ (W : World) (nb : Nat), Hid (((w.alloc (.cells (cellsT p) T)).alloc (.cells (bcells q) T')) = W) ∧ Hid (w.heap.size = nb) ∧ PtBlk T W nb p ∧ BBlk T' W (nb + 1) q ∧ Below nb w W := by
  refine ⟨_, _, Lib.hid rfl, Lib.hid rfl, ?_, ?_, ?_⟩
  · exact heap_alloc2_old w _ _
  · exact heap_alloc2_new w _ _
  · exact bw_alloc (below_box w _) _
/-- What a walk reads of a port's vector and times, and of a BPDU's. -/
def RdP (w : World) (b : Nat) (p : Pt) : Prop :=
  w.cell? ⟨b, 6, none⟩ = some (.int .u64 p.vec.root) ∧ w.cell? ⟨b, 7, none⟩ = some (.int .u64 p.vec.cost) ∧ w.cell? ⟨b, 8, none⟩ = some (.int .u64 p.vec.bridge) ∧ w.cell? ⟨b, 9, none⟩ = some (.int .u64 p.vec.port) ∧ w.cell? ⟨b, 10, none⟩ = some (.int .i64 p.times.age) ∧ w.cell? ⟨b, 11, none⟩ = some (.int .i64 p.times.max) ∧ w.cell? ⟨b, 12, none⟩ = some (.int .i64 p.times.hello) ∧ w.cell? ⟨b, 13, none⟩ = some (.int .i64 p.times.delay)
theorem PtBlk.rd {T : TypeId} {w : World} {b : Nat} {p : Pt} (h : PtBlk T w b p) : RdP w b p := ⟨h.c_vec_root, h.c_vec_cost, h.c_vec_bridge, h.c_vec_port, h.c_times_age, h.c_times_max, h.c_times_hello, h.c_times_delay⟩
theorem BBlk.rd {T : TypeId} {w : World} {b : Nat} {q : Bp} (h : BBlk T w b q) : BBoxed w b q.kind q.flags q.root q.cost q.bridge q.port q.age q.max q.hello q.delay := BBlk.cells (by cases q; exact h)
/-- What was heard of a designated port. -/
def desP (p : Pt) (q : Bp) : Int := if p.source = 3 ∧ vecOf q = p.vec ∧ timesOf q = p.times then 2 else if superB (vecOf q) p.vec = true then 1 else 3


set_option maxRecDepth 20000 in
set_option maxHeartbeats 1000000 in
theorem des_other_w (p : Pt) (q : Bp) (R : Bool) (w : World) (hv : ¬ vecOf q = p.vec) (hR : Hid (superB (vecOf q) p.vec = R)) (ho : p.vec.ok) (hq : BpOk q) :
    Calls Try.prog 48 #[.agg (cellsT p), bv q.kind q.flags q.root q.cost q.bridge q.port q.age q.max q.hello q.delay] w fun e w' => e = .returned (.int .i64 (if R = true then 1 else 3)) ∧ Below w.heap.size w w' := by
  obtain ⟨W, nb, HW, HN, k0, k1, kB⟩ := pb_is 28 30 w p q
  have K0 := Lib.hid k0
  have K1 := Lib.hid k1
  have KB := Lib.hid kB
  have hsz := k1.lt
  have CS := Lib.hid (fun w' => super_w q.root q.cost q.bridge q.port p.vec.root p.vec.cost p.vec.bridge p.vec.port R w' hR hq.bridge hq.port ho.b ho.p)
  have hE := run_vcEq q.root q.cost q.bridge q.port p.vec.root p.vec.cost p.vec.bridge p.vec.port
  rw [show decide ((⟨q.root, q.cost, q.bridge, q.port⟩ : Vc) = ⟨p.vec.root, p.vec.cost, p.vec.bridge, p.vec.port⟩) = false from decide_eq_false hv] at hE
  obtain ⟨p6, p7, p8, p9, p10, p11, p12, p13⟩ := k0.rd
  obtain ⟨c0, c1, c2, c3, c4, c5, c6, c7, c8, c9⟩ := k1.rd
  have p5 := k0.c_source
  clear k0 k1 kB hv ho hq hR
  unfold bv
  go_enter Try.func48, Try.ntmps48
  go_upto_region 1 with (fail)
  refine wp_to (W := W) (by exact HW.out.symm) ?_
  rw [HN.out]
  go_quiet (fail)
  go_wp2_with fail
  (with_reducible refine (CS.out _).mono ?_)
  rintro e w1 ⟨rfl, hb1⟩
  have HB := Lib.hid ((below_drewN KB.out _).trans (hb1.mono (by show nb ≤ W.heap.size; omega)))
  clear hb1
  cases R
  all_goals go_wp2
  all_goals go_ret
  all_goals exact ⟨rfl, HN.out ▸ HB.out⟩


set_option maxRecDepth 20000 in
set_option maxHeartbeats 1000000 in
theorem des_same_w (p : Pt) (q : Bp) (B R : Bool) (w : World) (hv : vecOf q = p.vec) (hB : Hid (decide (timesOf q = p.times) = B)) (hR : Hid (superB (vecOf q) p.vec = R)) (ho : p.vec.ok) (hq : BpOk q) (h0 : 0 ≤ q.hello) :
    Calls Try.prog 48 #[.agg (cellsT p), bv q.kind q.flags q.root q.cost q.bridge q.port q.age q.max q.hello q.delay] w fun e w' => e = .returned (.int .i64 (if (B && decide (p.source = 3)) = true then 2 else if R = true then 1 else 3)) ∧ Below w.heap.size w w' := by
  obtain ⟨W, nb, HW, HN, k0, k1, kB⟩ := pb_is 28 30 w p q
  have K0 := Lib.hid k0
  have K1 := Lib.hid k1
  have KB := Lib.hid kB
  have hsz := k1.lt
  obtain ⟨H, hH⟩ : ∃ H, (if q.hello / 256 < 1 then 1 else q.hello / 256) = H := ⟨_, rfl⟩
  have CS := Lib.hid (fun w' => super_w q.root q.cost q.bridge q.port p.vec.root p.vec.cost p.vec.bridge p.vec.port R w' hR hq.bridge hq.port ho.b ho.p)
  have CT := Lib.hid (fun w' => times_w q.kind q.flags q.root q.cost q.bridge q.port q.age q.max q.hello q.delay H w' h0 (Lib.hid hH))
  have hE := run_vcEq q.root q.cost q.bridge q.port p.vec.root p.vec.cost p.vec.bridge p.vec.port
  rw [show decide ((⟨q.root, q.cost, q.bridge, q.port⟩ : Vc) = ⟨p.vec.root, p.vec.cost, p.vec.bridge, p.vec.port⟩) = true from decide_eq_true hv] at hE
  have hT := run_tmEq (q.age / 256) (q.max / 256) H (q.delay / 256) p.times.age p.times.max p.times.hello p.times.delay
  rw [show decide ((⟨q.age / 256, q.max / 256, H, q.delay / 256⟩ : Tm) = ⟨p.times.age, p.times.max, p.times.hello, p.times.delay⟩) = B by rw [← hB.out]; unfold timesOf; rw [hH]] at hT
  obtain ⟨c0, c1, c2, c3, c4, c5, c6, c7, c8, c9⟩ := k1.rd
  have mk : ∀ V, PtBlk 28 V nb p → BBlk 30 V (nb + 1) q → (RdP V nb p ∧ BBoxed V (nb + 1) q.kind q.flags q.root q.cost q.bridge q.port q.age q.max q.hello q.delay) := fun V h k => ⟨h.rd, k.rd⟩
  have S0 := mk W k0 k1
  have p5 := Lib.hid (k0.c_source)
  clear k0 k1 kB hv ho hq hR h0 hH hB c0 c1 c2 c3 c4 c5 c6 c7 c8 c9
  unfold RdP BBoxed at S0 mk
  unfold bv at CT ⊢
  unfold tv at CT hT
  go_enter Try.func48, Try.ntmps48
  go_upto_region 1 with (fail)
  refine wp_to (W := W) (by exact HW.out.symm) ?_
  rw [HN.out]
  go_region_held3 (fun w' => (w'.cell? ⟨nb, 6, none⟩ = some (.int .u64 p.vec.root) ∧ w'.cell? ⟨nb, 7, none⟩ = some (.int .u64 p.vec.cost) ∧ w'.cell? ⟨nb, 8, none⟩ = some (.int .u64 p.vec.bridge) ∧ w'.cell? ⟨nb, 9, none⟩ = some (.int .u64 p.vec.port) ∧ w'.cell? ⟨nb, 10, none⟩ = some (.int .i64 p.times.age) ∧ w'.cell? ⟨nb, 11, none⟩ = some (.int .i64 p.times.max) ∧ w'.cell? ⟨nb, 12, none⟩ = some (.int .i64 p.times.hello) ∧ w'.cell? ⟨nb, 13, none⟩ = some (.int .i64 p.times.delay)) ∧ (w'.cell? ⟨nb + 1, 0, none⟩ = some (.int .i64 q.kind) ∧ w'.cell? ⟨nb + 1, 1, none⟩ = some (.int .i64 q.flags) ∧ w'.cell? ⟨nb + 1, 2, none⟩ = some (.int .u64 q.root) ∧ w'.cell? ⟨nb + 1, 3, none⟩ = some (.int .u64 q.cost) ∧ w'.cell? ⟨nb + 1, 4, none⟩ = some (.int .u64 q.bridge) ∧ w'.cell? ⟨nb + 1, 5, none⟩ = some (.int .u64 q.port) ∧ w'.cell? ⟨nb + 1, 6, none⟩ = some (.int .i64 q.age) ∧ w'.cell? ⟨nb + 1, 7, none⟩ = some (.int .i64 q.max) ∧ w'.cell? ⟨nb + 1, 8, none⟩ = some (.int .i64 q.hello) ∧ w'.cell? ⟨nb + 1, 9, none⟩ = some (.int .i64 q.delay))) (first | exact S0 | exact S1) (first
    | (go_at_call 66; (with_reducible refine (CT.out _).mono ?_); rintro e y0 ⟨rfl, hb0⟩; have D0 := ((Below.refl W.heap.size W).drew).trans hb0; have S1 := mk y0 (K0.out.next D0) (K1.out.next D0)))
  rename_i hheld
  have q5 := (K0.out.next D0).c_source
  have D1 := Lib.hid (KB.out.trans (D0.mono (by omega)))
  have hsy := D0.size
  clear hheld S0 hb0 mk CT hT hE D0 p5
  obtain ⟨⟨r6, r7, r8, r9, r10, r11, r12, r13⟩, ⟨d0, d1, d2, d3, d4, d5, d6, d7, d8, d9⟩⟩ := S1
  cases B
  · go_wp2_with fail
    (with_reducible refine (CS.out _).mono ?_)
    rintro e w1 ⟨rfl, hb1⟩
    have HB := Lib.hid (D1.out.trans (hb1.mono (by show nb ≤ y0.heap.size; omega)))
    clear hb1
    cases R
    all_goals go_wp2
    all_goals go_ret
    all_goals exact ⟨ret_int (by simp_all), HN.out ▸ HB.out⟩
  · by_cases hs : p.source = 3
    · have z : (p.source == 3) = true := beq_iff_eq.2 hs
      go_wp2
      all_goals go_ret
      all_goals exact ⟨ret_int (by simp_all), HN.out ▸ D1.out⟩
    · have z : (p.source == 3) = false := beq_eq_false_iff_ne.2 hs
      go_wp2_with fail
      (with_reducible refine (CS.out _).mono ?_)
      rintro e w1 ⟨rfl, hb1⟩
      have HB := Lib.hid (D1.out.trans (hb1.mono (by show nb ≤ y0.heap.size; omega)))
      clear hb1
      cases R
      all_goals go_wp2
      all_goals go_ret
      all_goals exact ⟨ret_int (by simp_all), HN.out ▸ HB.out⟩

theorem des_w (p : Pt) (q : Bp) (R : Int) (w : World) (hR : Hid (desP p q = R)) (ho : p.vec.ok) (hq : BpOk q) (h0 : 0 ≤ q.hello) :
    Calls Try.prog 48 #[.agg (cellsT p), bv q.kind q.flags q.root q.cost q.bridge q.port q.age q.max q.hello q.delay] w fun e w' => e = .returned (.int .i64 R) ∧ Below w.heap.size w w' := by
  rw [← hR.out]
  unfold desP
  by_cases hv : vecOf q = p.vec
  · refine (des_same_w p q _ _ w hv (Lib.hid rfl) (Lib.hid rfl) ho hq h0).mono ?_
    rintro e w1 ⟨rfl, hb⟩
    refine ⟨ret_int ?_, hb⟩
    by_cases h3 : p.source = 3 <;> by_cases ht : timesOf q = p.times <;> simp [hv, h3, ht]
  · refine (des_other_w p q _ w hv (Lib.hid rfl) ho hq).mono ?_
    rintro e w1 ⟨rfl, hb⟩
    exact ⟨ret_int (if_neg (fun c => hv c.2.1)).symm, hb⟩


set_option maxRecDepth 20000 in
set_option maxHeartbeats 1000000 in
theorem heard_des_w (p : Pt) (q : Bp) (R : Int) (w : World) (hR : Hid (desP p q = R)) (hd : q.kind = 1 ∨ roleF q.flags = 3) (hb : rightB q = true) (ho : p.vec.ok) (hq : BpOk q) (h0 : 0 ≤ q.hello) :
    Calls Try.prog 29 #[.agg (cellsT p), bv q.kind q.flags q.root q.cost q.bridge q.port q.age q.max q.hello q.delay] w fun e w' => e = .returned (.int .i64 R) ∧ Below w.heap.size w w' := by
  obtain ⟨W, nb, HW, HN, k0, k1, kB⟩ := pb_is 28 30 w p q
  have K0 := Lib.hid k0
  have K1 := Lib.hid k1
  have KB := Lib.hid kB
  have hsz := k1.lt
  have CR := Lib.hid (fun w' => by
    have h := right_any q.kind q.flags q.root q.cost q.bridge q.port q.age q.max q.hello q.delay w'
    rw [show rightB ⟨q.kind, q.flags, q.root, q.cost, q.bridge, q.port, q.age, q.max, q.hello, q.delay⟩ = true from hb] at h
    exact h)
  have CO := Lib.hid (fun w' => brole_w q.flags w')
  obtain ⟨c0, c1, c2, c3, c4, c5, c6, c7, c8, c9⟩ := k1.rd
  have CD := Lib.hid (fun w' => des_w p q R w' hR ho hq h0)
  clear hR ho hq h0
  clear k0 k1 kB hb
  unfold bv at CR ⊢
  go_enter Try.func29, Try.ntmps29
  go_upto_region 1 with (fail)
  refine wp_to (W := W) (by exact HW.out.symm) ?_
  rw [HN.out]
  go_wp2_with fail
  (with_reducible refine (CR.out _).mono ?_)
  rintro e w1 ⟨rfl, hb1⟩
  have D1 := Lib.hid (KB.out.trans (hb1.mono (by omega)))
  have L0 := Lib.hid (K0.out.next hb1)
  have L1 := Lib.hid (K1.out.next hb1)
  have hsz1 := hb1.size
  clear hb1 c0 c1 c2 c3 c4 c5 c6 c7 c8 c9
  obtain ⟨c0, c1, c2, c3, c4, c5, c6, c7, c8, c9⟩ := L1.out.rd
  go_wp2_with fail
  (with_reducible refine (CO.out _).mono ?_)
  rintro e w1 ⟨rfl, rfl⟩
  by_cases hk : q.kind = 1
  · have z : (q.kind == 1) = true := beq_iff_eq.2 hk
    have hl := Lib.hid (fun w' (h : PtBlk 28 w' nb p) => h.loads)
    clear hd hk
    go_upto_region 5 with (fail)
    refine wp_region_list ?_
    refine wpList_load_row rfl 28 _ rfl nb rfl 28 (cellsT p) (0, 0) _ L0.out rfl rfl infoSP ?_
    go_wp2_with fail
    refine (CD.out _).mono ?_
    rintro e w2 ⟨rfl, hb2⟩
    have D2 := Lib.hid (D1.out.trans (hb2.mono (by omega)))
    clear hb2
    go_wp2
    all_goals go_ret
    all_goals exact ⟨rfl, HN.out ▸ D2.out⟩
  · have z : (q.kind == 1) = false := beq_eq_false_iff_ne.2 hk
    have z3 : (roleF q.flags == 3) = true := beq_iff_eq.2 (by rcases hd with h | h; exact absurd h hk; exact h)
    clear hd hk
    go_upto_region 5 with (fail)
    refine wp_region_list ?_
    refine wpList_load_row rfl 28 _ rfl nb rfl 28 (cellsT p) (0, 0) _ L0.out rfl rfl infoSP ?_
    go_wp2_with fail
    refine (CD.out _).mono ?_
    rintro e w2 ⟨rfl, hb2⟩
    have D2 := Lib.hid (D1.out.trans (hb2.mono (by omega)))
    clear hb2
    go_wp2
    all_goals go_ret
    all_goals exact ⟨rfl, HN.out ▸ D2.out⟩

set_option maxRecDepth 20000 in
set_option maxHeartbeats 1000000 in
theorem heard_not_w (p : Pt) (q : Bp) (R : Int) (w : World) (hR : Hid ((if ¬ roleF q.flags = 0 ∧ ¬ cmpR (vecOf q) p.vec = -1 then 4 else 0) = R)) (hd : ¬ (q.kind = 1 ∨ roleF q.flags = 3)) (hb : rightB q = true) (ho : p.vec.ok) (hq : BpOk q) (h0 : 0 ≤ q.hello) :
    Calls Try.prog 29 #[.agg (cellsT p), bv q.kind q.flags q.root q.cost q.bridge q.port q.age q.max q.hello q.delay] w fun e w' => e = .returned (.int .i64 R) ∧ Below w.heap.size w w' := by
  obtain ⟨W, nb, HW, HN, k0, k1, kB⟩ := pb_is 28 30 w p q
  have K0 := Lib.hid k0
  have K1 := Lib.hid k1
  have KB := Lib.hid kB
  have hsz := k1.lt
  have CR := Lib.hid (fun w' => by
    have h := right_any q.kind q.flags q.root q.cost q.bridge q.port q.age q.max q.hello q.delay w'
    rw [show rightB ⟨q.kind, q.flags, q.root, q.cost, q.bridge, q.port, q.age, q.max, q.hello, q.delay⟩ = true from hb] at h
    exact h)
  have CO := Lib.hid (fun w' => brole_w q.flags w')
  obtain ⟨c0, c1, c2, c3, c4, c5, c6, c7, c8, c9⟩ := k1.rd
  obtain ⟨C, hC⟩ : ∃ C, cmpR (vecOf q) p.vec = C := ⟨_, rfl⟩
  have hrange := cmp_range (vecOf q) p.vec
  have CC := Lib.hid (fun w' => compare_w q.root q.cost q.bridge q.port p.vec.root p.vec.cost p.vec.bridge p.vec.port C w' (Lib.hid hC))
  rw [hC] at hrange hR
  clear ho hq h0 hC
  clear k0 k1 kB hb
  unfold bv at CR ⊢
  go_enter Try.func29, Try.ntmps29
  go_upto_region 1 with (fail)
  refine wp_to (W := W) (by exact HW.out.symm) ?_
  rw [HN.out]
  go_wp2_with fail
  (with_reducible refine (CR.out _).mono ?_)
  rintro e w1 ⟨rfl, hb1⟩
  have D1 := Lib.hid (KB.out.trans (hb1.mono (by omega)))
  have L0 := Lib.hid (K0.out.next hb1)
  have L1 := Lib.hid (K1.out.next hb1)
  have hsz1 := hb1.size
  clear hb1 c0 c1 c2 c3 c4 c5 c6 c7 c8 c9
  obtain ⟨c0, c1, c2, c3, c4, c5, c6, c7, c8, c9⟩ := L1.out.rd
  go_wp2_with fail
  (with_reducible refine (CO.out _).mono ?_)
  rintro e w1 ⟨rfl, rfl⟩
  have z : (q.kind == 1) = false := beq_eq_false_iff_ne.2 (fun h => hd (.inl h))
  have z3 : (roleF q.flags == 3) = false := beq_eq_false_iff_ne.2 (fun h => hd (.inr h))
  obtain ⟨p6, p7, p8, p9, p10, p11, p12, p13⟩ := L0.out.rd
  by_cases hr : roleF q.flags = 0
  · have z0 : (roleF q.flags != 0) = false := by simp [hr]
    have e : R = 0 := by rw [← hR.out, if_neg (fun c => c.1 hr)]
    subst e
    clear hd hr hR hrange
    go_wp2
    all_goals go_ret
    all_goals exact ⟨rfl, HN.out ▸ D1.out⟩
  · have z0 : (roleF q.flags != 0) = true := bne_iff_ne.2 hr
    by_cases hc : C = -1
    · have e : R = 0 := by rw [← hR.out, if_neg (fun c => c.2 hc)]
      subst e hc
      clear hd hr hR hrange
      go_wp2_with fail
      (with_reducible refine (CC.out _).mono ?_)
      rintro e w2 ⟨rfl, hb2⟩
      have D2 := Lib.hid (D1.out.trans (hb2.mono (by omega)))
      clear hb2
      go_wp2
      all_goals go_ret
      all_goals exact ⟨rfl, HN.out ▸ D2.out⟩
    · have e : R = 4 := by rw [← hR.out, if_pos ⟨hr, hc⟩]
      have zc : decide (C ≥ 0) = true := decide_eq_true (by omega)
      have zd : 0 ≤ C := by omega
      subst e
      clear hd hr hR hrange hc
      go_wp2_with fail
      (with_reducible refine (CC.out _).mono ?_)
      rintro e w2 ⟨rfl, hb2⟩
      have D2 := Lib.hid (D1.out.trans (hb2.mono (by omega)))
      clear hb2
      go_wp2
      all_goals go_ret
      all_goals exact ⟨rfl, HN.out ▸ D2.out⟩

theorem heard_w (p : Pt) (q : Bp) (R : Int) (w : World) (hR : Hid (heardP p q = R)) (hb : heardB q = true) (ho : p.vec.ok) (hq : BpOk q) (h0 : 0 ≤ q.hello) :
    Calls Try.prog 29 #[.agg (cellsT p), bv q.kind q.flags q.root q.cost q.bridge q.port q.age q.max q.hello q.delay] w fun e w' => e = .returned (.int .i64 R) ∧ Below w.heap.size w w' := by
  have hr : rightB q = true := by unfold heardB at hb; simp only [Bool.and_eq_true] at hb; exact hb.1
  have e : heardP p q = if q.kind = 1 ∨ roleF q.flags = 3 then desP p q else if ¬ roleF q.flags = 0 ∧ ¬ cmpR (vecOf q) p.vec = -1 then 4 else 0 := by
    unfold heardP desP
    rw [if_neg (by rw [hb]; simp)]
  rw [e] at hR
  by_cases hd : q.kind = 1 ∨ roleF q.flags = 3
  · rw [if_pos hd] at hR
    exact heard_des_w p q R w hR hd hr ho hq h0
  · rw [if_neg hd] at hR
    exact heard_not_w p q R w hR hd hr ho hq h0
end Go.Proofs.Ytbiggckddoeghaa
