/-
  Layer 11: giveWay, settle; what meet, answer and choose hand back.
  Layer 11: the deed settle.
-/
import Derived.Test.YtldobcfejldbiaaGreatDoorMag
namespace Go.Proofs.YtldobcfejldbiaaGreatDoor
set_option linter.unusedVariables false
set_option linter.unusedSimpArgs false
open Go.RowKit Vm Rm Bm Im

theorem size_set (w : World) (b j : Nat) (v : Value) : (w.setCell ⟨b, j, none⟩ v).heap.size = w.heap.size := by show (w.heap.modify _ _).size = _; rw [Array.size_modify]
abbrev put4t (w : World) (b : Nat) (x m h d : Int) : World :=
  ((((w.setCell ⟨b, 10, none⟩ (.int .i64 x)).setCell ⟨b, 11, none⟩ (.int .i64 m)).setCell ⟨b, 12, none⟩ (.int .i64 h)).setCell ⟨b, 13, none⟩ (.int .i64 d))
abbrev put4v (w : World) (b : Nat) (r c br q : Int) : World :=
  ((((w.setCell ⟨b, 6, none⟩ (.int .u64 r)).setCell ⟨b, 7, none⟩ (.int .u64 c)).setCell ⟨b, 8, none⟩ (.int .u64 br)).setCell ⟨b, 9, none⟩ (.int .u64 q))
structure Kp (b : Nat) (w w' : World) : Prop where
  os : w'.os = w.os
  tape : w'.tape = w.tape
  output : w'.output = w.output
  size : w.heap.size ≤ w'.heap.size
  block : ∀ i, i < w.heap.size → i ≠ b → w'.heap[i]? = w.heap[i]?
theorem Tn.kp {T : TypeId} {b : Nat} {X : Pt} {w w1 : World} (t : Tn T b X w w1) : Kp b w w1 := ⟨t.os, t.tape, t.output, t.size, t.block⟩
theorem Kp.set {b : Nat} {w w1 : World} (h : Kp b w w1) (j : Nat) (v : Value) : Kp b w (w1.setCell ⟨b, j, none⟩ v) :=
  ⟨h.os, h.tape, h.output, by rw [size_set]; exact h.size, fun i hi hn => (Below.heap_setCell w1 ⟨b, j, none⟩ v i hn).trans (h.block i hi hn)⟩
theorem Kp.tn {T : TypeId} {b : Nat} {X : Pt} {w w1 : World} (h : Kp b w w1) (k : PtBlk T w1 b X) : Tn T b X w w1 := ⟨k, h.os, h.tape, h.output, h.size, h.block⟩
theorem BBlk.drew {T : TypeId} {w : World} {b : Nat} {q : Bp} (h : BBlk T w b q) : BBlk T w.drew b q := h
theorem Tn.put4v {T : TypeId} {b : Nat} {X : Pt} {w w1 : World} (t : Tn T b X w w1) (r c br q : Int) : Tn T b { X with vec := ⟨r, c, br, q⟩ } w (put4v w1 b r c br q) :=
  ((((t.kp.set 6 _).set 7 _).set 8 _).set 9 _).tn (t.blk.s_vec r c br q)
theorem Tn.put4t {T : TypeId} {b : Nat} {X : Pt} {w w1 : World} (t : Tn T b X w w1) (x m h d : Int) : Tn T b { X with times := ⟨x, m, h, d⟩ } w (put4t w1 b x m h d) :=
  ((((t.kp.set 10 _).set 11 _).set 12 _).set 13 _).tn (t.blk.s_times x m h d)


set_option maxRecDepth 20000 in
set_option maxHeartbeats 6000000 in
theorem give_w (b : Nat) (p : Pt) (q : Bp) (w : World) (h : PtBlk 78 w b p) (hd : BpHd q) :
    Calls Tryz.prog 132 #[.pointer (some ⟨b, 0, none⟩), bq q] w fun e w' => e = .returned (.tuple #[]) ∧ Tn 78 b (giveP p q) w w' := by
  have hlt := h.lt
  obtain ⟨H, hH⟩ : ∃ H, (if q.hello / 256 < 1 then 1 else q.hello / 256) = H := ⟨_, rfl⟩
  have CT := Lib.hid (fun w' => times_w q.kind q.flags q.root q.cost q.bridge q.port q.age q.max q.hello q.delay H w' hd.hello.1 (Lib.hid hH))
  obtain ⟨E, hE⟩ : ∃ E, decide (p.vec = vecOf q) = E := ⟨_, rfl⟩
  have hN := run_vcNe p.vec.root p.vec.cost p.vec.bridge p.vec.port q.root q.cost q.bridge q.port
  rw [show decide ((⟨p.vec.root, p.vec.cost, p.vec.bridge, p.vec.port⟩ : Vc) = ⟨q.root, q.cost, q.bridge, q.port⟩) = E from hE] at hN
  have hE2 : decide (vecOf q = p.vec) = E := by rw [← hE]; exact decide_eq_decide.2 ⟨Eq.symm, Eq.symm⟩
  unfold bv tv at CT
  have CR := Lib.hid (fun (X : Pt) w' (h : PtBlk 78 w' b X) => reselect_w b X w' h)
  have HH := Lib.hid hH
  have HE := Lib.hid hE2
  have f := h.free
  have c_1 := h.c_agreed
  have c_2 := h.c_proposing
  obtain ⟨W, hW⟩ : ∃ W, W = ((w.setCell ⟨b, 32, none⟩ (.bool false)).setCell ⟨b, 34, none⟩ (.bool false)).alloc (.cells #[.int .i64 q.kind, .int .i64 q.flags, .int .u64 q.root, .int .u64 q.cost, .int .u64 q.bridge, .int .u64 q.port, .int .i64 q.age, .int .i64 q.max, .int .i64 q.hello, .int .i64 q.delay] 49) := ⟨_, rfl⟩
  have hz : ((w.setCell ⟨b, 32, none⟩ (.bool false)).setCell ⟨b, 34, none⟩ (.bool false)).heap.size = w.heap.size := by rw [size_set, size_set]
  have K := Lib.hid (show BBlk 49 W w.heap.size q by rw [hW, ← hz]; exact bqblk_new _ _ q)
  have T0 := Lib.hid (show Tn 78 b { p with agreed := false, proposing := false } w W by
    rw [hW]
    refine Tn.grow ?_ (below_box _ _)
    exact ((Tn.refl h).set 32 (.bool false) (h.s_agreed false)).set 34 (.bool false) ((h.s_agreed false).s_proposing false))
  have HW := Lib.hid hW
  have hne : w.heap.size ≠ b := by omega
  have hne' : ¬ b = w.heap.size := by omega
  clear hd hH hE hE2 h hW hz
  unfold bq bv
  go_enter Tryz.func132, Tryz.ntmps132
  go_upto_region 2 with (fail)
  refine wp_to (W := W) (by exact HW.out) ?_
  clear HW f c_1 c_2
  obtain ⟨p6, p7, p8, p9, p10, p11, p12, p13⟩ := T0.out.blk.rd
  obtain ⟨d0, d1, d2, d3, d4, d5, d6, d7, d8, d9⟩ := K.out.rd
  have f := T0.out.blk.free
  have c_1 := T0.out.blk.c_agree
  have c_2 := T0.out.blk.c_synced
  have hWs := K.out.lt
  go_quiet (fail)
  have T1 := Lib.hid (tn_drawN T0.out nq)
  have K1 := Lib.hid (show BBlk 49 (W.drewN nq) w.heap.size q from K.out)
  obtain ⟨V, hV⟩ : ∃ V, V = W.drewN nq := ⟨_, rfl⟩
  rw [← hV] at T1 K1 ⊢
  clear hV T0 K p6 p7 p8 p9 p10 p11 p12 p13 d0 d1 d2 d3 d4 d5 d6 d7 d8 d9 f c_1 c_2 hWs hN
  have f := T1.out.blk.free
  have c_1 := T1.out.blk.c_agree
  have c_2 := T1.out.blk.c_synced
  cases E
  · have TS := Lib.hid ((T1.out.set 31 (.bool false) (T1.out.blk.s_agree false)).set 36 (.bool false) ((T1.out.blk.s_agree false).s_synced false))
    have KS := Lib.hid ((K1.out.other 31 (.bool false) hne).other 36 (.bool false) hne)
    obtain ⟨X1, hX⟩ : ∃ X, ({ p with agreed := false, proposing := false, agree := false, synced := false } : Pt) = X := ⟨_, rfl⟩
    rw [hX] at TS
    have HX := Lib.hid hX
    clear hX
    obtain ⟨U, hU⟩ : ∃ U, ((V.setCell ⟨b, 31, none⟩ (.bool false)).setCell ⟨b, 36, none⟩ (.bool false)) = U := ⟨_, rfl⟩
    rw [hU] at TS KS
    have HU := Lib.hid hU
    clear hU
    go_upto_region 4 with (fail)
    refine wp_to (W := U) (by exact HU.out.symm) ?_
    clear HU f c_1 c_2 T1 K1
    have mk : ∀ V, BBlk 49 V w.heap.size q → (V.cell? ⟨w.heap.size, 0, none⟩ = some (.int .i64 q.kind) ∧ V.cell? ⟨w.heap.size, 1, none⟩ = some (.int .i64 q.flags) ∧ V.cell? ⟨w.heap.size, 2, none⟩ = some (.int .u64 q.root) ∧ V.cell? ⟨w.heap.size, 3, none⟩ = some (.int .u64 q.cost) ∧ V.cell? ⟨w.heap.size, 4, none⟩ = some (.int .u64 q.bridge) ∧ V.cell? ⟨w.heap.size, 5, none⟩ = some (.int .u64 q.port) ∧ V.cell? ⟨w.heap.size, 6, none⟩ = some (.int .i64 q.age) ∧ V.cell? ⟨w.heap.size, 7, none⟩ = some (.int .i64 q.max) ∧ V.cell? ⟨w.heap.size, 8, none⟩ = some (.int .i64 q.hello) ∧ V.cell? ⟨w.heap.size, 9, none⟩ = some (.int .i64 q.delay)) := fun V h => h.rd
    have S0 := mk U KS.out
    have S0d := mk _ KS.out.drew
    go_region_held3 (fun V => V.cell? ⟨w.heap.size, 0, none⟩ = some (.int .i64 q.kind) ∧ V.cell? ⟨w.heap.size, 1, none⟩ = some (.int .i64 q.flags) ∧ V.cell? ⟨w.heap.size, 2, none⟩ = some (.int .u64 q.root) ∧ V.cell? ⟨w.heap.size, 3, none⟩ = some (.int .u64 q.cost) ∧ V.cell? ⟨w.heap.size, 4, none⟩ = some (.int .u64 q.bridge) ∧ V.cell? ⟨w.heap.size, 5, none⟩ = some (.int .u64 q.port) ∧ V.cell? ⟨w.heap.size, 6, none⟩ = some (.int .i64 q.age) ∧ V.cell? ⟨w.heap.size, 7, none⟩ = some (.int .i64 q.max) ∧ V.cell? ⟨w.heap.size, 8, none⟩ = some (.int .i64 q.hello) ∧ V.cell? ⟨w.heap.size, 9, none⟩ = some (.int .i64 q.delay)) (first | (with_reducible exact S0) | (with_reducible exact S0d) | (with_reducible exact S1) | (with_reducible exact S2) | (with_reducible exact S3) | (with_reducible exact S1d) | (with_reducible exact S2d) | (with_reducible exact S3d)) (first
      | (go_at_call 166; (with_reducible refine (CT.out _).mono ?_); rintro e y0 ⟨rfl, hb0⟩; have D0 := ((Below.refl U.heap.size U).drew).trans hb0; have TY := Lib.hid (TS.out.grow D0); have KY := Lib.hid (KS.out.next D0); have S1 := mk y0 KY.out; have f1 := TY.out.blk.free; obtain ⟨g6, g7, g8, g9, g10, g11, g12, g13⟩ := TY.out.blk.rd; have K2 := ((((KY.out.other 6 (.int .u64 q.root) hne).other 7 (.int .u64 q.cost) hne).other 8 (.int .u64 q.bridge) hne).other 9 (.int .u64 q.port) hne); have K3 := ((((K2.other 10 (.int .i64 (q.age / 256)) hne).other 11 (.int .i64 (q.max / 256)) hne).other 12 (.int .i64 H) hne).other 13 (.int .i64 (q.delay / 256)) hne); have S2 := mk _ K2; have S3 := mk _ K3; have S1d := mk _ KY.out.drew; have S2d := mk _ K2.drew; have S3d := mk _ K3.drew; clear K2 K3))
    rename_i hheld
    clear hheld S0 S0d S1 S2 S3 S1d S2d S3d g6 g7 g8 g9 g10 g11 g12 g13 f1 hb0 mk
    have TF := Lib.hid ((TY.out.put4v q.root q.cost q.bridge q.port).put4t (q.age / 256) (q.max / 256) H (q.delay / 256))
    obtain ⟨V2, hV2⟩ : ∃ V, put4t (put4v y0 b q.root q.cost q.bridge q.port) b (q.age / 256) (q.max / 256) H (q.delay / 256) = V := ⟨_, rfl⟩
    rw [hV2] at TF
    unfold put4t put4v at hV2
    rw [hV2]
    clear hV2
    have f := TF.out.blk.free
    have c_s := TF.out.blk.c_source
    have TG := Lib.hid (TF.out.set 5 (.int .i64 3) (TF.out.blk.s_source 3))
    go_wp2_with fail
    refine (CR.out _ _ TG.out.blk).mono ?_
    rintro e w2 ⟨rfl, t⟩
    have T2 := Lib.hid (TG.out.trans t)
    clear t
    go_wp2
    go_end0
    exact ⟨rfl, T2.out.as (by rw [← HX.out]; unfold giveP; rw [HE.out]; cases p; simp [vecOf, timesOf, HH.out])⟩
  · have TS := T1
    have KS := K1
    obtain ⟨X1, hX⟩ : ∃ X, ({ p with agreed := false, proposing := false } : Pt) = X := ⟨_, rfl⟩
    rw [hX] at TS
    have HX := Lib.hid hX
    clear hX
    obtain ⟨U, hU⟩ : ∃ U, V = U := ⟨_, rfl⟩
    rw [hU] at TS KS
    have HU := Lib.hid hU
    clear hU
    go_upto_region 4 with (fail)
    refine wp_to (W := U) (by exact HU.out.symm) ?_
    clear HU f c_1 c_2 T1 K1
    have mk : ∀ V, BBlk 49 V w.heap.size q → (V.cell? ⟨w.heap.size, 0, none⟩ = some (.int .i64 q.kind) ∧ V.cell? ⟨w.heap.size, 1, none⟩ = some (.int .i64 q.flags) ∧ V.cell? ⟨w.heap.size, 2, none⟩ = some (.int .u64 q.root) ∧ V.cell? ⟨w.heap.size, 3, none⟩ = some (.int .u64 q.cost) ∧ V.cell? ⟨w.heap.size, 4, none⟩ = some (.int .u64 q.bridge) ∧ V.cell? ⟨w.heap.size, 5, none⟩ = some (.int .u64 q.port) ∧ V.cell? ⟨w.heap.size, 6, none⟩ = some (.int .i64 q.age) ∧ V.cell? ⟨w.heap.size, 7, none⟩ = some (.int .i64 q.max) ∧ V.cell? ⟨w.heap.size, 8, none⟩ = some (.int .i64 q.hello) ∧ V.cell? ⟨w.heap.size, 9, none⟩ = some (.int .i64 q.delay)) := fun V h => h.rd
    have S0 := mk U KS.out
    have S0d := mk _ KS.out.drew
    go_region_held3 (fun V => V.cell? ⟨w.heap.size, 0, none⟩ = some (.int .i64 q.kind) ∧ V.cell? ⟨w.heap.size, 1, none⟩ = some (.int .i64 q.flags) ∧ V.cell? ⟨w.heap.size, 2, none⟩ = some (.int .u64 q.root) ∧ V.cell? ⟨w.heap.size, 3, none⟩ = some (.int .u64 q.cost) ∧ V.cell? ⟨w.heap.size, 4, none⟩ = some (.int .u64 q.bridge) ∧ V.cell? ⟨w.heap.size, 5, none⟩ = some (.int .u64 q.port) ∧ V.cell? ⟨w.heap.size, 6, none⟩ = some (.int .i64 q.age) ∧ V.cell? ⟨w.heap.size, 7, none⟩ = some (.int .i64 q.max) ∧ V.cell? ⟨w.heap.size, 8, none⟩ = some (.int .i64 q.hello) ∧ V.cell? ⟨w.heap.size, 9, none⟩ = some (.int .i64 q.delay)) (first | (with_reducible exact S0) | (with_reducible exact S0d) | (with_reducible exact S1) | (with_reducible exact S2) | (with_reducible exact S3) | (with_reducible exact S1d) | (with_reducible exact S2d) | (with_reducible exact S3d)) (first
      | (go_at_call 166; (with_reducible refine (CT.out _).mono ?_); rintro e y0 ⟨rfl, hb0⟩; have D0 := ((Below.refl U.heap.size U).drew).trans hb0; have TY := Lib.hid (TS.out.grow D0); have KY := Lib.hid (KS.out.next D0); have S1 := mk y0 KY.out; have f1 := TY.out.blk.free; obtain ⟨g6, g7, g8, g9, g10, g11, g12, g13⟩ := TY.out.blk.rd; have K2 := ((((KY.out.other 6 (.int .u64 q.root) hne).other 7 (.int .u64 q.cost) hne).other 8 (.int .u64 q.bridge) hne).other 9 (.int .u64 q.port) hne); have K3 := ((((K2.other 10 (.int .i64 (q.age / 256)) hne).other 11 (.int .i64 (q.max / 256)) hne).other 12 (.int .i64 H) hne).other 13 (.int .i64 (q.delay / 256)) hne); have S2 := mk _ K2; have S3 := mk _ K3; have S1d := mk _ KY.out.drew; have S2d := mk _ K2.drew; have S3d := mk _ K3.drew; clear K2 K3))
    rename_i hheld
    clear hheld S0 S0d S1 S2 S3 S1d S2d S3d g6 g7 g8 g9 g10 g11 g12 g13 f1 hb0 mk
    have TF := Lib.hid ((TY.out.put4v q.root q.cost q.bridge q.port).put4t (q.age / 256) (q.max / 256) H (q.delay / 256))
    obtain ⟨V2, hV2⟩ : ∃ V, put4t (put4v y0 b q.root q.cost q.bridge q.port) b (q.age / 256) (q.max / 256) H (q.delay / 256) = V := ⟨_, rfl⟩
    rw [hV2] at TF
    unfold put4t put4v at hV2
    rw [hV2]
    clear hV2
    have f := TF.out.blk.free
    have c_s := TF.out.blk.c_source
    have TG := Lib.hid (TF.out.set 5 (.int .i64 3) (TF.out.blk.s_source 3))
    go_wp2_with fail
    refine (CR.out _ _ TG.out.blk).mono ?_
    rintro e w2 ⟨rfl, t⟩
    have T2 := Lib.hid (TG.out.trans t)
    clear t
    go_wp2
    go_end0
    exact ⟨rfl, T2.out.as (by rw [← HX.out]; unfold giveP; rw [HE.out]; cases p; simp [vecOf, timesOf, HH.out])⟩


end Go.Proofs.YtldobcfejldbiaaGreatDoor

namespace Go.Proofs.YtldobcfejldbiaaGreatDoor
set_option linter.unusedVariables false
set_option linter.unusedSimpArgs false
open Go.RowKit Vm Rm Bm Im

def RdS (w : World) (b : Nat) (p : Pt) : Prop :=
  (w.cell? ⟨b, 6, none⟩ = some (.int .u64 p.vec.root) ∧ w.cell? ⟨b, 7, none⟩ = some (.int .u64 p.vec.cost) ∧ w.cell? ⟨b, 8, none⟩ = some (.int .u64 p.vec.bridge) ∧ w.cell? ⟨b, 9, none⟩ = some (.int .u64 p.vec.port) ∧ w.cell? ⟨b, 10, none⟩ = some (.int .i64 p.times.age) ∧ w.cell? ⟨b, 11, none⟩ = some (.int .i64 p.times.max) ∧ w.cell? ⟨b, 12, none⟩ = some (.int .i64 p.times.hello) ∧ w.cell? ⟨b, 13, none⟩ = some (.int .i64 p.times.delay)) ∧ (w.cell? ⟨b, 14, none⟩ = some (.int .u64 p.offer.root) ∧ w.cell? ⟨b, 15, none⟩ = some (.int .u64 p.offer.cost) ∧ w.cell? ⟨b, 16, none⟩ = some (.int .u64 p.offer.bridge) ∧ w.cell? ⟨b, 17, none⟩ = some (.int .u64 p.offer.port) ∧ w.cell? ⟨b, 18, none⟩ = some (.int .i64 p.given.age) ∧ w.cell? ⟨b, 19, none⟩ = some (.int .i64 p.given.max) ∧ w.cell? ⟨b, 20, none⟩ = some (.int .i64 p.given.hello) ∧ w.cell? ⟨b, 21, none⟩ = some (.int .i64 p.given.delay))
theorem PtBlk.rds {T : TypeId} {w : World} {b : Nat} {p : Pt} (h : PtBlk T w b p) : RdS w b p := ⟨h.rd, h.c_offer_root, h.c_offer_cost, h.c_offer_bridge, h.c_offer_port, h.c_given_age, h.c_given_max, h.c_given_hello, h.c_given_delay⟩



theorem settle_eq (p X1 X2 Y : Pt) (A S : Bool) (e : (p.synced && A) = S) (e1 : ({ p with proposing := false, proposed := false, agreed := A } : Pt) = X1) (e2 : ({ X1 with synced := S } : Pt) = X2) (e3 : ({ X2 with vec := X2.offer, times := X2.given } : Pt) = Y) :
    ({ Y with update := false, source := 2, newInfo := true } : Pt) = { p with proposing := false, proposed := false, agreed := A, synced := p.synced && A, vec := p.offer, times := p.given, update := false, source := 2, newInfo := true } := by
  subst e1 e2 e3 e
  rfl


set_option maxRecDepth 20000 in
set_option maxHeartbeats 2000000 in
theorem settle_no_w (b : Nat) (p : Pt) (w : World) (h : PtBlk 78 w b p) (ha : p.agreed = false) :
    Calls Tryz.prog 152 #[.pointer (some ⟨b, 0, none⟩)] w fun e w' => e = .returned (.tuple #[]) ∧ Tn 78 b ({ p with proposing := false, proposed := false, agreed := false, synced := p.synced && false, vec := p.offer, times := p.given, update := false, source := 2, newInfo := true }) w w' := by
  have f := h.free
  have c_1 := h.c_proposing
  have c_2 := h.c_proposed
  have T0 := Lib.hid (((Tn.refl h).set 34 (.bool false) (h.s_proposing false)).set 33 (.bool false) ((h.s_proposing false).s_proposed false))
  obtain ⟨W, hW⟩ : ∃ W, (w.setCell ⟨b, 34, none⟩ (.bool false)).setCell ⟨b, 33, none⟩ (.bool false) = W := ⟨_, rfl⟩
  rw [hW] at T0
  have HW := Lib.hid hW
  clear hW h
  go_enter Tryz.func152, Tryz.ntmps152
  go_upto_region 1 with (fail)
  refine wp_to (W := W) (by exact HW.out.symm) ?_
  clear HW f c_1 c_2
  have f := T0.out.blk.free
  have c_1 := T0.out.blk.c_agreed
  have c_2 := T0.out.blk.c_synced
  rw [show ({ p with proposing := false, proposed := false } : Pt).agreed = false from ha] at c_1
  go_region
  clear c_1
  obtain ⟨U, hU⟩ : ∃ U, (W.setCell ⟨b, 32, none⟩ (.bool false)).drew = U := ⟨_, rfl⟩
  have TU := tn_draw (T0.out.set 32 (.bool false) (T0.out.blk.s_agreed false))
  rw [hU] at TU
  obtain ⟨X1, hX⟩ : ∃ X, ({ p with proposing := false, proposed := false, agreed := false } : Pt) = X := ⟨_, rfl⟩
  replace TU := Lib.hid (TU.as hX)
  have s_x : X1.synced = p.synced := by rw [← hX]
  have o_x : X1.offer = p.offer := by rw [← hX]
  have g_x : X1.given = p.given := by rw [← hX]
  have a_x : X1.agreed = false := by rw [← hX]
  have HX := Lib.hid hX
  have SX := Lib.hid s_x
  have OX := Lib.hid (And.intro o_x g_x)
  rw [hU]
  clear hU hX f c_2
  have f := TU.out.blk.free
  have c_1 := TU.out.blk.c_agreed
  have c_2 := TU.out.blk.c_synced
  rw [a_x] at c_1
  rw [s_x] at c_2
  clear s_x o_x g_x a_x
  obtain ⟨S, hS⟩ : ∃ S, (p.synced && false) = S := ⟨_, rfl⟩
  have TV := TU.out.set 36 (.bool S) (TU.out.blk.s_synced S)
  obtain ⟨V, hV⟩ : ∃ V, U.setCell ⟨b, 36, none⟩ (.bool S) = V := ⟨_, rfl⟩
  obtain ⟨X2, hX2⟩ : ∃ X, ({ X1 with synced := S } : Pt) = X := ⟨_, rfl⟩
  rw [hV] at TV
  replace TV := Lib.hid (TV.as hX2)
  have HX2 := Lib.hid hX2
  have HV := Lib.hid hV
  have HS := Lib.hid hS
  clear hX2 hV
  have SS : ∀ x, p.synced = x → (x && false) = S := fun x h => by rw [← h]; exact hS
  clear hS
  have hsy : p.synced = true ∨ p.synced = false := by cases p.synced <;> simp
  rcases hsy with hs | hs
  · rw [hs] at c_2
    have e : S = false := (SS true hs).symm
    subst e
    clear hs SS
    go_upto_region 3 with (fail)
    refine wp_to (W := V) (by exact HV.out.symm) ?_
    clear HV f c_1 c_2
    obtain ⟨⟨p6, p7, p8, p9, p10, p11, p12, p13⟩, ⟨p14, p15, p16, p17, p18, p19, p20, p21⟩⟩ := TV.out.blk.rds
    have f := TV.out.blk.free
    go_region
    have TF := tn_draw ((TV.out.put4v X2.offer.root X2.offer.cost X2.offer.bridge X2.offer.port).put4t X2.given.age X2.given.max X2.given.hello X2.given.delay)
    unfold put4t put4v at TF
    obtain ⟨Z, hZ⟩ : ∃ Z, ((((((((V.setCell ⟨b, 6, none⟩ (.int .u64 X2.offer.root)).setCell ⟨b, 7, none⟩ (.int .u64 X2.offer.cost)).setCell ⟨b, 8, none⟩ (.int .u64 X2.offer.bridge)).setCell ⟨b, 9, none⟩ (.int .u64 X2.offer.port)).setCell ⟨b, 10, none⟩ (.int .i64 X2.given.age)).setCell ⟨b, 11, none⟩ (.int .i64 X2.given.max)).setCell ⟨b, 12, none⟩ (.int .i64 X2.given.hello)).setCell ⟨b, 13, none⟩ (.int .i64 X2.given.delay)).drew = Z := ⟨_, rfl⟩
    rw [hZ] at TF ⊢
    obtain ⟨Y, hY⟩ : ∃ Y, ({ X2 with vec := X2.offer, times := X2.given } : Pt) = Y := ⟨_, rfl⟩
    replace TF := Lib.hid (TF.as (show _ = Y from hY))
    have HY := Lib.hid hY
    clear hZ hY p6 p7 p8 p9 p10 p11 p12 p13 p14 p15 p16 p17 p18 p19 p20 p21 f
    have f := TF.out.blk.free
    have c_1 := TF.out.blk.c_update
    have c_2 := TF.out.blk.c_source
    have c_3 := TF.out.blk.c_newInfo
    have TG := Lib.hid (((TF.out.set 25 (.bool false) (TF.out.blk.s_update false)).set 5 (.int .i64 2) ((TF.out.blk.s_update false).s_source 2)).set 39 (.bool true) (((TF.out.blk.s_update false).s_source 2).s_newInfo true))
    go_wp2
    go_end0
    exact ⟨rfl, TG.out.as ((settle_eq p X1 X2 Y false false HS.out HX.out HX2.out HY.out).trans (by simp))⟩
  · rw [hs] at c_2
    have e : S = false := (SS false hs).symm
    subst e
    clear hs SS
    go_upto_region 3 with (fail)
    refine wp_to (W := V) (by exact HV.out.symm) ?_
    clear HV f c_1 c_2
    obtain ⟨⟨p6, p7, p8, p9, p10, p11, p12, p13⟩, ⟨p14, p15, p16, p17, p18, p19, p20, p21⟩⟩ := TV.out.blk.rds
    have f := TV.out.blk.free
    go_region
    have TF := tn_draw ((TV.out.put4v X2.offer.root X2.offer.cost X2.offer.bridge X2.offer.port).put4t X2.given.age X2.given.max X2.given.hello X2.given.delay)
    unfold put4t put4v at TF
    obtain ⟨Z, hZ⟩ : ∃ Z, ((((((((V.setCell ⟨b, 6, none⟩ (.int .u64 X2.offer.root)).setCell ⟨b, 7, none⟩ (.int .u64 X2.offer.cost)).setCell ⟨b, 8, none⟩ (.int .u64 X2.offer.bridge)).setCell ⟨b, 9, none⟩ (.int .u64 X2.offer.port)).setCell ⟨b, 10, none⟩ (.int .i64 X2.given.age)).setCell ⟨b, 11, none⟩ (.int .i64 X2.given.max)).setCell ⟨b, 12, none⟩ (.int .i64 X2.given.hello)).setCell ⟨b, 13, none⟩ (.int .i64 X2.given.delay)).drew = Z := ⟨_, rfl⟩
    rw [hZ] at TF ⊢
    obtain ⟨Y, hY⟩ : ∃ Y, ({ X2 with vec := X2.offer, times := X2.given } : Pt) = Y := ⟨_, rfl⟩
    replace TF := Lib.hid (TF.as (show _ = Y from hY))
    have HY := Lib.hid hY
    clear hZ hY p6 p7 p8 p9 p10 p11 p12 p13 p14 p15 p16 p17 p18 p19 p20 p21 f
    have f := TF.out.blk.free
    have c_1 := TF.out.blk.c_update
    have c_2 := TF.out.blk.c_source
    have c_3 := TF.out.blk.c_newInfo
    have TG := Lib.hid (((TF.out.set 25 (.bool false) (TF.out.blk.s_update false)).set 5 (.int .i64 2) ((TF.out.blk.s_update false).s_source 2)).set 39 (.bool true) (((TF.out.blk.s_update false).s_source 2).s_newInfo true))
    go_wp2
    go_end0
    exact ⟨rfl, TG.out.as ((settle_eq p X1 X2 Y false false HS.out HX.out HX2.out HY.out).trans (by simp))⟩

set_option maxRecDepth 20000 in
set_option maxHeartbeats 2000000 in
theorem settle_ne_w (b : Nat) (p : Pt) (w : World) (h : PtBlk 78 w b p) (ha : p.agreed = true) (hv : ¬ p.offer = p.vec) :
    Calls Tryz.prog 152 #[.pointer (some ⟨b, 0, none⟩)] w fun e w' => e = .returned (.tuple #[]) ∧ Tn 78 b ({ p with proposing := false, proposed := false, agreed := false, synced := p.synced && false, vec := p.offer, times := p.given, update := false, source := 2, newInfo := true }) w w' := by
  have f := h.free
  have c_1 := h.c_proposing
  have c_2 := h.c_proposed
  have T0 := Lib.hid (((Tn.refl h).set 34 (.bool false) (h.s_proposing false)).set 33 (.bool false) ((h.s_proposing false).s_proposed false))
  obtain ⟨W, hW⟩ : ∃ W, (w.setCell ⟨b, 34, none⟩ (.bool false)).setCell ⟨b, 33, none⟩ (.bool false) = W := ⟨_, rfl⟩
  rw [hW] at T0
  have HW := Lib.hid hW
  clear hW h
  go_enter Tryz.func152, Tryz.ntmps152
  go_upto_region 1 with (fail)
  refine wp_to (W := W) (by exact HW.out.symm) ?_
  clear HW f c_1 c_2
  have f := T0.out.blk.free
  have c_1 := T0.out.blk.c_agreed
  have c_2 := T0.out.blk.c_synced
  rw [show ({ p with proposing := false, proposed := false } : Pt).agreed = true from ha] at c_1
  obtain ⟨⟨p6, p7, p8, p9, p10, p11, p12, p13⟩, ⟨p14, p15, p16, p17, p18, p19, p20, p21⟩⟩ := T0.out.blk.rds
  have hE := run_vcEq p.offer.root p.offer.cost p.offer.bridge p.offer.port p.vec.root p.vec.cost p.vec.bridge p.vec.port
  rw [show decide ((⟨p.offer.root, p.offer.cost, p.offer.bridge, p.offer.port⟩ : Vc) = ⟨p.vec.root, p.vec.cost, p.vec.bridge, p.vec.port⟩) = false from decide_eq_false hv] at hE
  clear hv ha
  go_region
  clear p6 p7 p8 p9 p10 p11 p12 p13 p14 p15 p16 p17 p18 p19 p20 p21 hE
  clear c_1
  obtain ⟨U, hU⟩ : ∃ U, (W.setCell ⟨b, 32, none⟩ (.bool false)).drew = U := ⟨_, rfl⟩
  have TU := tn_draw (T0.out.set 32 (.bool false) (T0.out.blk.s_agreed false))
  rw [hU] at TU
  obtain ⟨X1, hX⟩ : ∃ X, ({ p with proposing := false, proposed := false, agreed := false } : Pt) = X := ⟨_, rfl⟩
  replace TU := Lib.hid (TU.as hX)
  have s_x : X1.synced = p.synced := by rw [← hX]
  have o_x : X1.offer = p.offer := by rw [← hX]
  have g_x : X1.given = p.given := by rw [← hX]
  have a_x : X1.agreed = false := by rw [← hX]
  have HX := Lib.hid hX
  have SX := Lib.hid s_x
  have OX := Lib.hid (And.intro o_x g_x)
  rw [hU]
  clear hU hX f c_2
  have f := TU.out.blk.free
  have c_1 := TU.out.blk.c_agreed
  have c_2 := TU.out.blk.c_synced
  rw [a_x] at c_1
  rw [s_x] at c_2
  clear s_x o_x g_x a_x
  obtain ⟨S, hS⟩ : ∃ S, (p.synced && false) = S := ⟨_, rfl⟩
  have TV := TU.out.set 36 (.bool S) (TU.out.blk.s_synced S)
  obtain ⟨V, hV⟩ : ∃ V, U.setCell ⟨b, 36, none⟩ (.bool S) = V := ⟨_, rfl⟩
  obtain ⟨X2, hX2⟩ : ∃ X, ({ X1 with synced := S } : Pt) = X := ⟨_, rfl⟩
  rw [hV] at TV
  replace TV := Lib.hid (TV.as hX2)
  have HX2 := Lib.hid hX2
  have HV := Lib.hid hV
  have HS := Lib.hid hS
  clear hX2 hV
  have SS : ∀ x, p.synced = x → (x && false) = S := fun x h => by rw [← h]; exact hS
  clear hS
  have hsy : p.synced = true ∨ p.synced = false := by cases p.synced <;> simp
  rcases hsy with hs | hs
  · rw [hs] at c_2
    have e : S = false := (SS true hs).symm
    subst e
    clear hs SS
    go_upto_region 3 with (fail)
    refine wp_to (W := V) (by exact HV.out.symm) ?_
    clear HV f c_1 c_2
    obtain ⟨⟨p6, p7, p8, p9, p10, p11, p12, p13⟩, ⟨p14, p15, p16, p17, p18, p19, p20, p21⟩⟩ := TV.out.blk.rds
    have f := TV.out.blk.free
    go_region
    have TF := tn_draw ((TV.out.put4v X2.offer.root X2.offer.cost X2.offer.bridge X2.offer.port).put4t X2.given.age X2.given.max X2.given.hello X2.given.delay)
    unfold put4t put4v at TF
    obtain ⟨Z, hZ⟩ : ∃ Z, ((((((((V.setCell ⟨b, 6, none⟩ (.int .u64 X2.offer.root)).setCell ⟨b, 7, none⟩ (.int .u64 X2.offer.cost)).setCell ⟨b, 8, none⟩ (.int .u64 X2.offer.bridge)).setCell ⟨b, 9, none⟩ (.int .u64 X2.offer.port)).setCell ⟨b, 10, none⟩ (.int .i64 X2.given.age)).setCell ⟨b, 11, none⟩ (.int .i64 X2.given.max)).setCell ⟨b, 12, none⟩ (.int .i64 X2.given.hello)).setCell ⟨b, 13, none⟩ (.int .i64 X2.given.delay)).drew = Z := ⟨_, rfl⟩
    rw [hZ] at TF ⊢
    obtain ⟨Y, hY⟩ : ∃ Y, ({ X2 with vec := X2.offer, times := X2.given } : Pt) = Y := ⟨_, rfl⟩
    replace TF := Lib.hid (TF.as (show _ = Y from hY))
    have HY := Lib.hid hY
    clear hZ hY p6 p7 p8 p9 p10 p11 p12 p13 p14 p15 p16 p17 p18 p19 p20 p21 f
    have f := TF.out.blk.free
    have c_1 := TF.out.blk.c_update
    have c_2 := TF.out.blk.c_source
    have c_3 := TF.out.blk.c_newInfo
    have TG := Lib.hid (((TF.out.set 25 (.bool false) (TF.out.blk.s_update false)).set 5 (.int .i64 2) ((TF.out.blk.s_update false).s_source 2)).set 39 (.bool true) (((TF.out.blk.s_update false).s_source 2).s_newInfo true))
    go_wp2
    go_end0
    exact ⟨rfl, TG.out.as ((settle_eq p X1 X2 Y false false HS.out HX.out HX2.out HY.out).trans (by simp))⟩
  · rw [hs] at c_2
    have e : S = false := (SS false hs).symm
    subst e
    clear hs SS
    go_upto_region 3 with (fail)
    refine wp_to (W := V) (by exact HV.out.symm) ?_
    clear HV f c_1 c_2
    obtain ⟨⟨p6, p7, p8, p9, p10, p11, p12, p13⟩, ⟨p14, p15, p16, p17, p18, p19, p20, p21⟩⟩ := TV.out.blk.rds
    have f := TV.out.blk.free
    go_region
    have TF := tn_draw ((TV.out.put4v X2.offer.root X2.offer.cost X2.offer.bridge X2.offer.port).put4t X2.given.age X2.given.max X2.given.hello X2.given.delay)
    unfold put4t put4v at TF
    obtain ⟨Z, hZ⟩ : ∃ Z, ((((((((V.setCell ⟨b, 6, none⟩ (.int .u64 X2.offer.root)).setCell ⟨b, 7, none⟩ (.int .u64 X2.offer.cost)).setCell ⟨b, 8, none⟩ (.int .u64 X2.offer.bridge)).setCell ⟨b, 9, none⟩ (.int .u64 X2.offer.port)).setCell ⟨b, 10, none⟩ (.int .i64 X2.given.age)).setCell ⟨b, 11, none⟩ (.int .i64 X2.given.max)).setCell ⟨b, 12, none⟩ (.int .i64 X2.given.hello)).setCell ⟨b, 13, none⟩ (.int .i64 X2.given.delay)).drew = Z := ⟨_, rfl⟩
    rw [hZ] at TF ⊢
    obtain ⟨Y, hY⟩ : ∃ Y, ({ X2 with vec := X2.offer, times := X2.given } : Pt) = Y := ⟨_, rfl⟩
    replace TF := Lib.hid (TF.as (show _ = Y from hY))
    have HY := Lib.hid hY
    clear hZ hY p6 p7 p8 p9 p10 p11 p12 p13 p14 p15 p16 p17 p18 p19 p20 p21 f
    have f := TF.out.blk.free
    have c_1 := TF.out.blk.c_update
    have c_2 := TF.out.blk.c_source
    have c_3 := TF.out.blk.c_newInfo
    have TG := Lib.hid (((TF.out.set 25 (.bool false) (TF.out.blk.s_update false)).set 5 (.int .i64 2) ((TF.out.blk.s_update false).s_source 2)).set 39 (.bool true) (((TF.out.blk.s_update false).s_source 2).s_newInfo true))
    go_wp2
    go_end0
    exact ⟨rfl, TG.out.as ((settle_eq p X1 X2 Y false false HS.out HX.out HX2.out HY.out).trans (by simp))⟩

set_option maxRecDepth 20000 in
set_option maxHeartbeats 2000000 in
theorem settle_eq_w (b : Nat) (p : Pt) (w : World) (h : PtBlk 78 w b p) (ha : p.agreed = true) (hv : p.offer = p.vec) :
    Calls Tryz.prog 152 #[.pointer (some ⟨b, 0, none⟩)] w fun e w' => e = .returned (.tuple #[]) ∧ Tn 78 b ({ p with proposing := false, proposed := false, agreed := true, synced := p.synced && true, vec := p.offer, times := p.given, update := false, source := 2, newInfo := true }) w w' := by
  have f := h.free
  have c_1 := h.c_proposing
  have c_2 := h.c_proposed
  have T0 := Lib.hid (((Tn.refl h).set 34 (.bool false) (h.s_proposing false)).set 33 (.bool false) ((h.s_proposing false).s_proposed false))
  obtain ⟨W, hW⟩ : ∃ W, (w.setCell ⟨b, 34, none⟩ (.bool false)).setCell ⟨b, 33, none⟩ (.bool false) = W := ⟨_, rfl⟩
  rw [hW] at T0
  have HW := Lib.hid hW
  clear hW h
  go_enter Tryz.func152, Tryz.ntmps152
  go_upto_region 1 with (fail)
  refine wp_to (W := W) (by exact HW.out.symm) ?_
  clear HW f c_1 c_2
  have f := T0.out.blk.free
  have c_1 := T0.out.blk.c_agreed
  have c_2 := T0.out.blk.c_synced
  rw [show ({ p with proposing := false, proposed := false } : Pt).agreed = true from ha] at c_1
  obtain ⟨⟨p6, p7, p8, p9, p10, p11, p12, p13⟩, ⟨p14, p15, p16, p17, p18, p19, p20, p21⟩⟩ := T0.out.blk.rds
  have hE := run_vcEq p.offer.root p.offer.cost p.offer.bridge p.offer.port p.vec.root p.vec.cost p.vec.bridge p.vec.port
  rw [show decide ((⟨p.offer.root, p.offer.cost, p.offer.bridge, p.offer.port⟩ : Vc) = ⟨p.vec.root, p.vec.cost, p.vec.bridge, p.vec.port⟩) = true from decide_eq_true hv] at hE
  clear hv ha
  go_region
  clear p6 p7 p8 p9 p10 p11 p12 p13 p14 p15 p16 p17 p18 p19 p20 p21 hE
  clear c_1
  obtain ⟨U, hU⟩ : ∃ U, (W.setCell ⟨b, 32, none⟩ (.bool true)).drew = U := ⟨_, rfl⟩
  have TU := tn_draw (T0.out.set 32 (.bool true) (T0.out.blk.s_agreed true))
  rw [hU] at TU
  obtain ⟨X1, hX⟩ : ∃ X, ({ p with proposing := false, proposed := false, agreed := true } : Pt) = X := ⟨_, rfl⟩
  replace TU := Lib.hid (TU.as hX)
  have s_x : X1.synced = p.synced := by rw [← hX]
  have o_x : X1.offer = p.offer := by rw [← hX]
  have g_x : X1.given = p.given := by rw [← hX]
  have a_x : X1.agreed = true := by rw [← hX]
  have HX := Lib.hid hX
  have SX := Lib.hid s_x
  have OX := Lib.hid (And.intro o_x g_x)
  rw [hU]
  clear hU hX f c_2
  have f := TU.out.blk.free
  have c_1 := TU.out.blk.c_agreed
  have c_2 := TU.out.blk.c_synced
  rw [a_x] at c_1
  rw [s_x] at c_2
  clear s_x o_x g_x a_x
  obtain ⟨S, hS⟩ : ∃ S, (p.synced && true) = S := ⟨_, rfl⟩
  have TV := TU.out.set 36 (.bool S) (TU.out.blk.s_synced S)
  obtain ⟨V, hV⟩ : ∃ V, U.setCell ⟨b, 36, none⟩ (.bool S) = V := ⟨_, rfl⟩
  obtain ⟨X2, hX2⟩ : ∃ X, ({ X1 with synced := S } : Pt) = X := ⟨_, rfl⟩
  rw [hV] at TV
  replace TV := Lib.hid (TV.as hX2)
  have HX2 := Lib.hid hX2
  have HV := Lib.hid hV
  have HS := Lib.hid hS
  clear hX2 hV
  have SS : ∀ x, p.synced = x → (x && true) = S := fun x h => by rw [← h]; exact hS
  clear hS
  have hsy : p.synced = true ∨ p.synced = false := by cases p.synced <;> simp
  rcases hsy with hs | hs
  · rw [hs] at c_2
    have e : S = true := (SS true hs).symm
    subst e
    clear hs SS
    go_upto_region 3 with (fail)
    refine wp_to (W := V) (by exact HV.out.symm) ?_
    clear HV f c_1 c_2
    obtain ⟨⟨p6, p7, p8, p9, p10, p11, p12, p13⟩, ⟨p14, p15, p16, p17, p18, p19, p20, p21⟩⟩ := TV.out.blk.rds
    have f := TV.out.blk.free
    go_region
    have TF := tn_draw ((TV.out.put4v X2.offer.root X2.offer.cost X2.offer.bridge X2.offer.port).put4t X2.given.age X2.given.max X2.given.hello X2.given.delay)
    unfold put4t put4v at TF
    obtain ⟨Z, hZ⟩ : ∃ Z, ((((((((V.setCell ⟨b, 6, none⟩ (.int .u64 X2.offer.root)).setCell ⟨b, 7, none⟩ (.int .u64 X2.offer.cost)).setCell ⟨b, 8, none⟩ (.int .u64 X2.offer.bridge)).setCell ⟨b, 9, none⟩ (.int .u64 X2.offer.port)).setCell ⟨b, 10, none⟩ (.int .i64 X2.given.age)).setCell ⟨b, 11, none⟩ (.int .i64 X2.given.max)).setCell ⟨b, 12, none⟩ (.int .i64 X2.given.hello)).setCell ⟨b, 13, none⟩ (.int .i64 X2.given.delay)).drew = Z := ⟨_, rfl⟩
    rw [hZ] at TF ⊢
    obtain ⟨Y, hY⟩ : ∃ Y, ({ X2 with vec := X2.offer, times := X2.given } : Pt) = Y := ⟨_, rfl⟩
    replace TF := Lib.hid (TF.as (show _ = Y from hY))
    have HY := Lib.hid hY
    clear hZ hY p6 p7 p8 p9 p10 p11 p12 p13 p14 p15 p16 p17 p18 p19 p20 p21 f
    have f := TF.out.blk.free
    have c_1 := TF.out.blk.c_update
    have c_2 := TF.out.blk.c_source
    have c_3 := TF.out.blk.c_newInfo
    have TG := Lib.hid (((TF.out.set 25 (.bool false) (TF.out.blk.s_update false)).set 5 (.int .i64 2) ((TF.out.blk.s_update false).s_source 2)).set 39 (.bool true) (((TF.out.blk.s_update false).s_source 2).s_newInfo true))
    go_wp2
    go_end0
    exact ⟨rfl, TG.out.as ((settle_eq p X1 X2 Y true true HS.out HX.out HX2.out HY.out).trans (by simp))⟩
  · rw [hs] at c_2
    have e : S = false := (SS false hs).symm
    subst e
    clear hs SS
    go_upto_region 3 with (fail)
    refine wp_to (W := V) (by exact HV.out.symm) ?_
    clear HV f c_1 c_2
    obtain ⟨⟨p6, p7, p8, p9, p10, p11, p12, p13⟩, ⟨p14, p15, p16, p17, p18, p19, p20, p21⟩⟩ := TV.out.blk.rds
    have f := TV.out.blk.free
    go_region
    have TF := tn_draw ((TV.out.put4v X2.offer.root X2.offer.cost X2.offer.bridge X2.offer.port).put4t X2.given.age X2.given.max X2.given.hello X2.given.delay)
    unfold put4t put4v at TF
    obtain ⟨Z, hZ⟩ : ∃ Z, ((((((((V.setCell ⟨b, 6, none⟩ (.int .u64 X2.offer.root)).setCell ⟨b, 7, none⟩ (.int .u64 X2.offer.cost)).setCell ⟨b, 8, none⟩ (.int .u64 X2.offer.bridge)).setCell ⟨b, 9, none⟩ (.int .u64 X2.offer.port)).setCell ⟨b, 10, none⟩ (.int .i64 X2.given.age)).setCell ⟨b, 11, none⟩ (.int .i64 X2.given.max)).setCell ⟨b, 12, none⟩ (.int .i64 X2.given.hello)).setCell ⟨b, 13, none⟩ (.int .i64 X2.given.delay)).drew = Z := ⟨_, rfl⟩
    rw [hZ] at TF ⊢
    obtain ⟨Y, hY⟩ : ∃ Y, ({ X2 with vec := X2.offer, times := X2.given } : Pt) = Y := ⟨_, rfl⟩
    replace TF := Lib.hid (TF.as (show _ = Y from hY))
    have HY := Lib.hid hY
    clear hZ hY p6 p7 p8 p9 p10 p11 p12 p13 p14 p15 p16 p17 p18 p19 p20 p21 f
    have f := TF.out.blk.free
    have c_1 := TF.out.blk.c_update
    have c_2 := TF.out.blk.c_source
    have c_3 := TF.out.blk.c_newInfo
    have TG := Lib.hid (((TF.out.set 25 (.bool false) (TF.out.blk.s_update false)).set 5 (.int .i64 2) ((TF.out.blk.s_update false).s_source 2)).set 39 (.bool true) (((TF.out.blk.s_update false).s_source 2).s_newInfo true))
    go_wp2
    go_end0
    exact ⟨rfl, TG.out.as ((settle_eq p X1 X2 Y true false HS.out HX.out HX2.out HY.out).trans (by simp))⟩

theorem settle_w (b : Nat) (p X : Pt) (w : World) (h : PtBlk 78 w b p) (hX : Hid ({ p with proposing := false, proposed := false, agreed := p.agreed && decide (p.offer = p.vec), synced := p.synced && (p.agreed && decide (p.offer = p.vec)), vec := p.offer, times := p.given, update := false, source := 2, newInfo := true } = X)) :
    Calls Tryz.prog 152 #[.pointer (some ⟨b, 0, none⟩)] w fun e w' => e = .returned (.tuple #[]) ∧ Tn 78 b X w w' := by
  rw [← hX.out]
  cases ha : p.agreed
  · exact settle_no_w b p w h ha
  · by_cases hv : p.offer = p.vec
    · rw [decide_eq_true hv]
      exact settle_eq_w b p w h ha hv
    · rw [decide_eq_false hv]
      exact settle_ne_w b p w h ha hv


end Go.Proofs.YtldobcfejldbiaaGreatDoor
