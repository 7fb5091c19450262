/-
  Layer 11: deeds that go by a BPDU: heedTc, record, dispute, agree, giveWay; what meet and answer hand back; settle.
-/
import Derived.Test.YtbiggckddoeghaaInG
import Derived.Test.YtbiggckddoeghaaInE
namespace Go.Proofs.Ytbiggckddoeghaa
set_option linter.unusedVariables false
set_option linter.unusedSimpArgs false
open Go.RowKit Vm Rm Bm Im

/-- A BPDU that is heard: its numbers are within their bounds. -/
structure BpHd (q : Bp) : Prop where
  kind : q.kind = 1 ∨ q.kind = 3
  age : 0 ≤ q.age ∧ q.age ≤ 65535
  max : 0 ≤ q.max ∧ q.max ≤ 65535
  hello : 0 ≤ q.hello ∧ q.hello ≤ 65535
  delay : 0 ≤ q.delay ∧ q.delay ≤ 65535
  flags : 0 ≤ q.flags ∧ q.flags ≤ 255
theorem heard_hd {q : Bp} (h : heardB q = true) : BpHd q := by
  unfold heardB at h
  simp only [Bool.and_eq_true, Bool.not_eq_true', decide_eq_false_iff_not] at h
  obtain ⟨h, h2⟩ := h
  unfold rightB at h
  rw [if_neg h2] at h
  by_cases hk : q.kind = 1 ∨ q.kind = 3
  · rw [if_pos hk] at h
    unfold numsB withinB at h
    simp only [Bool.and_eq_true, decide_eq_true_eq] at h
    exact ⟨hk, h.2.2.2.1, h.2.2.2.2.1, h.2.2.2.2.2.1, h.2.2.2.2.2.2, h.1⟩
  · rw [if_neg hk] at h
    cases h
theorem BBlk.same {T : TypeId} {w w1 : World} {b : Nat} {q : Bp} (h : BBlk T w b q) (hb : w1.heap[b]? = w.heap[b]?) : BBlk T w1 b q := hb.trans h
abbrev bq (q : Bp) : Value := bv q.kind q.flags q.root q.cost q.bridge q.port q.age q.max q.hello q.delay
theorem bqblk_new (T : TypeId) (w : World) (q : Bp) : BBlk T (w.alloc (.cells #[.int .i64 q.kind, .int .i64 q.flags, .int .u64 q.root, .int .u64 q.cost, .int .u64 q.bridge, .int .u64 q.port, .int .i64 q.age, .int .i64 q.max, .int .i64 q.hello, .int .i64 q.delay] T)) w.heap.size q := heap_alloc_new w _
def heedP (p : Pt) (q : Bp) : Pt := { p with heardTc := p.heardTc || bitB q.flags 0 }
def rec1P (p : Pt) (q : Bp) : Pt := { p with proposed := p.proposed || (decide (q.kind = 3) && bitB q.flags 1), heardAck := p.heardAck || (!decide (q.kind = 3) && bitB q.flags 7) }
def infoN (q : Bp) : Int := if (timesOf q).age + 1 > (timesOf q).max then 0 else 3 * (timesOf q).hello
theorem record_is (p : Pt) (q : Bp) : recordP p q = { heedP (rec1P p q) q with info := infoN q } := rfl
def giveP (p : Pt) (q : Bp) : Pt := { p with agreed := false, proposing := false, agree := p.agree && decide (vecOf q = p.vec), synced := p.synced && decide (vecOf q = p.vec), vec := vecOf q, times := timesOf q, source := 3, reselect := true, ready := false }
theorem super_is (p : Pt) (q : Bp) : superP p q = recordP (giveP p q) q := rfl


set_option maxRecDepth 20000 in
set_option maxHeartbeats 1000000 in
theorem heed_w (b : Nat) (p : Pt) (q : Bp) (w : World) (h : PtBlk 28 w b p) :
    Calls Try.prog 71 #[.pointer (some ⟨b, 0, none⟩), bq q] w fun e w' => e = .returned (.tuple #[]) ∧ Tn 28 b (heedP p q) w w' := by
  have hlt := h.lt
  have K := Lib.hid (bqblk_new 30 w q)
  have T0 := Lib.hid ((Tn.refl h).grow (below_box w (.cells #[.int .i64 q.kind, .int .i64 q.flags, .int .u64 q.root, .int .u64 q.cost, .int .u64 q.bridge, .int .u64 q.port, .int .i64 q.age, .int .i64 q.max, .int .i64 q.hello, .int .i64 q.delay] 30)))
  obtain ⟨B, hB⟩ : ∃ B, bitB q.flags 0 = B := ⟨_, rfl⟩
  have CB0 := Lib.hid (fun w' => has_w q.kind q.flags q.root q.cost q.bridge q.port q.age q.max q.hello q.delay 0 0 B w' rfl (by omega) (Lib.hid hB))
  unfold bv at CB0
  clear h
  unfold bq bv
  go_enter Try.func71, Try.ntmps71
  go_wp2_with fail
  (with_reducible refine (CB0.out _).mono ?_)
  rintro e w1 ⟨rfl, hb1⟩
  have T1 := Lib.hid (T0.out.grow hb1)
  have K1 := Lib.hid (K.out.next hb1)
  clear hb1
  have f := T1.out.blk.free
  have c_heardTc := T1.out.blk.c_heardTc
  cases B
  · go_wp2
    go_end0
    exact ⟨rfl, T1.out.as (by unfold heedP; rw [hB]; cases p; simp)⟩
  · go_wp2
    go_end0
    exact ⟨rfl, (T1.out.set 40 (.bool true) (T1.out.blk.s_heardTc true)).as (by unfold heedP; rw [hB]; simp)⟩

set_option maxRecDepth 20000 in
set_option maxHeartbeats 1000000 in
theorem dispute_w (b : Nat) (p : Pt) (q : Bp) (w : World) (h : PtBlk 28 w b p) :
    Calls Try.prog 54 #[.pointer (some ⟨b, 0, none⟩), bq q] w fun e w' => e = .returned (.tuple #[]) ∧ Tn 28 b (inferiorP p q) w w' := by
  have hlt := h.lt
  have K := Lib.hid (bqblk_new 30 w q)
  have T0 := Lib.hid ((Tn.refl h).grow (below_box w (.cells #[.int .i64 q.kind, .int .i64 q.flags, .int .u64 q.root, .int .u64 q.cost, .int .u64 q.bridge, .int .u64 q.port, .int .i64 q.age, .int .i64 q.max, .int .i64 q.hello, .int .i64 q.delay] 30)))
  obtain ⟨B, hB⟩ : ∃ B, bitB q.flags 4 = B := ⟨_, rfl⟩
  have CB4 := Lib.hid (fun w' => has_w q.kind q.flags q.root q.cost q.bridge q.port q.age q.max q.hello q.delay 4 4 B w' rfl (by omega) (Lib.hid hB))
  unfold bv at CB4
  clear h
  unfold bq bv
  go_enter Try.func54, Try.ntmps54
  by_cases hk : q.kind = 3
  · have z : (q.kind == 3) = true := beq_iff_eq.2 hk
    have HK := Lib.hid hk
    clear hk
    go_wp2_with fail
    (with_reducible refine (CB4.out _).mono ?_)
    rintro e w1 ⟨rfl, hb1⟩
    have T1 := Lib.hid (T0.out.grow hb1)
    have K1 := Lib.hid (K.out.next hb1)
    clear hb1
    have f := T1.out.blk.free
    have c_disputed := T1.out.blk.c_disputed
    have c_agreed := T1.out.blk.c_agreed
    cases B
    · go_wp2
      go_end0
      exact ⟨rfl, T1.out.as (by unfold inferiorP; rw [if_neg (fun c => by rw [hB] at c; cases c.2)])⟩
    · go_wp2
      go_end0
      exact ⟨rfl, ((T1.out.set 38 (.bool true) (T1.out.blk.s_disputed true)).set 32 (.bool false) ((T1.out.blk.s_disputed true).s_agreed false)).as (by unfold inferiorP; rw [if_pos ⟨HK.out, hB⟩])⟩
  · have z : (q.kind == 3) = false := beq_eq_false_iff_ne.2 hk
    go_wp2
    go_end0
    exact ⟨rfl, T0.out.as (by unfold inferiorP; rw [if_neg (fun c => hk c.1)])⟩

set_option maxRecDepth 20000 in
set_option maxHeartbeats 1000000 in
theorem agree_w (b : Nat) (p : Pt) (q : Bp) (w : World) (h : PtBlk 28 w b p) (hk : q.kind = 3) :
    Calls Try.prog 55 #[.pointer (some ⟨b, 0, none⟩), bq q] w fun e w' => e = .returned (.tuple #[]) ∧ Tn 28 b (otherP p q) w w' := by
  have hlt := h.lt
  have K := Lib.hid (bqblk_new 30 w q)
  have T0 := Lib.hid ((Tn.refl h).grow (below_box w (.cells #[.int .i64 q.kind, .int .i64 q.flags, .int .u64 q.root, .int .u64 q.cost, .int .u64 q.bridge, .int .u64 q.port, .int .i64 q.age, .int .i64 q.max, .int .i64 q.hello, .int .i64 q.delay] 30)))
  obtain ⟨B, hB⟩ : ∃ B, bitB q.flags 6 = B := ⟨_, rfl⟩
  have CH := Lib.hid (fun (X : Pt) w' (h : PtBlk 28 w' b X) => heed_w b X q w' h)
  unfold bq bv at CH
  have HK := Lib.hid hk
  clear hk
  have CB6 := Lib.hid (fun w' => has_w q.kind q.flags q.root q.cost q.bridge q.port q.age q.max q.hello q.delay 6 6 B w' rfl (by omega) (Lib.hid hB))
  unfold bv at CB6
  clear h
  unfold bq bv
  go_enter Try.func55, Try.ntmps55
  go_wp2_with fail
  (with_reducible refine (CB6.out _).mono ?_)
  rintro e w1 ⟨rfl, hb1⟩
  have T1 := Lib.hid (T0.out.grow hb1)
  have K1 := Lib.hid (K.out.next hb1)
  clear hb1
  have f := T1.out.blk.free
  have c_agreed := T1.out.blk.c_agreed
  have c_proposing := T1.out.blk.c_proposing
  have c_sendRstp := T1.out.blk.c_sendRstp
  obtain ⟨d0, d1, d2, d3, d4, d5, d6, d7, d8, d9⟩ := K1.out.rd
  cases B
  · go_wp2_with fail
    refine (CH.out _ _ T1.out.blk).mono ?_
    rintro e w2 ⟨rfl, t⟩
    have T2 := Lib.hid (T1.out.trans t)
    clear t
    go_wp2
    go_end0
    exact ⟨rfl, T2.out.as (by unfold otherP heedP; rw [hB]; cases p; simp)⟩
  · cases hs : p.sendRstp
    · rw [hs] at c_sendRstp
      go_wp2_with fail
      refine (CH.out _ _ T1.out.blk).mono ?_
      rintro e w2 ⟨rfl, t⟩
      have T2 := Lib.hid (T1.out.trans t)
      clear t
      go_wp2
      go_end0
      exact ⟨rfl, T2.out.as (by unfold otherP heedP; rw [hs]; cases p; simp)⟩
    · rw [hs] at c_sendRstp
      have TS := Lib.hid ((T1.out.set 32 (.bool true) (T1.out.blk.s_agreed true)).set 34 (.bool false) ((T1.out.blk.s_agreed true).s_proposing false))
      have K2 := Lib.hid (((K1.out.other 32 (.bool true) (show w.heap.size ≠ b by omega))).other 34 (.bool false) (show w.heap.size ≠ b by omega))
      obtain ⟨e0, e1, e2, e3, e4, e5, e6, e7, e8, e9⟩ := K2.out.rd
      go_wp2_with fail
      refine (CH.out _ _ TS.out.blk).mono ?_
      rintro e w2 ⟨rfl, t⟩
      have T2 := Lib.hid (TS.out.trans t)
      clear t
      go_wp2
      go_end0
      exact ⟨rfl, T2.out.as (by unfold otherP heedP; rw [hs, HK.out, hB]; simp)⟩

set_option maxRecDepth 20000 in
set_option maxHeartbeats 1000000 in
theorem record_w (b : Nat) (p : Pt) (q : Bp) (w : World) (h : PtBlk 28 w b p) (hd : BpHd q) :
    Calls Try.prog 53 #[.pointer (some ⟨b, 0, none⟩), bq q] w fun e w' => e = .returned (.tuple #[]) ∧ Tn 28 b (recordP p q) w w' := by
  have hlt := h.lt
  have K := Lib.hid (bqblk_new 30 w q)
  have T0 := Lib.hid ((Tn.refl h).grow (below_box w (.cells #[.int .i64 q.kind, .int .i64 q.flags, .int .u64 q.root, .int .u64 q.cost, .int .u64 q.bridge, .int .u64 q.port, .int .i64 q.age, .int .i64 q.max, .int .i64 q.hello, .int .i64 q.delay] 30)))
  obtain ⟨B1, hB1⟩ : ∃ B, bitB q.flags 1 = B := ⟨_, rfl⟩
  obtain ⟨B7, hB7⟩ : ∃ B, bitB q.flags 7 = B := ⟨_, rfl⟩
  obtain ⟨H, hH⟩ : ∃ H, (if q.hello / 256 < 1 then 1 else q.hello / 256) = H := ⟨_, rfl⟩
  obtain ⟨N, hN⟩ : ∃ N, infoN q = N := ⟨_, rfl⟩
  have hHr : 0 ≤ H ∧ H < 1000 := by rw [← hH]; have := hd.hello; split <;> omega
  have CB1 := Lib.hid (fun w' => has_w q.kind q.flags q.root q.cost q.bridge q.port q.age q.max q.hello q.delay 1 1 B1 w' rfl (by omega) (Lib.hid hB1))
  have CB7 := Lib.hid (fun w' => has_w q.kind q.flags q.root q.cost q.bridge q.port q.age q.max q.hello q.delay 7 7 B7 w' rfl (by omega) (Lib.hid hB7))
  have CH := Lib.hid (fun (X : Pt) w' (h : PtBlk 28 w' b X) => heed_w b X q w' h)
  have CT := Lib.hid (fun w' => times_w q.kind q.flags q.root q.cost q.bridge q.port q.age q.max q.hello q.delay H w' hd.hello.1 (Lib.hid hH))
  have CN := Lib.hid (fun w' => holds_w (q.age / 256) (q.max / 256) H (q.delay / 256) N w' (by have := hd.age; omega) (by have := hd.max; omega) hHr (Lib.hid (by rw [← hN, ← hH]; rfl)))
  unfold bq bv at CH
  unfold bv at CB1 CB7 CT
  unfold tv at CN CT
  have HKD := Lib.hid hd.kind
  clear hd hHr hH
  clear h
  unfold bq bv
  go_enter Try.func53, Try.ntmps53
  by_cases hk : q.kind = 3
  · have z : (q.kind == 3) = true := beq_iff_eq.2 hk
    have zn : (q.kind != 3) = false := by simp [hk]
    have HK := Lib.hid hk
    clear hk
    go_wp2_with fail
    (with_reducible refine (CB1.out _).mono ?_)
    rintro e w1 ⟨rfl, hb1⟩
    have T1 := Lib.hid (T0.out.grow hb1)
    have K1 := Lib.hid (K.out.next hb1)
    clear hb1
    obtain ⟨d0, d1, d2, d3, d4, d5, d6, d7, d8, d9⟩ := K1.out.rd
    have f := T1.out.blk.free
    have c_p := T1.out.blk.c_proposed
    cases B1
    · go_wp2_with fail
      refine (CH.out _ _ T1.out.blk).mono ?_
      rintro e w2 ⟨rfl, t⟩
      have T2 := Lib.hid (T1.out.trans t)
      have L2 := Lib.hid (K1.out.same (t.at K1.out.lt (by omega)))
      have hs2 := t.size
      have hk2 := K1.out.lt
      clear t
      obtain ⟨g0, g1, g2, g3, g4, g5, g6, g7, g8, g9⟩ := L2.out.rd
      go_wp2_with fail
      (with_reducible refine (CT.out _).mono ?_)
      rintro e w3 ⟨rfl, hb3⟩
      have T3 := Lib.hid (T2.out.grow hb3)
      clear hb3
      go_wp2_with fail
      (with_reducible refine (CN.out _).mono ?_)
      rintro e w4 ⟨rfl, hb4⟩
      have T4 := Lib.hid (T3.out.grow hb4)
      clear hb4
      have f := T4.out.blk.free
      have c_info := T4.out.blk.c_info
      go_wp2
      go_end0
      exact ⟨rfl, (T4.out.set 56 (.int .i64 N) (T4.out.blk.s_info N)).as (by rw [record_is, hN]; unfold rec1P; rw [HK.out, hB1]; cases p; simp)⟩
    · have TS := Lib.hid (T1.out.set 33 (.bool true) (T1.out.blk.s_proposed true))
      have KS := Lib.hid (K1.out.other 33 (.bool true) (show w.heap.size ≠ b by omega))
      obtain ⟨e0, e1, e2, e3, e4, e5, e6, e7, e8, e9⟩ := KS.out.rd
      go_wp2_with fail
      refine (CH.out _ _ TS.out.blk).mono ?_
      rintro e w2 ⟨rfl, t⟩
      have T2 := Lib.hid (TS.out.trans t)
      have L2 := Lib.hid (KS.out.same (t.at KS.out.lt (by omega)))
      have hs2 := t.size
      have hk2 := KS.out.lt
      clear t
      obtain ⟨g0, g1, g2, g3, g4, g5, g6, g7, g8, g9⟩ := L2.out.rd
      go_wp2_with fail
      (with_reducible refine (CT.out _).mono ?_)
      rintro e w3 ⟨rfl, hb3⟩
      have T3 := Lib.hid (T2.out.grow hb3)
      clear hb3
      go_wp2_with fail
      (with_reducible refine (CN.out _).mono ?_)
      rintro e w4 ⟨rfl, hb4⟩
      have T4 := Lib.hid (T3.out.grow hb4)
      clear hb4
      have f := T4.out.blk.free
      have c_info := T4.out.blk.c_info
      go_wp2
      go_end0
      exact ⟨rfl, (T4.out.set 56 (.int .i64 N) (T4.out.blk.s_info N)).as (by rw [record_is, hN]; unfold rec1P; rw [HK.out, hB1]; cases p; simp)⟩
  · have z : (q.kind == 3) = false := beq_eq_false_iff_ne.2 hk
    have zn : (q.kind != 3) = true := bne_iff_ne.2 hk
    have HK := Lib.hid hk
    clear hk
    go_wp2_with fail
    (with_reducible refine (CB7.out _).mono ?_)
    rintro e w1 ⟨rfl, hb1⟩
    have T1 := Lib.hid (T0.out.grow hb1)
    have K1 := Lib.hid (K.out.next hb1)
    clear hb1
    obtain ⟨d0, d1, d2, d3, d4, d5, d6, d7, d8, d9⟩ := K1.out.rd
    have f := T1.out.blk.free
    have c_p := T1.out.blk.c_heardAck
    cases B7
    · go_wp2_with fail
      refine (CH.out _ _ T1.out.blk).mono ?_
      rintro e w2 ⟨rfl, t⟩
      have T2 := Lib.hid (T1.out.trans t)
      have L2 := Lib.hid (K1.out.same (t.at K1.out.lt (by omega)))
      have hs2 := t.size
      have hk2 := K1.out.lt
      clear t
      obtain ⟨g0, g1, g2, g3, g4, g5, g6, g7, g8, g9⟩ := L2.out.rd
      go_wp2_with fail
      (with_reducible refine (CT.out _).mono ?_)
      rintro e w3 ⟨rfl, hb3⟩
      have T3 := Lib.hid (T2.out.grow hb3)
      clear hb3
      go_wp2_with fail
      (with_reducible refine (CN.out _).mono ?_)
      rintro e w4 ⟨rfl, hb4⟩
      have T4 := Lib.hid (T3.out.grow hb4)
      clear hb4
      have f := T4.out.blk.free
      have c_info := T4.out.blk.c_info
      go_wp2
      go_end0
      exact ⟨rfl, (T4.out.set 56 (.int .i64 N) (T4.out.blk.s_info N)).as (by rw [record_is, hN]; unfold rec1P; rw [decide_eq_false HK.out, hB7]; cases p; simp)⟩
    · have TS := Lib.hid (T1.out.set 42 (.bool true) (T1.out.blk.s_heardAck true))
      have KS := Lib.hid (K1.out.other 42 (.bool true) (show w.heap.size ≠ b by omega))
      obtain ⟨e0, e1, e2, e3, e4, e5, e6, e7, e8, e9⟩ := KS.out.rd
      go_wp2_with fail
      refine (CH.out _ _ TS.out.blk).mono ?_
      rintro e w2 ⟨rfl, t⟩
      have T2 := Lib.hid (TS.out.trans t)
      have L2 := Lib.hid (KS.out.same (t.at KS.out.lt (by omega)))
      have hs2 := t.size
      have hk2 := KS.out.lt
      clear t
      obtain ⟨g0, g1, g2, g3, g4, g5, g6, g7, g8, g9⟩ := L2.out.rd
      go_wp2_with fail
      (with_reducible refine (CT.out _).mono ?_)
      rintro e w3 ⟨rfl, hb3⟩
      have T3 := Lib.hid (T2.out.grow hb3)
      clear hb3
      go_wp2_with fail
      (with_reducible refine (CN.out _).mono ?_)
      rintro e w4 ⟨rfl, hb4⟩
      have T4 := Lib.hid (T3.out.grow hb4)
      clear hb4
      have f := T4.out.blk.free
      have c_info := T4.out.blk.c_info
      go_wp2
      go_end0
      exact ⟨rfl, (T4.out.set 56 (.int .i64 N) (T4.out.blk.s_info N)).as (by rw [record_is, hN]; unfold rec1P; rw [decide_eq_false HK.out, hB7]; cases p; simp)⟩


end Go.Proofs.Ytbiggckddoeghaa
