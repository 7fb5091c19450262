/-
  Walks of layer 1: numberAt, Parse.
-/
import Derived.Test.YtbpgaeeihfknfaaBuf
import Derived.Deep.QuietTactic
import Derived.BigQuiet
import Derived.Deep.RegionWith
import Derived.Deep.RegionHeld3
import Derived.Deep.DeepCutAuto
import Derived.Lib.SmallJoins
namespace Go.Proofs.Ytbpgaeeihfknfaa
set_option linter.unusedVariables false
set_option linter.unusedSimpArgs false
open Go.RowKit Fm

theorem ret_int {k : IntKind} {a b : Int} (h : a = b) : Ending.returned (.int k a) = .returned (.int k b) := by rw [h]
set_option maxHeartbeats 400000 in
theorem numberAt_any (s : ByteArray) (a : Int) (w : World) (h0 : 0 ≤ a) (h1 : a + 1 < s.size) (hs : s.size ≤ maxLen) :
    Calls Try.prog 22 #[.string s, .int .i64 a] w fun e w' => e = .returned (.int .i64 (numI s a)) ∧ ∃ nq, w' = w.drewN nq := by
  unfold maxLen at hs
  have h2 : a < (s.size : Int) := by omega
  have h3 : 0 ≤ a + 1 := by omega
  go_enter Try.func22, Try.ntmps22
  go_wp2
  go_quiet (fail)
  go_wp2
  go_ret
  exact ⟨ret_int (by rw [num_join]; exact numI_of s a h0 (by omega) (by omega)), nq, rfl⟩

theorem below_set7 {B b : Nat} {a w : World} (h : Below B a w) (hb : B ≤ b) (v0 v1 v2 v3 v4 v5 v6 : Value) :
    Below B a (((((((w.setCell ⟨b, 0, none⟩ v0).setCell ⟨b, 1, none⟩ v1).setCell ⟨b, 2, none⟩ v2).setCell ⟨b, 3, none⟩ v3).setCell ⟨b, 4, none⟩ v4).setCell ⟨b, 5, none⟩ v5).setCell ⟨b, 6, none⟩ v6) :=
  ((((((h.setCell hb v0).setCell hb v1).setCell hb v2).setCell hb v3).setCell hb v4).setCell hb v5).setCell hb v6
theorem below_drewN {B : Nat} {a w : World} (h : Below B a w) (n : Nat) : Below B a (w.drewN n) := ⟨h.os, h.tape, h.output, h.size, h.block⟩

set_option maxHeartbeats 400000 in
theorem parse_short (s : ByteArray) (w : World) (h : s.size < 14) :
    Calls Try.prog 10 #[.string s] w fun e w' => e = .returned (.tuple #[zero.val, .int .i64 3]) ∧ Below w.heap.size w w' := by
  go_enter Try.func10, Try.ntmps10
  go_wp2
  exact bodyPost_ret (v := .tuple #[zero.val, .int .i64 3]) (by simp [results, Try.results10, go_sem, zero]) rfl ⟨rfl, below_box _ _⟩

set_option maxHeartbeats 400000 in
theorem parse_short2 (s : ByteArray) (w : World) (h : 14 ≤ s.size) (h2 : s.size < 18) (ht : numN s 12 = 33024) :
    Calls Try.prog 10 #[.string s] w fun e w' => e = .returned (.tuple #[zero.val, .int .i64 3]) ∧ Below w.heap.size w w' := by
  have Ht := Lib.hid ht; clear ht
  go_enter Try.func10, Try.ntmps10
  go_wp2_with fail
  refine (numberAt_any _ _ _ (by omega) (by omega) (by unfold maxLen; omega)).mono ?_
  rintro e w1 ⟨rfl, nq, rfl⟩
  rw [show numI s 12 = 33024 from Ht.out]
  go_wp2
  exact bodyPost_ret (v := .tuple #[zero.val, .int .i64 3]) (by simp [results, Try.results10, go_sem, zero]) rfl ⟨rfl, below_set7 (below_drewN (below_box _ _) _) (Nat.le_refl _) _ _ _ _ _ _ _⟩

set_option maxHeartbeats 400000 in
theorem parse_longT (s : ByteArray) (w : World) (h : 1518 < s.size) (hm : s.size ≤ maxLen) (ht : numN s 12 = 33024) :
    Calls Try.prog 10 #[.string s] w fun e w' => e = .returned (.tuple #[zero.val, .int .i64 4]) ∧ Below w.heap.size w w' := by
  unfold maxLen at hm
  have Ht := Lib.hid ht; clear ht
  go_enter Try.func10, Try.ntmps10
  go_wp2_with fail
  refine (numberAt_any _ _ _ (by omega) (by omega) (by unfold maxLen; omega)).mono ?_
  rintro e w1 ⟨rfl, nq, rfl⟩
  rw [show numI s 12 = 33024 from Ht.out]
  go_wp2
  exact bodyPost_ret (v := .tuple #[zero.val, .int .i64 4]) (by simp [results, Try.results10, go_sem, zero]) rfl ⟨rfl, below_set7 (below_drewN (below_box _ _) _) (Nat.le_refl _) _ _ _ _ _ _ _⟩

set_option maxHeartbeats 400000 in
theorem parse_longU (s : ByteArray) (w : World) (h : 1514 < s.size) (hm : s.size ≤ maxLen) (ht : numN s 12 ≠ 33024) :
    Calls Try.prog 10 #[.string s] w fun e w' => e = .returned (.tuple #[zero.val, .int .i64 4]) ∧ Below w.heap.size w w' := by
  unfold maxLen at hm
  have ht' : (numI s 12 == 33024) = false := beq_eq_false_iff_ne.2 ht
  clear ht
  go_enter Try.func10, Try.ntmps10
  go_wp2_with fail
  refine (numberAt_any _ _ _ (by omega) (by omega) (by unfold maxLen; omega)).mono ?_
  rintro e w1 ⟨rfl, nq, rfl⟩
  go_wp2
  exact bodyPost_ret (v := .tuple #[zero.val, .int .i64 4]) (by simp [results, Try.results10, go_sem, zero]) rfl ⟨rfl, below_set7 (below_drewN (below_box _ _) _) (Nat.le_refl _) _ _ _ _ _ _ _⟩

theorem numberAt_b (s : ByteArray) (a : Int) (w : World) (h0 : 0 ≤ a) (h1 : a + 1 < s.size) (hs : s.size ≤ maxLen) :
    Calls Try.prog 22 #[.string s, .int .i64 a] w fun e w' => e = .returned (.int .i64 (numI s a)) ∧ Below w.heap.size w w' :=
  (numberAt_any s a w h0 h1 hs).mono fun _ _ ⟨he, nq, hw⟩ => ⟨he, by rw [hw]; exact below_drewN (Below.refl _ _) nq⟩

/-- Block b holds just this frame's cells, none of them frozen. -/
def Blk (w : World) (b : Nat) (d s : ByteArray) (t : Bool) (p v ty : Int) (pl : ByteArray) : Prop :=
  w.heap[b]? = some (.cells #[.string d, .string s, .bool t, .int .i64 p, .int .i64 v, .int .i64 ty, .string pl] 23 (0, 0))
theorem Blk.below {w w' : World} {b B : Nat} {d s : ByteArray} {t : Bool} {p v ty : Int} {pl : ByteArray} (h : Blk w b d s t p v ty pl) (hb : Below B w w') (hB : b < B) : Blk w' b d s t p v ty pl :=
  (hb.block b hB).trans h
theorem blk_new (w : World) (d s : ByteArray) (t : Bool) (p v ty : Int) (pl : ByteArray) :
    Blk (w.alloc (.cells #[.string d, .string s, .bool t, .int .i64 p, .int .i64 v, .int .i64 ty, .string pl] 23)) w.heap.size d s t p v ty pl := heap_alloc_new w _
theorem Blk.cells {w : World} {b : Nat} {d s : ByteArray} {t : Bool} {p v ty : Int} {pl : ByteArray} (h : Blk w b d s t p v ty pl) : Boxed w b d s t p v ty pl := by
  unfold Blk at h
  refine ⟨?_, ?_, ?_, ?_, ?_, ?_, ?_⟩ <;> simp [World.cell?, h]
theorem Blk.free {w : World} {b : Nat} {d s : ByteArray} {t : Bool} {p v ty : Int} {pl : ByteArray} (h : Blk w b d s t p v ty pl) (j : Nat) : w.frozen? ⟨b, j, none⟩ = false := by
  unfold Blk at h
  simp [World.frozen?, h]
theorem Blk.lt {w : World} {b : Nat} {d s : ByteArray} {t : Bool} {p v ty : Int} {pl : ByteArray} (h : Blk w b d s t p v ty pl) : b < w.heap.size :=
  (Array.getElem?_eq_some_iff.1 h).1
theorem blk_set {w : World} {b i : Nat} {cs cs' : Array Value} {T : TypeId} {x : Value} (h : w.heap[b]? = some (.cells cs T (0, 0))) (hc : cs.setIfInBounds i x = cs') : (w.setCell ⟨b, i, none⟩ x).heap[b]? = some (.cells cs' T (0, 0)) := by
  rw [Joins.block_setCell h x, hc]
theorem Blk.set7 {w : World} {b : Nat} {d s : ByteArray} {t : Bool} {p v ty : Int} {pl : ByteArray} (h : Blk w b d s t p v ty pl) (d' s' : ByteArray) (t' : Bool) (p' v' ty' : Int) (pl' : ByteArray) :
    Blk (((((((w.setCell ⟨b, 0, none⟩ (.string d')).setCell ⟨b, 1, none⟩ (.string s')).setCell ⟨b, 2, none⟩ (.bool t')).setCell ⟨b, 3, none⟩ (.int .i64 p')).setCell ⟨b, 4, none⟩ (.int .i64 v')).setCell ⟨b, 5, none⟩ (.int .i64 ty')).setCell ⟨b, 6, none⟩ (.string pl')) b d' s' t' p' v' ty' pl' := by
  unfold Blk at h ⊢
  have h0 := blk_set (i := 0) (x := .string d') (cs' := #[.string d', .string s, .bool t, .int .i64 p, .int .i64 v, .int .i64 ty, .string pl]) h rfl
  have h1 := blk_set (i := 1) (x := .string s') (cs' := #[.string d', .string s', .bool t, .int .i64 p, .int .i64 v, .int .i64 ty, .string pl]) h0 rfl
  have h2 := blk_set (i := 2) (x := .bool t') (cs' := #[.string d', .string s', .bool t', .int .i64 p, .int .i64 v, .int .i64 ty, .string pl]) h1 rfl
  have h3 := blk_set (i := 3) (x := .int .i64 p') (cs' := #[.string d', .string s', .bool t', .int .i64 p', .int .i64 v, .int .i64 ty, .string pl]) h2 rfl
  have h4 := blk_set (i := 4) (x := .int .i64 v') (cs' := #[.string d', .string s', .bool t', .int .i64 p', .int .i64 v', .int .i64 ty, .string pl]) h3 rfl
  have h5 := blk_set (i := 5) (x := .int .i64 ty') (cs' := #[.string d', .string s', .bool t', .int .i64 p', .int .i64 v', .int .i64 ty', .string pl]) h4 rfl
  have h6 := blk_set (i := 6) (x := .string pl') (cs' := #[.string d', .string s', .bool t', .int .i64 p', .int .i64 v', .int .i64 ty', .string pl']) h5 rfl
  exact h6

/-- What stands behind the making of a frame: the slot points to a new block that holds it; what was there stays. -/
def Made (w1 : World) (d s : ByteArray) (t : Bool) (p v ty : Int) (pl : ByteArray) (x : Value) (wx : World) : Prop :=
  ∃ g : Nat, x = .pointer (some ⟨g, 0, none⟩) ∧ w1.heap.size ≤ g ∧ Blk wx g d s t p v ty pl ∧ Below w1.heap.size w1 wx

theorem made_A {w1 w2 : World} {d s : ByteArray} {t : Bool} {p v ty : Int} {pl : ByteArray} (hb : Below w1.heap.size w1.drew w2) :
    Made w1 d s t p v ty pl (.pointer (some ⟨w2.heap.size, 0, none⟩)) (w2.alloc (.cells #[.string d, .string s, .bool t, .int .i64 p, .int .i64 v, .int .i64 ty, .string pl] 23)) := by
  have h : Below w1.heap.size w1 w2 := (Below.refl _ _).drew.trans hb
  exact ⟨w2.heap.size, rfl, h.size, blk_new w2 d s t p v ty pl, bw_alloc h _⟩
theorem made_B {w1 w2 : World} {d s d' s' : ByteArray} {t t' : Bool} {p v ty p' v' ty' : Int} {pl pl' : ByteArray}
    (hb : Below (w1.alloc (.cells #[.string d', .string s', .bool t', .int .i64 p', .int .i64 v', .int .i64 ty', .string pl'] 23)).heap.size (w1.alloc (.cells #[.string d', .string s', .bool t', .int .i64 p', .int .i64 v', .int .i64 ty', .string pl'] 23)).drew w2) :
    Made w1 d s t p v ty pl (.pointer (some ⟨w1.heap.size, 0, none⟩)) (((((((w2.setCell ⟨w1.heap.size, 0, none⟩ (.string d)).setCell ⟨w1.heap.size, 1, none⟩ (.string s)).setCell ⟨w1.heap.size, 2, none⟩ (.bool t)).setCell ⟨w1.heap.size, 3, none⟩ (.int .i64 p)).setCell ⟨w1.heap.size, 4, none⟩ (.int .i64 v)).setCell ⟨w1.heap.size, 5, none⟩ (.int .i64 ty)).setCell ⟨w1.heap.size, 6, none⟩ (.string pl)) := by
  have h : Below (w1.alloc (.cells #[.string d', .string s', .bool t', .int .i64 p', .int .i64 v', .int .i64 ty', .string pl'] 23)).heap.size (w1.alloc (.cells #[.string d', .string s', .bool t', .int .i64 p', .int .i64 v', .int .i64 ty', .string pl'] 23)) w2 := (Below.refl _ _).drew.trans hb
  have h2 := bw_trans (below_box w1 _) h
  refine ⟨w1.heap.size, rfl, Nat.le_refl _, ((blk_new w1 d' s' t' p' v' ty' pl').below h (by simp)).set7 d s t p v ty pl, below_set7 h2 (Nat.le_refl _) _ _ _ _ _ _ _⟩

set_option maxHeartbeats 1000000 in
theorem parse_U (s : ByteArray) (w : World) (F : Fr) (E : Int) (h : 14 ≤ s.size) (hm : s.size ≤ 1514) (ht : numN s 12 ≠ 33024)
    (hyes : Hid (rightB ⟨s.extract 0 6, s.extract 6 12, false, 0, 0, numI s 12, s.extract 14 s.size⟩ = true → F = ⟨s.extract 0 6, s.extract 6 12, false, 0, 0, numI s 12, s.extract 14 s.size⟩ ∧ E = 0))
    (hno : Hid (rightB ⟨s.extract 0 6, s.extract 6 12, false, 0, 0, numI s 12, s.extract 14 s.size⟩ = false → F = zero ∧ E = 2)) :
    Calls Try.prog 10 #[.string s] w fun e w' => e = .returned (.tuple #[F.val, .int .i64 E]) ∧ Below w.heap.size w w' := by
  have ht' : (numI s 12 == 33024) = false := beq_eq_false_iff_ne.2 ht
  clear ht
  have i6 : (6 : Int) ≤ s.size := by omega
  have i12 : (12 : Int) ≤ s.size := by omega
  have i14 : (14 : Int) ≤ s.size := by omega
  have hb : (12 : Int) + 1 < s.size := by omega
  have hx : s.size ≤ maxLen := by unfold maxLen; omega
  go_enter Try.func10, Try.ntmps10
  go_wp2_with fail
  refine (numberAt_b _ _ _ (by omega) hb hx).mono ?_
  rintro e w1 ⟨rfl, hb1⟩
  have B1 := bw_trans (below_box _ _) hb1
  have z1 : w.heap.size + 1 ≤ w1.heap.size := by have := hb1.size; simpa using this
  have R1 := (blk_new w _ _ _ _ _ _ _).below hb1 (by simp)
  clear hb1
  go_upto_region 11 with (fail)
  go_cut [6] (fun s6 wx => Made w1 (s.extract 0 6) (s.extract 6 12) false 0 0 (numI s 12) (s.extract 14 s.size) s6 wx)
  case first =>
    have hw1 : IntKind.i64.wrap (12 + 2) = 14 := by decide
    have hw2 : IntKind.i64.wrap 14 = 14 := by decide
    go_region_held3 (fun _ => True) (trivial) (first | (go_at_call 22; refine (numberAt_b _ _ _ (by omega) hb hx).mono ?_; rintro e w2 ⟨rfl, hb2⟩; obtain ⟨hc2, hf2⟩ := bcell hb2))
    all_goals (go_wp2_with fail)
    all_goals go_meet
    · exact made_A hb2
    · exact made_B hb2
  case rest =>
    obtain ⟨g, rfl, hg, k1, B2⟩ := hcut
    have R2 := R1.below B2 (by omega)
    have y := k1.cells
    obtain ⟨c0, c1, c2, c3, c4, c5, c6⟩ := y
    have e1 : (s.extract 0 6).size ≤ maxLen := by rw [ByteArray.size_extract]; unfold maxLen; omega
    have e2 : (s.extract 6 12).size ≤ maxLen := by rw [ByteArray.size_extract]; unfold maxLen; omega
    have e3 : (s.extract 14 s.size).size ≤ maxLen := by rw [ByteArray.size_extract]; unfold maxLen; omega
    go_wp2_with fail
    refine (right_any _ _ _ _ _ _ _ _ e1 e2 e3).mono ?_
    rintro e w3 ⟨rfl, hb3⟩
    have k3 := k1.below hb3 k1.lt
    have R3 := R2.below hb3 R2.lt
    have B3 := bw_trans (bw_trans B1 B2) hb3
    clear c0 c1 c2 c3 c4 c5 c6 hb3 k1 R2 B2 e1 e2 e3
    have y := k3.cells
    obtain ⟨c0, c1, c2, c3, c4, c5, c6⟩ := y
    have y := R3.cells
    obtain ⟨q0, q1, q2, q3, q4, q5, q6⟩ := y
    have f0 := R3.free 0
    have f1 := R3.free 1
    have f2 := R3.free 2
    have f3 := R3.free 3
    have f4 := R3.free 4
    have f5 := R3.free 5
    have f6 := R3.free 6
    cases hr : rightB ⟨s.extract 0 6, s.extract 6 12, false, 0, 0, numI s 12, s.extract 14 s.size⟩ with
    | true =>
      obtain ⟨rfl, rfl⟩ := hyes.out hr
      clear hyes hno hr
      go_wp2
      exact bodyPost_ret (v := .tuple #[fv (s.extract 0 6) (s.extract 6 12) false 0 0 (numI s 12) (s.extract 14 s.size), .int .i64 0]) (by simp [results, Try.results10, go_sem, q0, q1, q2, q3, q4, q5, q6]) rfl ⟨rfl, below_set7 B3 (Nat.le_refl _) _ _ _ _ _ _ _⟩
    | false =>
      obtain ⟨rfl, rfl⟩ := hno.out hr
      clear hyes hno hr
      go_wp2
      exact bodyPost_ret (v := .tuple #[zero.val, .int .i64 2]) (by simp [results, Try.results10, go_sem, zero, q0, q1, q2, q3, q4, q5, q6]) rfl ⟨rfl, below_set7 B3 (Nat.le_refl _) _ _ _ _ _ _ _⟩
end Go.Proofs.Ytbpgaeeihfknfaa
