/-
  Walks of layer 1: With, Without.
-/
import Derived.Test.YtbpgaeeihfknfaaFrT
namespace Go.Proofs.Ytbpgaeeihfknfaa
set_option linter.unusedVariables false
set_option linter.unusedSimpArgs false
open Go.RowKit Fm

/-- Two blocks of frames, one behind the other. -/
theorem blk_two (w : World) (d s : ByteArray) (t : Bool) (p v ty : Int) (pl : ByteArray) (d' s' : ByteArray) (t' : Bool) (p' v' ty' : Int) (pl' : ByteArray) :
    Blk ((w.alloc (.cells #[.string d, .string s, .bool t, .int .i64 p, .int .i64 v, .int .i64 ty, .string pl] 23)).alloc (.cells #[.string d', .string s', .bool t', .int .i64 p', .int .i64 v', .int .i64 ty', .string pl'] 23)) w.heap.size d s t p v ty pl ∧
    Blk ((w.alloc (.cells #[.string d, .string s, .bool t, .int .i64 p, .int .i64 v, .int .i64 ty, .string pl] 23)).alloc (.cells #[.string d', .string s', .bool t', .int .i64 p', .int .i64 v', .int .i64 ty', .string pl'] 23)) (w.heap.size + 1) d' s' t' p' v' ty' pl' := by
  refine ⟨(blk_new w d s t p v ty pl).below (below_box _ _) (by simp), ?_⟩
  have h := blk_new (w.alloc (.cells #[.string d, .string s, .bool t, .int .i64 p, .int .i64 v, .int .i64 ty, .string pl] 23)) d' s' t' p' v' ty' pl'
  have e : (w.alloc (.cells #[.string d, .string s, .bool t, .int .i64 p, .int .i64 v, .int .i64 ty, .string pl] 23)).heap.size = w.heap.size + 1 := by simp
  rw [e] at h
  exact h

theorem Blk.set24 {w : World} {b : Nat} {d s : ByteArray} {t : Bool} {p v ty : Int} {pl : ByteArray} (h : Blk w b d s t p v ty pl) (t' : Bool) (v' : Int) :
    Blk ((w.setCell ⟨b, 2, none⟩ (.bool t')).setCell ⟨b, 4, none⟩ (.int .i64 v')) b d s t' p v' ty pl := by
  unfold Blk at h ⊢
  have h3 := blk_set (i := 2) (x := .bool t') (cs' := #[.string d, .string s, .bool t', .int .i64 p, .int .i64 v, .int .i64 ty, .string pl]) h rfl
  have h4 := blk_set (i := 4) (x := .int .i64 v') (cs' := #[.string d, .string s, .bool t', .int .i64 p, .int .i64 v', .int .i64 ty, .string pl]) h3 rfl
  exact h4

set_option maxHeartbeats 1000000 in
theorem with_any (d s : ByteArray) (t : Bool) (p v ty : Int) (pl : ByteArray) (vl : Int) (w : World) (F : Fr) (E : Int) (hd : d.size ≤ maxLen) (hs : s.size ≤ maxLen) (hp : pl.size ≤ maxLen)
    (h2 : Hid (rightB ⟨d, s, t, p, v, ty, pl⟩ = false → F = zero ∧ E = 2))
    (h1 : Hid (rightB ⟨d, s, t, p, v, ty, pl⟩ = true → withinB vl 4094 = false → F = zero ∧ E = 1))
    (h0 : Hid (rightB ⟨d, s, t, p, v, ty, pl⟩ = true → withinB vl 4094 = true → F = ⟨d, s, true, p, vl, ty, pl⟩ ∧ E = 0)) :
    Calls Try.prog 16 #[fv d s t p v ty pl, .int .i64 vl] w fun e w' => e = .returned (.tuple #[F.val, .int .i64 E]) ∧ Below w.heap.size w w' := by
  go_enter Try.func16, Try.ntmps16
  go_wp2_with fail
  refine (right_any _ _ _ _ _ _ _ _ hd hs hp).mono ?_
  rintro e w1 ⟨rfl, hb1⟩
  have Q := blk_two w d s t p v ty pl ⟨#[]⟩ ⟨#[]⟩ false 0 0 0 ⟨#[]⟩
  have k1 := Q.1.below hb1 Q.1.lt
  have R1 := Q.2.below hb1 Q.2.lt
  have B1 := bw_trans (bw_alloc (below_box w _) _) hb1
  clear hb1 Q
  cases hr : rightB ⟨d, s, t, p, v, ty, pl⟩ with
  | false =>
    obtain ⟨rfl, rfl⟩ := h2.out hr
    clear h0 h1 h2 hr
    have y := R1.cells
    obtain ⟨q0, q1, q2, q3, q4, q5, q6⟩ := y
    have f0 := R1.free 0
    have f1 := R1.free 1
    have f2 := R1.free 2
    have f3 := R1.free 3
    have f4 := R1.free 4
    have f5 := R1.free 5
    have f6 := R1.free 6
    go_wp2
    exact bodyPost_ret (v := .tuple #[zero.val, .int .i64 2]) (by simp [results, Try.results16, go_sem, zero, q0, q1, q2, q3, q4, q5, q6]) rfl ⟨rfl, below_set7 B1 (Nat.le_succ _) _ _ _ _ _ _ _⟩
  | true =>
    have h1' := Lib.hid (h1.out hr)
    have h0' := Lib.hid (h0.out hr)
    clear h0 h1 h2 hr
    go_wp2_with fail
    refine (within_any _ _ _).mono ?_
    rintro e w2 ⟨rfl, rfl⟩
    cases hv : withinB vl 4094 with
    | false =>
      obtain ⟨rfl, rfl⟩ := h1'.out hv
      clear h0' h1' hv
      have y := R1.cells
      obtain ⟨q0, q1, q2, q3, q4, q5, q6⟩ := y
      have f0 := R1.free 0
      have f1 := R1.free 1
      have f2 := R1.free 2
      have f3 := R1.free 3
      have f4 := R1.free 4
      have f5 := R1.free 5
      have f6 := R1.free 6
      go_wp2
      exact bodyPost_ret (v := .tuple #[zero.val, .int .i64 1]) (by simp [results, Try.results16, go_sem, zero, q0, q1, q2, q3, q4, q5, q6]) rfl ⟨rfl, below_set7 B1 (Nat.le_succ _) _ _ _ _ _ _ _⟩
    | true =>
      obtain ⟨rfl, rfl⟩ := h0'.out hv
      clear h0' h1' hv
      have y := k1.cells
      obtain ⟨c0, c1, c2, c3, c4, c5, c6⟩ := y
      have g2 := k1.free 2
      have g4 := k1.free 4
      have y := R1.cells
      obtain ⟨q0, q1, q2, q3, q4, q5, q6⟩ := y
      have f0 := R1.free 0
      have f1 := R1.free 1
      have f2 := R1.free 2
      have f3 := R1.free 3
      have f4 := R1.free 4
      have f5 := R1.free 5
      have f6 := R1.free 6
      go_wp2
      exact bodyPost_ret (v := .tuple #[fv d s true p vl ty pl, .int .i64 0]) (by simp [results, Try.results16, go_sem, q0, q1, q2, q3, q4, q5, q6]) rfl ⟨rfl, below_set7 ((B1.setCell (Nat.le_refl _) _).setCell (Nat.le_refl _) _) (Nat.le_succ _) _ _ _ _ _ _ _⟩

theorem with_R (d s : ByteArray) (t : Bool) (p v ty : Int) (pl : ByteArray) (vl : Int) (w : World) (hd : d.size ≤ maxLen) (hs : s.size ≤ maxLen) (hp : pl.size ≤ maxLen) :
    Calls Try.prog 16 #[fv d s t p v ty pl, .int .i64 vl] w fun e w' => e = .returned (.tuple #[(withR ⟨d, s, t, p, v, ty, pl⟩ vl).1.val, .int .i64 (withR ⟨d, s, t, p, v, ty, pl⟩ vl).2]) ∧ Below w.heap.size w w' := by
  refine with_any d s t p v ty pl vl w _ _ hd hs hp ?_ ?_ ?_
  · intro h; simp [withR, h]
  · intro h h'; simp [withR, h, h']
  · intro h h'; simp [withR, h, h']

set_option maxHeartbeats 1000000 in
theorem without_any (d s : ByteArray) (t : Bool) (p v ty : Int) (pl : ByteArray) (w : World) (F : Fr) (E : Int) (hd : d.size ≤ maxLen) (hs : s.size ≤ maxLen) (hp : pl.size ≤ maxLen)
    (h2 : Hid (rightB ⟨d, s, t, p, v, ty, pl⟩ = false → F = zero ∧ E = 2))
    (h0 : Hid (rightB ⟨d, s, t, p, v, ty, pl⟩ = true → F = ⟨d, s, false, 0, 0, ty, pl⟩ ∧ E = 0)) :
    Calls Try.prog 17 #[fv d s t p v ty pl] w fun e w' => e = .returned (.tuple #[F.val, .int .i64 E]) ∧ Below w.heap.size w w' := by
  go_enter Try.func17, Try.ntmps17
  go_wp2_with fail
  refine (right_any _ _ _ _ _ _ _ _ hd hs hp).mono ?_
  rintro e w1 ⟨rfl, hb1⟩
  have Q := blk_two w d s t p v ty pl ⟨#[]⟩ ⟨#[]⟩ false 0 0 0 ⟨#[]⟩
  have k1 := Q.1.below hb1 Q.1.lt
  have R1 := Q.2.below hb1 Q.2.lt
  have B1 := bw_trans (bw_alloc (below_box w _) _) hb1
  clear hb1 Q
  have y := R1.cells
  obtain ⟨q0, q1, q2, q3, q4, q5, q6⟩ := y
  have f0 := R1.free 0
  have f1 := R1.free 1
  have f2 := R1.free 2
  have f3 := R1.free 3
  have f4 := R1.free 4
  have f5 := R1.free 5
  have f6 := R1.free 6
  cases hr : rightB ⟨d, s, t, p, v, ty, pl⟩ with
  | false =>
    obtain ⟨rfl, rfl⟩ := h2.out hr
    clear h0 h2 hr
    go_wp2
    exact bodyPost_ret (v := .tuple #[zero.val, .int .i64 2]) (by simp [results, Try.results17, go_sem, zero, q0, q1, q2, q3, q4, q5, q6]) rfl ⟨rfl, below_set7 B1 (Nat.le_succ _) _ _ _ _ _ _ _⟩
  | true =>
    obtain ⟨rfl, rfl⟩ := h0.out hr
    clear h0 h2 hr
    have y := k1.cells
    obtain ⟨c0, c1, c2, c3, c4, c5, c6⟩ := y
    have g2 := k1.free 2
    have g3 := k1.free 3
    have g4 := k1.free 4
    go_wp2
    exact bodyPost_ret (v := .tuple #[fv d s false 0 0 ty pl, .int .i64 0]) (by simp [results, Try.results17, go_sem, q0, q1, q2, q3, q4, q5, q6]) rfl ⟨rfl, below_set7 (((B1.setCell (Nat.le_refl _) _).setCell (Nat.le_refl _) _).setCell (Nat.le_refl _) _) (Nat.le_succ _) _ _ _ _ _ _ _⟩

theorem without_R (d s : ByteArray) (t : Bool) (p v ty : Int) (pl : ByteArray) (w : World) (hd : d.size ≤ maxLen) (hs : s.size ≤ maxLen) (hp : pl.size ≤ maxLen) :
    Calls Try.prog 17 #[fv d s t p v ty pl] w fun e w' => e = .returned (.tuple #[(withoutR ⟨d, s, t, p, v, ty, pl⟩).1.val, .int .i64 (withoutR ⟨d, s, t, p, v, ty, pl⟩).2]) ∧ Below w.heap.size w w' := by
  refine without_any d s t p v ty pl w _ _ hd hs hp ?_ ?_
  · intro h; simp [withoutR, h]
  · intro h; simp [withoutR, h]
end Go.Proofs.Ytbpgaeeihfknfaa
