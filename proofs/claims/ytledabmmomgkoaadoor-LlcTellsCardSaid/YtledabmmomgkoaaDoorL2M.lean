/-
  Walks of layer 2: framed, Ieee, Sstp, Snap.
-/
import Derived.Test.YtledabmmomgkoaaDoorL2I
namespace Go.Proofs.YtledabmmomgkoaaDoor
set_option linter.unusedVariables false
set_option linter.unusedSimpArgs false
open Go.RowKit Fm

/-- A head's block, a result's and a frame's behind it. -/
theorem blk_three (w : World) (o : Obj) (d s : ByteArray) (t : Bool) (p v ty : Int) (pl : ByteArray) :
    Blk (((w.alloc o).alloc (.cells #[.string ⟨#[]⟩, .string ⟨#[]⟩, .bool false, .int .i64 0, .int .i64 0, .int .i64 0, .string ⟨#[]⟩] 23)).alloc (.cells #[.string d, .string s, .bool t, .int .i64 p, .int .i64 v, .int .i64 ty, .string pl] 23)) (w.heap.size + 1) ⟨#[]⟩ ⟨#[]⟩ false 0 0 0 ⟨#[]⟩ ∧
    Blk (((w.alloc o).alloc (.cells #[.string ⟨#[]⟩, .string ⟨#[]⟩, .bool false, .int .i64 0, .int .i64 0, .int .i64 0, .string ⟨#[]⟩] 23)).alloc (.cells #[.string d, .string s, .bool t, .int .i64 p, .int .i64 v, .int .i64 ty, .string pl] 23)) (w.heap.size + 1 + 1) d s t p v ty pl ∧
    Below w.heap.size w (((w.alloc o).alloc (.cells #[.string ⟨#[]⟩, .string ⟨#[]⟩, .bool false, .int .i64 0, .int .i64 0, .int .i64 0, .string ⟨#[]⟩] 23)).alloc (.cells #[.string d, .string s, .bool t, .int .i64 p, .int .i64 v, .int .i64 ty, .string pl] 23)) := by
  have h := blk_two (w.alloc o) ⟨#[]⟩ ⟨#[]⟩ false 0 0 0 ⟨#[]⟩ d s t p v ty pl
  have e : (w.alloc o).heap.size = w.heap.size + 1 := by simp
  rw [e] at h
  exact ⟨h.1, h.2, bw_alloc (bw_alloc (below_box w _) _) _⟩

set_option maxHeartbeats 1000000 in
theorem framed_any (g b src inner : ByteArray) (w : World) (F : Fr) (E : Int) (hg : g.size ≤ 6) (hb : b.size ≤ 8) (hs : src.size ≤ 20) (hi : inner.size ≤ 1600)
    (h4 : Hid (1500 < b.size + inner.size → F = zero ∧ E = 4))
    (h2 : Hid (b.size + inner.size ≤ 1500 → rightB (rawF g b src inner) = false → F = zero ∧ E = 2))
    (h0 : Hid (b.size + inner.size ≤ 1500 → rightB (rawF g b src inner) = true → F = rawF g b src inner ∧ E = 0)) :
    Calls Tryd.prog 18 #[hv g b, .string src, .string inner] w fun e w' => e = .returned (.tuple #[F.val, .int .i64 E]) ∧ Below w.heap.size w w' := by
  unfold hv
  by_cases hl : 1500 < b.size + inner.size
  · obtain ⟨rfl, rfl⟩ := h4.out hl
    clear h4 h2 h0
    go_enter Tryd.func18, Tryd.ntmps18
    go_wp2
    exact bodyPost_ret (v := .tuple #[zero.val, .int .i64 4]) (by simp [results, Tryd.results18, go_sem, zero]) rfl ⟨rfl, bw_alloc (below_box _ _) _⟩
  · have hl' : b.size + inner.size ≤ 1500 := by omega
    have h2' := Lib.hid (h2.out hl')
    have h0' := Lib.hid (h0.out hl')
    clear h4 h2 h0
    go_enter Tryd.func18, Tryd.ntmps18
    go_wp2_with fail
    have Q := blk_three w (.cells #[.string g, .string b] 42) g src false 0 0 ((b.size : Int) + (inner.size : Int)) (b ++ inner)
    refine (right_any g src false 0 0 ((b.size : Int) + (inner.size : Int)) (b ++ inner) _ (by unfold maxLen; omega) (by unfold maxLen; omega) (by rw [ByteArray.size_append]; unfold maxLen; omega)).mono ?_
    rintro e w1 ⟨rfl, hb1⟩
    have R1 := Q.1.below hb1 Q.1.lt
    have k1 := Q.2.1.below hb1 Q.2.1.lt
    have B1 := bw_trans Q.2.2 hb1
    clear Q hb1
    have y := R1.cells
    obtain ⟨q0, q1, q2, q3, q4, q5, q6⟩ := y
    have f0 := R1.free 0
    have f1 := R1.free 1
    have f2 := R1.free 2
    have f3 := R1.free 3
    have f4 := R1.free 4
    have f5 := R1.free 5
    have f6 := R1.free 6
    cases hr : rightB ⟨g, src, false, 0, 0, (b.size : Int) + (inner.size : Int), b ++ inner⟩ with
    | false =>
      obtain ⟨rfl, rfl⟩ := h2'.out hr
      clear h0' h2' hr
      go_wp2
      exact bodyPost_ret (v := .tuple #[zero.val, .int .i64 2]) (by simp [results, Tryd.results18, go_sem, zero, q0, q1, q2, q3, q4, q5, q6]) rfl ⟨rfl, below_set7 B1 (Nat.le_succ _) _ _ _ _ _ _ _⟩
    | true =>
      obtain ⟨rfl, rfl⟩ := h0'.out hr
      clear h0' h2' hr
      have y := k1.cells
      obtain ⟨c0, c1, c2, c3, c4, c5, c6⟩ := y
      go_wp2
      exact bodyPost_ret (v := .tuple #[(rawF g b src inner).val, .int .i64 0]) (by simp [results, Tryd.results18, go_sem, rawF, q0, q1, q2, q3, q4, q5, q6]) rfl ⟨rfl, below_set7 B1 (Nat.le_succ _) _ _ _ _ _ _ _⟩

theorem framed_R (g b src inner : ByteArray) (w : World) (fd fs : ByteArray) (ft : Bool) (fp fvl fty : Int) (fpl : ByteArray) (E : Int) (hR : Hid (madeR g b src inner = (⟨fd, fs, ft, fp, fvl, fty, fpl⟩, E))) (hg : g.size ≤ 6) (hb : b.size ≤ 8) (hs : src.size ≤ 20) (hi : inner.size ≤ 1600) :
    Calls Tryd.prog 18 #[hv g b, .string src, .string inner] w fun e w' => e = .returned (.tuple #[fv fd fs ft fp fvl fty fpl, .int .i64 E]) ∧ Below w.heap.size w w' := by
  have h := hR.out
  unfold madeR at h
  refine framed_any g b src inner w ⟨fd, fs, ft, fp, fvl, fty, fpl⟩ E hg hb hs hi ?_ ?_ ?_
  · intro h1
    rw [if_pos h1] at h
    injection h with h2 h3
    exact ⟨h2.symm, h3.symm⟩
  · intro h1 hr
    rw [if_neg (by omega), hr] at h
    simp at h
    exact ⟨h.1.symm, h.2.symm⟩
  · intro h1 hr
    rw [if_neg (by omega), hr] at h
    simp at h
    exact ⟨h.1.symm, h.2.symm⟩

set_option maxHeartbeats 400000 in
theorem ieee_w (src inner : ByteArray) (w : World) (fd fs : ByteArray) (ft : Bool) (fp fvl fty : Int) (fpl : ByteArray) (E : Int) (hR : Hid (madeR g1 b1 src inner = (⟨fd, fs, ft, fp, fvl, fty, fpl⟩, E))) (hH : Heads w) (hs : src.size ≤ 20) (hi : inner.size ≤ 1600) :
    Calls Tryd.prog 9 #[.string src, .string inner] w fun e w' => e = .returned (.tuple #[fv fd fs ft fp fvl fty fpl, .int .i64 E]) ∧ Below w.heap.size w w' := by
  have H1 := hH.next (below_box w (.cells #[.string ⟨#[]⟩, .string ⟨#[]⟩, .bool false, .int .i64 0, .int .i64 0, .int .i64 0, .string ⟨#[]⟩] 23))
  have hpos := hH.pos
  obtain ⟨e0, e1, e2, e3, e4, e5⟩ := hH
  go_enter Tryd.func9, Tryd.ntmps9
  go_wp2_with fail
  refine (framed_R g1 b1 src inner _ fd fs ft fp fvl fty fpl E hR (by decide) (by decide) hs hi).mono ?_
  rintro e w1 ⟨rfl, hb1⟩
  have R1 := (blk_new w ⟨#[]⟩ ⟨#[]⟩ false 0 0 0 ⟨#[]⟩).below hb1 (by simp)
  have B1 := bw_trans (below_box w _) hb1
  clear hb1
  have y := R1.cells
  obtain ⟨q0, q1, q2, q3, q4, q5, q6⟩ := y
  have f0 := R1.free 0
  have f1 := R1.free 1
  have f2 := R1.free 2
  have f3 := R1.free 3
  have f4 := R1.free 4
  have f5 := R1.free 5
  have f6 := R1.free 6
  go_wp2
  exact bodyPost_ret (v := .tuple #[fv fd fs ft fp fvl fty fpl, .int .i64 E]) (by simp [results, Tryd.results9, go_sem, q0, q1, q2, q3, q4, q5, q6]) rfl ⟨rfl, below_set7 B1 (Nat.le_refl _) _ _ _ _ _ _ _⟩

set_option maxHeartbeats 400000 in
theorem sstp_w (src inner : ByteArray) (w : World) (fd fs : ByteArray) (ft : Bool) (fp fvl fty : Int) (fpl : ByteArray) (E : Int) (hR : Hid (madeR g2 b2 src inner = (⟨fd, fs, ft, fp, fvl, fty, fpl⟩, E))) (hH : Heads w) (hs : src.size ≤ 20) (hi : inner.size ≤ 1600) :
    Calls Tryd.prog 11 #[.string src, .string inner] w fun e w' => e = .returned (.tuple #[fv fd fs ft fp fvl fty fpl, .int .i64 E]) ∧ Below w.heap.size w w' := by
  have H1 := hH.next (below_box w (.cells #[.string ⟨#[]⟩, .string ⟨#[]⟩, .bool false, .int .i64 0, .int .i64 0, .int .i64 0, .string ⟨#[]⟩] 23))
  have hpos := hH.pos
  obtain ⟨e0, e1, e2, e3, e4, e5⟩ := hH
  go_enter Tryd.func11, Tryd.ntmps11
  go_wp2_with fail
  refine (framed_R g2 b2 src inner _ fd fs ft fp fvl fty fpl E hR (by decide) (by decide) hs hi).mono ?_
  rintro e w1 ⟨rfl, hb1⟩
  have R1 := (blk_new w ⟨#[]⟩ ⟨#[]⟩ false 0 0 0 ⟨#[]⟩).below hb1 (by simp)
  have B1 := bw_trans (below_box w _) hb1
  clear hb1
  have y := R1.cells
  obtain ⟨q0, q1, q2, q3, q4, q5, q6⟩ := y
  have f0 := R1.free 0
  have f1 := R1.free 1
  have f2 := R1.free 2
  have f3 := R1.free 3
  have f4 := R1.free 4
  have f5 := R1.free 5
  have f6 := R1.free 6
  go_wp2
  exact bodyPost_ret (v := .tuple #[fv fd fs ft fp fvl fty fpl, .int .i64 E]) (by simp [results, Tryd.results11, go_sem, q0, q1, q2, q3, q4, q5, q6]) rfl ⟨rfl, below_set7 B1 (Nat.le_refl _) _ _ _ _ _ _ _⟩

/-- Two bytes that were just laid, turned into a string. -/
theorem conv2 (n : Int) (w : World) (h0 : 0 ≤ n) (h1 : n ≤ 65535) :
    Sem.run Tryd.prog (convert 45 9 (.slice (some ⟨w.heap.size, 0, none⟩) 2 2)) (w.alloc (.cells #[.int .u8 (n / 256), .int .u8 (n % 256)] 5)) = .ok (.string (w16 n)) (w.alloc (.cells #[.int .u8 (n / 256), .int .u8 (n % 256)] 5)) := by
  have e : n / 256 = n / 256 % 256 := by omega
  have hc := w16_cells n
  rw [← e] at hc
  exact convLit _ (w16 n) w hc rfl (by rw [show (w16 n).size = 2 from rfl]; decide) 2 rfl

theorem w16_size (n : Int) : (w16 n).size = 2 := rfl
set_option maxHeartbeats 1000000 in
theorem snap_yes (org : ByteArray) (n : Int) (inner : ByteArray) (w : World) (ho : org.size = 3) (hn0 : 0 ≤ n) (hn1 : n ≤ 65535) (hi : inner.size ≤ 1600) :
    Calls Tryd.prog 12 #[.string org, .int .i64 n, .string inner] w fun e w' => e = .returned (.tuple #[.string (⟨#[170, 170, 3]⟩ ++ org ++ w16 n ++ inner), .int .i64 0]) ∧ Below w.heap.size w w' := by
  have k2 := conv2 n w hn0 hn1
  have w2 : (w16 n).size ≤ 2 := Nat.le_refl 2
  go_enter Tryd.func12, Tryd.ntmps12
  go_wp2
  go_ret2
  exact ⟨rfl, below_box _ _⟩

set_option maxHeartbeats 1000000 in
theorem snap_w (org : ByteArray) (n : Int) (inner : ByteArray) (w : World) (X : ByteArray) (E : Int) (hX : Hid (snapR org n inner = (X, E))) (ho : org.size ≤ 20) (hi : inner.size ≤ 1600) :
    Calls Tryd.prog 12 #[.string org, .int .i64 n, .string inner] w fun e w' => e = .returned (.tuple #[.string X, .int .i64 E]) ∧ Below w.heap.size w w' := by
  have h := hX.out
  clear hX
  unfold snapR at h
  by_cases h3 : org.size = 3
  · rw [if_neg (by omega)] at h
    by_cases hn : n < 0 ∨ 65535 < n
    · rw [if_pos hn] at h
      simp at h
      obtain ⟨rfl, rfl⟩ := h
      rcases hn with hn | hn
      · go_enter Tryd.func12, Tryd.ntmps12
        go_wp2
        go_ret2
        exact ⟨rfl, Below.refl _ _⟩
      · have hn0 : 0 ≤ n := by omega
        go_enter Tryd.func12, Tryd.ntmps12
        go_wp2
        go_ret2
        exact ⟨rfl, Below.refl _ _⟩
    · rw [if_neg hn] at h
      simp at h
      obtain ⟨rfl, rfl⟩ := h
      exact snap_yes org n inner w h3 (by omega) (by omega) hi
  · rw [if_pos h3] at h
    simp at h
    obtain ⟨rfl, rfl⟩ := h
    go_enter Tryd.func12, Tryd.ntmps12
    go_wp2
    go_ret2
    exact ⟨rfl, Below.refl _ _⟩
end Go.Proofs.YtledabmmomgkoaaDoor
