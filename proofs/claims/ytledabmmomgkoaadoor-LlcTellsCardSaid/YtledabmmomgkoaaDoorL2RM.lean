/-
  Walks of layer 2's document: Inner, Snap, Made.
-/
import Derived.Test.YtledabmmomgkoaaDoorL2R
namespace Go.Proofs.YtledabmmomgkoaaDoor
set_option linter.unusedVariables false
set_option linter.unusedSimpArgs false
open Go.RowKit Fm

set_option maxHeartbeats 1000000 in
theorem rinner_w (d s : ByteArray) (t : Bool) (p v ty : Int) (pl : ByteArray) (w : World) (X : ByteArray) (E : Int) (hX : Hid (innerR ⟨d, s, t, p, v, ty, pl⟩ = (X, E))) (hd : d.size ≤ maxLen) (hs : s.size ≤ maxLen) (hp : pl.size ≤ maxLen) :
    Calls Tryd.prog 8 #[fv d s t p v ty pl] w fun e w' => e = .returned (.tuple #[.string X, .int .i64 E]) ∧ Below w.heap.size w w' := by
  have h := hX.out
  clear hX
  unfold innerR at h
  have hp' := hp
  unfold maxLen at hp'
  rcases kind_cases ⟨d, s, t, p, v, ty, pl⟩ with ⟨hk, hz⟩ | ⟨hk, hz⟩ | hk | hk
  all_goals (rw [hk] at h; simp at h; obtain ⟨rfl, rfl⟩ := h; have HK := Lib.hid hk; clear hk; try simp only at hz)
  all_goals (
    go_enter Tryd.func8, Tryd.ntmps8
    go_wp2_with fail
    refine (rkind_w _ _ _ _ _ _ _ _ _ HK hd hs hp).mono ?_
    rintro e w1 ⟨rfl, hb1⟩
    have k1 := (blk_new w d s t p v ty pl).below hb1 (by simp)
    have B1 := bw_trans (below_box w _) hb1
    clear hb1
    have y := k1.cells
    obtain ⟨c0, c1, c2, c3, c4, c5, c6⟩ := y
    go_wp2
    go_ret2
    exact ⟨rfl, B1⟩)

/-- A row of bytes in a block whose number is known, turned into a string. -/
theorem convAt (cs : Array Value) (s : ByteArray) (w : World) (k n : Nat) (hk : k = w.heap.size) (hc : cs.toList = Lib.strCells s) (hn : cs.size = s.size) (hm : s.size ≤ maxLen) (hns : n = s.size) :
    Sem.run Tryd.prog (convert 45 9 (.slice (some ⟨k, 0, none⟩) n n)) (w.alloc (.cells cs 5)) = .ok (.string s) (w.alloc (.cells cs 5)) := by
  subst hk
  exact convLit cs s w hc hn hm n hns
theorem conv2At (n : Int) (w : World) (k : Nat) (hk : k = w.heap.size) (h0 : 0 ≤ n) (h1 : n ≤ 65535) :
    Sem.run Tryd.prog (convert 45 9 (.slice (some ⟨k, 0, none⟩) 2 2)) (w.alloc (.cells #[.int .u8 (n / 256), .int .u8 (n % 256)] 5)) = .ok (.string (w16 n)) (w.alloc (.cells #[.int .u8 (n / 256), .int .u8 (n % 256)] 5)) := by
  subst hk
  exact conv2 n w h0 h1
abbrev a3 : ByteArray := ⟨#[170, 170, 3]⟩
abbrev c3b : ByteArray := ⟨#[0, 0, 12]⟩

set_option maxHeartbeats 1000000 in
theorem rsnap_yes (org : ByteArray) (n : Int) (inner : ByteArray) (w : World) (ho : org.size = 3) (hn0 : 0 ≤ n) (hn1 : n ≤ 65535) (hi : inner.size ≤ 1600) :
    Calls Tryd.prog 13 #[.string org, .int .i64 n, .string inner] w fun e w' => e = .returned (.tuple #[.string (a3 ++ org ++ w16 n ++ inner), .int .i64 0]) ∧ Below w.heap.size w w' := by
  have k1 := convAt #[.int .u8 170, .int .u8 170, .int .u8 3] a3 w w.heap.size 3 rfl rfl rfl (by decide) rfl
  have k2 := conv2At n (w.alloc (.cells #[.int .u8 170, .int .u8 170, .int .u8 3] 5)) (w.heap.size + 1) (by simp) hn0 hn1
  have w2 : (w16 n).size ≤ 2 := Nat.le_refl 2
  go_enter Tryd.func13, Tryd.ntmps13
  go_wp2
  go_ret2
  exact ⟨rfl, bw_alloc (below_box _ _) _⟩

set_option maxHeartbeats 1000000 in
theorem rsnap_w (org : ByteArray) (n : Int) (inner : ByteArray) (w : World) (X : ByteArray) (E : Int) (hX : Hid (snapR org n inner = (X, E))) (ho : org.size ≤ 20) (hi : inner.size ≤ 1600) :
    Calls Tryd.prog 13 #[.string org, .int .i64 n, .string inner] w fun e w' => e = .returned (.tuple #[.string X, .int .i64 E]) ∧ Below w.heap.size w w' := by
  have h := hX.out
  clear hX
  unfold snapR at h
  by_cases h3 : org.size = 3
  · rw [if_neg (by omega)] at h
    by_cases hn : n < 0 ∨ 65535 < n
    · rw [if_pos hn] at h
      simp at h
      obtain ⟨rfl, rfl⟩ := h
      rcases hn with hn | hn
      · go_enter Tryd.func13, Tryd.ntmps13
        go_wp2
        go_ret2
        exact ⟨rfl, Below.refl _ _⟩
      · have hn0 : 0 ≤ n := by omega
        go_enter Tryd.func13, Tryd.ntmps13
        go_wp2
        go_ret2
        exact ⟨rfl, Below.refl _ _⟩
    · rw [if_neg hn] at h
      simp at h
      obtain ⟨rfl, rfl⟩ := h
      exact rsnap_yes org n inner w h3 (by omega) (by omega) hi
  · rw [if_pos h3] at h
    simp at h
    obtain ⟨rfl, rfl⟩ := h
    go_enter Tryd.func13, Tryd.ntmps13
    go_wp2
    go_ret2
    exact ⟨rfl, Below.refl _ _⟩

theorem made_S {G b src inner S : ByteArray} (h : b ++ inner = S) : madeR G b src inner = if 1500 < S.size then (zero, 4) else if rightB ⟨G, src, false, 0, 0, (S.size : Int), S⟩ = true then (⟨G, src, false, 0, 0, (S.size : Int), S⟩, 0) else (zero, 2) := by
  subst h
  unfold madeR rawF
  simp [ByteArray.size_append]
theorem snap_b2 (inner : ByteArray) : a3 ++ c3b ++ w16 267 ++ inner = b2 ++ inner := by
  have e : a3 ++ c3b ++ w16 267 = b2 := by decide +kernel
  rw [e]

set_option maxHeartbeats 1000000 in
theorem rmade_1 (src inner : ByteArray) (w : World) (fd fs : ByteArray) (ft : Bool) (fp fvl fty : Int) (fpl : ByteArray) (E : Int) (hR : Hid (madeR g1 b1 src inner = (⟨fd, fs, ft, fp, fvl, fty, fpl⟩, E))) (hs : src.size ≤ 20) (hi : inner.size ≤ 1600) :
    Calls Tryd.prog 10 #[.int .i64 1, .string src, .string inner] w fun e w' => e = .returned (.tuple #[fv fd fs ft fp fvl fty fpl, .int .i64 E]) ∧ Below w.heap.size w w' := by
  have k1 := convAt #[.int .u8 1, .int .u8 128, .int .u8 194, .int .u8 0, .int .u8 0, .int .u8 0] g1 (w.alloc (.cells #[.string ⟨#[]⟩, .string ⟨#[]⟩, .bool false, .int .i64 0, .int .i64 0, .int .i64 0, .string ⟨#[]⟩] 23)) (w.heap.size + 1) 6 (by simp) rfl rfl (by decide) rfl
  have k2 := convAt #[.int .u8 66, .int .u8 66, .int .u8 3] b1 ((w.alloc (.cells #[.string ⟨#[]⟩, .string ⟨#[]⟩, .bool false, .int .i64 0, .int .i64 0, .int .i64 0, .string ⟨#[]⟩] 23)).alloc (.cells #[.int .u8 1, .int .u8 128, .int .u8 194, .int .u8 0, .int .u8 0, .int .u8 0] 5)) (w.heap.size + 1 + 1) 3 (by simp) rfl rfl (by decide) rfl
  obtain ⟨S, hS⟩ : ∃ S, b1 ++ inner = S := ⟨_, rfl⟩
  go_enter Tryd.func10, Tryd.ntmps10
  go_upto_region 6 with (fail)
  obtain ⟨W, hW⟩ : ∃ W, W = (((w.alloc (.cells #[.string ⟨#[]⟩, .string ⟨#[]⟩, .bool false, .int .i64 0, .int .i64 0, .int .i64 0, .string ⟨#[]⟩] 23)).alloc (.cells #[.int .u8 1, .int .u8 128, .int .u8 194, .int .u8 0, .int .u8 0, .int .u8 0] 5)).alloc (.cells #[.int .u8 66, .int .u8 66, .int .u8 3] 5)) := ⟨_, rfl⟩
  have R1 : Blk W w.heap.size ⟨#[]⟩ ⟨#[]⟩ false 0 0 0 ⟨#[]⟩ := by
    rw [hW]
    have h1 := (blk_new w ⟨#[]⟩ ⟨#[]⟩ false 0 0 0 ⟨#[]⟩).below (below_box (w.alloc (.cells #[.string ⟨#[]⟩, .string ⟨#[]⟩, .bool false, .int .i64 0, .int .i64 0, .int .i64 0, .string ⟨#[]⟩] 23)) (.cells #[.int .u8 1, .int .u8 128, .int .u8 194, .int .u8 0, .int .u8 0, .int .u8 0] 5)) (blk_new w ⟨#[]⟩ ⟨#[]⟩ false 0 0 0 ⟨#[]⟩).lt
    exact h1.below (below_box _ _) h1.lt
  have B1 : Below w.heap.size w W := by rw [hW]; exact bw_alloc (bw_alloc (below_box _ _) _) _
  rw [← hW]
  try rw [hS]
  clear hW k1 k2
  have HS := Lib.hid hS; clear hS
  by_cases hl : 1500 < S.size
  · have h := hR.out
    rw [made_S HS.out, if_pos hl] at h
    simp [zero] at h
    obtain ⟨⟨rfl, rfl, rfl, rfl, rfl, rfl, rfl⟩, rfl⟩ := h
    clear hR
    have y := R1.cells
    obtain ⟨q0, q1, q2, q3, q4, q5, q6⟩ := y
    have f0 := R1.free 0
    have f1 := R1.free 1
    have f2 := R1.free 2
    have f3 := R1.free 3
    have f4 := R1.free 4
    have f5 := R1.free 5
    have f6 := R1.free 6
    go_wp2
    exact bodyPost_ret (v := .tuple #[zero.val, .int .i64 4]) (by simp [results, Tryd.results10, go_sem, zero, q0, q1, q2, q3, q4, q5, q6]) rfl ⟨rfl, below_set7 B1 (Nat.le_refl _) _ _ _ _ _ _ _⟩
  · have hl' : S.size ≤ 1500 := by omega
    have Hl := Lib.hid hl; clear hl
    obtain ⟨r, hr⟩ : ∃ r, rightB ⟨g1, src, false, 0, 0, (S.size : Int), S⟩ = r := ⟨_, rfl⟩
    have Hr := Lib.hid hr; clear hr
    have hs2 : src.size ≤ maxLen := by unfold maxLen; omega
    have hS2 : S.size ≤ maxLen := by unfold maxLen; omega
    go_wp2_with fail
    have m2 := blk_new W g1 src false 0 0 (S.size : Int) S
    have R2 := R1.below (below_box W (.cells #[.string g1, .string src, .bool false, .int .i64 0, .int .i64 0, .int .i64 (S.size : Int), .string S] 23)) R1.lt
    have B2 := bw_alloc B1 (.cells #[.string g1, .string src, .bool false, .int .i64 0, .int .i64 0, .int .i64 (S.size : Int), .string S] 23)
    refine (rright_w g1 src false 0 0 (S.size : Int) S _ r Hr (by decide) hs2 hS2).mono ?_
    rintro e w9 ⟨rfl, hb9⟩
    have m3 := m2.below hb9 m2.lt
    have R3 := R2.below hb9 R2.lt
    have B3 := bw_trans B2 hb9
    clear m2 R2 B2 R1 B1 hb9
    have y := R3.cells
    obtain ⟨q0, q1, q2, q3, q4, q5, q6⟩ := y
    have f0 := R3.free 0
    have f1 := R3.free 1
    have f2 := R3.free 2
    have f3 := R3.free 3
    have f4 := R3.free 4
    have f5 := R3.free 5
    have f6 := R3.free 6
    cases r with
    | false =>
      have h := hR.out
      rw [made_S HS.out, if_neg Hl.out, if_neg (by rw [Hr.out]; decide)] at h
      simp [zero] at h
      obtain ⟨⟨rfl, rfl, rfl, rfl, rfl, rfl, rfl⟩, rfl⟩ := h
      clear hR
      go_wp2
      exact bodyPost_ret (v := .tuple #[zero.val, .int .i64 2]) (by simp [results, Tryd.results10, go_sem, zero, q0, q1, q2, q3, q4, q5, q6]) rfl ⟨rfl, below_set7 B3 (Nat.le_refl _) _ _ _ _ _ _ _⟩
    | true =>
      have h := hR.out
      rw [made_S HS.out, if_neg Hl.out, if_pos Hr.out] at h
      injection h with h1 h2
      injection h1 with a1 a2 a3 a4 a5 a6 a7
      subst a1 a2 a3 a4 a5 a6 a7 h2
      clear hR
      have y := m3.cells
      obtain ⟨c0, c1, c2, c3, c4, c5, c6⟩ := y
      go_wp2
      exact bodyPost_ret (v := .tuple #[fv g1 src false 0 0 (S.size : Int) S, .int .i64 0]) (by simp [results, Tryd.results10, go_sem, q0, q1, q2, q3, q4, q5, q6]) rfl ⟨rfl, below_set7 B3 (Nat.le_refl _) _ _ _ _ _ _ _⟩

set_option maxHeartbeats 1000000 in
theorem rmade_2 (src inner : ByteArray) (w : World) (fd fs : ByteArray) (ft : Bool) (fp fvl fty : Int) (fpl : ByteArray) (E : Int) (hR : Hid (madeR g2 b2 src inner = (⟨fd, fs, ft, fp, fvl, fty, fpl⟩, E))) (hs : src.size ≤ 20) (hi : inner.size ≤ 1600) :
    Calls Tryd.prog 10 #[.int .i64 2, .string src, .string inner] w fun e w' => e = .returned (.tuple #[fv fd fs ft fp fvl fty fpl, .int .i64 E]) ∧ Below w.heap.size w w' := by
  have k1 := convAt #[.int .u8 1, .int .u8 128, .int .u8 194, .int .u8 0, .int .u8 0, .int .u8 0] g1 (w.alloc (.cells #[.string ⟨#[]⟩, .string ⟨#[]⟩, .bool false, .int .i64 0, .int .i64 0, .int .i64 0, .string ⟨#[]⟩] 23)) (w.heap.size + 1) 6 (by simp) rfl rfl (by decide) rfl
  have k2 := convAt #[.int .u8 66, .int .u8 66, .int .u8 3] b1 ((w.alloc (.cells #[.string ⟨#[]⟩, .string ⟨#[]⟩, .bool false, .int .i64 0, .int .i64 0, .int .i64 0, .string ⟨#[]⟩] 23)).alloc (.cells #[.int .u8 1, .int .u8 128, .int .u8 194, .int .u8 0, .int .u8 0, .int .u8 0] 5)) (w.heap.size + 1 + 1) 3 (by simp) rfl rfl (by decide) rfl
  have k3 := convAt #[.int .u8 1, .int .u8 0, .int .u8 12, .int .u8 204, .int .u8 204, .int .u8 205] g2 (((w.alloc (.cells #[.string ⟨#[]⟩, .string ⟨#[]⟩, .bool false, .int .i64 0, .int .i64 0, .int .i64 0, .string ⟨#[]⟩] 23)).alloc (.cells #[.int .u8 1, .int .u8 128, .int .u8 194, .int .u8 0, .int .u8 0, .int .u8 0] 5)).alloc (.cells #[.int .u8 66, .int .u8 66, .int .u8 3] 5)) (w.heap.size + 1 + 1 + 1) 6 (by simp) rfl rfl (by decide) rfl
  have k4 := convAt #[.int .u8 0, .int .u8 0, .int .u8 12] c3b ((((w.alloc (.cells #[.string ⟨#[]⟩, .string ⟨#[]⟩, .bool false, .int .i64 0, .int .i64 0, .int .i64 0, .string ⟨#[]⟩] 23)).alloc (.cells #[.int .u8 1, .int .u8 128, .int .u8 194, .int .u8 0, .int .u8 0, .int .u8 0] 5)).alloc (.cells #[.int .u8 66, .int .u8 66, .int .u8 3] 5)).alloc (.cells #[.int .u8 1, .int .u8 0, .int .u8 12, .int .u8 204, .int .u8 204, .int .u8 205] 5)) (w.heap.size + 1 + 1 + 1 + 1) 3 (by simp) rfl rfl (by decide) rfl
  have hsn : snapR c3b 267 inner = (b2 ++ inner, 0) := by
    unfold snapR
    rw [if_neg (by decide), if_neg (by decide), snap_b2]
  obtain ⟨S, hS⟩ : ∃ S, b2 ++ inner = S := ⟨_, rfl⟩
  rw [hS] at hsn
  have HN := Lib.hid hsn; clear hsn
  go_enter Tryd.func10, Tryd.ntmps10
  go_wp2_with fail
  have R0 : Blk (((((w.alloc (.cells #[.string ⟨#[]⟩, .string ⟨#[]⟩, .bool false, .int .i64 0, .int .i64 0, .int .i64 0, .string ⟨#[]⟩] 23)).alloc (.cells #[.int .u8 1, .int .u8 128, .int .u8 194, .int .u8 0, .int .u8 0, .int .u8 0] 5)).alloc (.cells #[.int .u8 66, .int .u8 66, .int .u8 3] 5)).alloc (.cells #[.int .u8 1, .int .u8 0, .int .u8 12, .int .u8 204, .int .u8 204, .int .u8 205] 5)).alloc (.cells #[.int .u8 0, .int .u8 0, .int .u8 12] 5)) w.heap.size ⟨#[]⟩ ⟨#[]⟩ false 0 0 0 ⟨#[]⟩ := by
    have h0 := blk_new w ⟨#[]⟩ ⟨#[]⟩ false 0 0 0 ⟨#[]⟩
    have h1 := h0.below (below_box (w.alloc (.cells #[.string ⟨#[]⟩, .string ⟨#[]⟩, .bool false, .int .i64 0, .int .i64 0, .int .i64 0, .string ⟨#[]⟩] 23)) (.cells #[.int .u8 1, .int .u8 128, .int .u8 194, .int .u8 0, .int .u8 0, .int .u8 0] 5)) h0.lt
    have h2 := h1.below (below_box ((w.alloc (.cells #[.string ⟨#[]⟩, .string ⟨#[]⟩, .bool false, .int .i64 0, .int .i64 0, .int .i64 0, .string ⟨#[]⟩] 23)).alloc (.cells #[.int .u8 1, .int .u8 128, .int .u8 194, .int .u8 0, .int .u8 0, .int .u8 0] 5)) (.cells #[.int .u8 66, .int .u8 66, .int .u8 3] 5)) h1.lt
    have h3 := h2.below (below_box (((w.alloc (.cells #[.string ⟨#[]⟩, .string ⟨#[]⟩, .bool false, .int .i64 0, .int .i64 0, .int .i64 0, .string ⟨#[]⟩] 23)).alloc (.cells #[.int .u8 1, .int .u8 128, .int .u8 194, .int .u8 0, .int .u8 0, .int .u8 0] 5)).alloc (.cells #[.int .u8 66, .int .u8 66, .int .u8 3] 5)) (.cells #[.int .u8 1, .int .u8 0, .int .u8 12, .int .u8 204, .int .u8 204, .int .u8 205] 5)) h2.lt
    exact h3.below (below_box _ _) h3.lt
  have B0 : Below w.heap.size w (((((w.alloc (.cells #[.string ⟨#[]⟩, .string ⟨#[]⟩, .bool false, .int .i64 0, .int .i64 0, .int .i64 0, .string ⟨#[]⟩] 23)).alloc (.cells #[.int .u8 1, .int .u8 128, .int .u8 194, .int .u8 0, .int .u8 0, .int .u8 0] 5)).alloc (.cells #[.int .u8 66, .int .u8 66, .int .u8 3] 5)).alloc (.cells #[.int .u8 1, .int .u8 0, .int .u8 12, .int .u8 204, .int .u8 204, .int .u8 205] 5)).alloc (.cells #[.int .u8 0, .int .u8 0, .int .u8 12] 5)) := bw_alloc (bw_alloc (bw_alloc (bw_alloc (below_box _ _) _) _) _) _
  refine (rsnap_w c3b 267 inner _ S 0 HN (by decide) hi).mono ?_
  rintro e W ⟨rfl, hbW⟩
  have R1 := R0.below hbW R0.lt
  have B1 := bw_trans B0 hbW
  clear hbW R0 B0 k1 k2 k3 k4 HN
  have HS := Lib.hid hS; clear hS
  by_cases hl : 1500 < S.size
  · have h := hR.out
    rw [made_S HS.out, if_pos hl] at h
    simp [zero] at h
    obtain ⟨⟨rfl, rfl, rfl, rfl, rfl, rfl, rfl⟩, rfl⟩ := h
    clear hR
    have y := R1.cells
    obtain ⟨q0, q1, q2, q3, q4, q5, q6⟩ := y
    have f0 := R1.free 0
    have f1 := R1.free 1
    have f2 := R1.free 2
    have f3 := R1.free 3
    have f4 := R1.free 4
    have f5 := R1.free 5
    have f6 := R1.free 6
    go_wp2
    exact bodyPost_ret (v := .tuple #[zero.val, .int .i64 4]) (by simp [results, Tryd.results10, go_sem, zero, q0, q1, q2, q3, q4, q5, q6]) rfl ⟨rfl, below_set7 B1 (Nat.le_refl _) _ _ _ _ _ _ _⟩
  · have hl' : S.size ≤ 1500 := by omega
    have Hl := Lib.hid hl; clear hl
    obtain ⟨r, hr⟩ : ∃ r, rightB ⟨g2, src, false, 0, 0, (S.size : Int), S⟩ = r := ⟨_, rfl⟩
    have Hr := Lib.hid hr; clear hr
    have hs2 : src.size ≤ maxLen := by unfold maxLen; omega
    have hS2 : S.size ≤ maxLen := by unfold maxLen; omega
    go_wp2_with fail
    have m2 := blk_new W g2 src false 0 0 (S.size : Int) S
    have R2 := R1.below (below_box W (.cells #[.string g2, .string src, .bool false, .int .i64 0, .int .i64 0, .int .i64 (S.size : Int), .string S] 23)) R1.lt
    have B2 := bw_alloc B1 (.cells #[.string g2, .string src, .bool false, .int .i64 0, .int .i64 0, .int .i64 (S.size : Int), .string S] 23)
    refine (rright_w g2 src false 0 0 (S.size : Int) S _ r Hr (by decide) hs2 hS2).mono ?_
    rintro e w9 ⟨rfl, hb9⟩
    have m3 := m2.below hb9 m2.lt
    have R3 := R2.below hb9 R2.lt
    have B3 := bw_trans B2 hb9
    clear m2 R2 B2 R1 B1 hb9
    have y := R3.cells
    obtain ⟨q0, q1, q2, q3, q4, q5, q6⟩ := y
    have f0 := R3.free 0
    have f1 := R3.free 1
    have f2 := R3.free 2
    have f3 := R3.free 3
    have f4 := R3.free 4
    have f5 := R3.free 5
    have f6 := R3.free 6
    cases r with
    | false =>
      have h := hR.out
      rw [made_S HS.out, if_neg Hl.out, if_neg (by rw [Hr.out]; decide)] at h
      simp [zero] at h
      obtain ⟨⟨rfl, rfl, rfl, rfl, rfl, rfl, rfl⟩, rfl⟩ := h
      clear hR
      go_wp2
      exact bodyPost_ret (v := .tuple #[zero.val, .int .i64 2]) (by simp [results, Tryd.results10, go_sem, zero, q0, q1, q2, q3, q4, q5, q6]) rfl ⟨rfl, below_set7 B3 (Nat.le_refl _) _ _ _ _ _ _ _⟩
    | true =>
      have h := hR.out
      rw [made_S HS.out, if_neg Hl.out, if_pos Hr.out] at h
      injection h with h1 h2
      injection h1 with a1 a2 a3 a4 a5 a6 a7
      subst a1 a2 a3 a4 a5 a6 a7 h2
      clear hR
      have y := m3.cells
      obtain ⟨c0, c1, c2, c3, c4, c5, c6⟩ := y
      go_wp2
      exact bodyPost_ret (v := .tuple #[fv g2 src false 0 0 (S.size : Int) S, .int .i64 0]) (by simp [results, Tryd.results10, go_sem, q0, q1, q2, q3, q4, q5, q6]) rfl ⟨rfl, below_set7 B3 (Nat.le_refl _) _ _ _ _ _ _ _⟩
end Go.Proofs.YtledabmmomgkoaaDoor
