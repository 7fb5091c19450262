/-
  Walks of layer 6: Without; In, the document's In.
-/
import Derived.Test.YtjabbbaiboaicaaPoB
namespace Go.Proofs.Ytjabbbaiboaicaa
set_option linter.unusedVariables false
set_option linter.unusedSimpArgs false
open Go.RowKit Fm Pm

set_option maxHeartbeats 1000000 in
theorem without_any (d s : ByteArray) (t : Bool) (p v ty : Int) (pl : ByteArray) (w : World) (F : Fr) (E : Int) (hd : d.size ≤ maxLen) (hs : s.size ≤ maxLen) (hp : pl.size ≤ maxLen)
    (h2 : Hid (rightB ⟨d, s, t, p, v, ty, pl⟩ = false → F = zero ∧ E = 2))
    (h0 : Hid (rightB ⟨d, s, t, p, v, ty, pl⟩ = true → F = ⟨d, s, false, 0, 0, ty, pl⟩ ∧ E = 0)) :
    Calls Try.prog 26 #[fv d s t p v ty pl] w fun e w' => e = .returned (.tuple #[F.val, .int .i64 E]) ∧ Below w.heap.size w w' := by
  go_enter Try.func26, Try.ntmps26
  go_wp2_with fail
  refine (right_any _ _ _ _ _ _ _ _ hd hs hp).mono ?_
  rintro e w1 ⟨rfl, hb1⟩
  have Q := blk_two w d s t p v ty pl ⟨#[]⟩ ⟨#[]⟩ false 0 0 0 ⟨#[]⟩
  have k1 := Q.1.below hb1 Q.1.lt
  have R1 := Q.2.below hb1 Q.2.lt
  have B1 := bw_trans (bw_alloc (below_box w _) _) hb1
  clear hb1 Q
  have y := R1.cells
  obtain ⟨q0, q1, q2, q3, q4, q5, q6⟩ := y
  have f0 := R1.free 0
  have f1 := R1.free 1
  have f2 := R1.free 2
  have f3 := R1.free 3
  have f4 := R1.free 4
  have f5 := R1.free 5
  have f6 := R1.free 6
  cases hr : rightB ⟨d, s, t, p, v, ty, pl⟩ with
  | false =>
    obtain ⟨rfl, rfl⟩ := h2.out hr
    clear h0 h2 hr
    go_wp2
    exact bodyPost_ret (v := .tuple #[zero.val, .int .i64 2]) (by simp [results, Try.results26, go_sem, zero, q0, q1, q2, q3, q4, q5, q6]) rfl ⟨rfl, below_set7 B1 (Nat.le_succ _) _ _ _ _ _ _ _⟩
  | true =>
    obtain ⟨rfl, rfl⟩ := h0.out hr
    clear h0 h2 hr
    have y := k1.cells
    obtain ⟨c0, c1, c2, c3, c4, c5, c6⟩ := y
    have g2 := k1.free 2
    have g3 := k1.free 3
    have g4 := k1.free 4
    go_wp2
    exact bodyPost_ret (v := .tuple #[fv d s false 0 0 ty pl, .int .i64 0]) (by simp [results, Try.results26, go_sem, q0, q1, q2, q3, q4, q5, q6]) rfl ⟨rfl, below_set7 (((B1.setCell (Nat.le_refl _) _).setCell (Nat.le_refl _) _).setCell (Nat.le_refl _) _) (Nat.le_succ _) _ _ _ _ _ _ _⟩

theorem without_R (d s : ByteArray) (t : Bool) (p v ty : Int) (pl : ByteArray) (w : World) (hd : d.size ≤ maxLen) (hs : s.size ≤ maxLen) (hp : pl.size ≤ maxLen) :
    Calls Try.prog 26 #[fv d s t p v ty pl] w fun e w' => e = .returned (.tuple #[(withoutR ⟨d, s, t, p, v, ty, pl⟩).1.val, .int .i64 (withoutR ⟨d, s, t, p, v, ty, pl⟩).2]) ∧ Below w.heap.size w w' := by
  refine without_any d s t p v ty pl w _ _ hd hs hp ?_ ?_
  · intro h; simp [withoutR, h]
  · intro h; simp [withoutR, h]

theorem ret_pair {a b K E : Int} (h1 : a = K) (h2 : b = E) : Ending.returned (.tuple #[.int .i64 a, .int .i64 b]) = .returned (.tuple #[.int .i64 K, .int .i64 E]) := by rw [h1, h2]
theorem fblk_new (T : TypeId) (hT : T = 26) (w : World) (d s : ByteArray) (t : Bool) (p v ty : Int) (pl : ByteArray) :
    Blk (w.alloc (.cells #[.string d, .string s, .bool t, .int .i64 p, .int .i64 v, .int .i64 ty, .string pl] T)) w.heap.size d s t p v ty pl := by subst hT; exact heap_alloc_new w _
theorem size_box (w : World) (o : Obj) : (w.alloc o).heap.size = w.heap.size + 1 := by simp
theorem Blk.next {w w' : World} {b : Nat} {d s : ByteArray} {t : Bool} {p v ty : Int} {pl : ByteArray} (h : Blk w b d s t p v ty pl) (hb : Below w.heap.size w w') : Blk w' b d s t p v ty pl := h.below hb h.lt

/-- A set-up's block, and a frame's behind it. -/
theorem two_boxes (T : TypeId) (w : World) (t : Bool) (n : Int) (a : Option Addr) (len cap : Nat) (l : List Int) (d s : ByteArray) (ft : Bool) (p v ty : Int) (pl : ByteArray) (h : IsRow w a len l) :
    ∃ W : World, W = (w.alloc (.cells #[.bool t, .int .i64 n, .slice a len cap] T)).alloc (.cells #[.string d, .string s, .bool ft, .int .i64 p, .int .i64 v, .int .i64 ty, .string pl] 26) ∧
      PBlk T W w.heap.size t n a len cap ∧ Blk W (w.heap.size + 1) d s ft p v ty pl ∧ IsRow W a len l ∧ Below w.heap.size w W := by
  have PB := pblk_new T w t n a len cap
  have BB := below_box w (.cells #[.bool t, .int .i64 n, .slice a len cap] T)
  have hI := h.next BB
  have e := size_box w (.cells #[.bool t, .int .i64 n, .slice a len cap] T)
  have FB := blk_new (w.alloc (.cells #[.bool t, .int .i64 n, .slice a len cap] T)) d s ft p v ty pl
  have B2 := below_box (w.alloc (.cells #[.bool t, .int .i64 n, .slice a len cap] T)) (.cells #[.string d, .string s, .bool ft, .int .i64 p, .int .i64 v, .int .i64 ty, .string pl] 26)
  rw [e] at FB
  exact ⟨_, rfl, PB.next B2, FB, hI.next B2, bw_trans BB B2⟩

set_option maxHeartbeats 2000000 in
theorem in_w (t : Bool) (n : Int) (a : Option Addr) (len cap : Nat) (l : List Int) (d s : ByteArray) (ft : Bool) (p v ty : Int) (pl : ByteArray) (w : World) (V E : Int) (h : IsRow w a len l) (hd : d.size ≤ maxLen) (hs : s.size ≤ maxLen) (hp' : pl.size ≤ maxLen)
    (hX : Hid (inP ⟨t, n, l⟩ ⟨d, s, ft, p, v, ty, pl⟩ = (V, E))) :
    Calls Try.prog 11 #[pv t n a len cap, fv d s ft p v ty pl] w fun e w' => e = .returned (.tuple #[.int .i64 V, .int .i64 E]) ∧ Below w.heap.size w w' := by
  obtain ⟨W, hW, PB, FB, hI, BB⟩ := two_boxes 24 w t n a len cap l d s ft p v ty pl h
  clear h
  go_enter Try.func11, Try.ntmps11
  go_upto_region 1 with (fail)
  rw [← hW]
  obtain ⟨b, hb⟩ : ∃ b, b = w.heap.size := ⟨_, rfl⟩
  rw [← hb] at PB FB ⊢
  clear hW hb
  have kk := PB.cells
  obtain ⟨k0, k1, k2⟩ := kk
  have kk := FB.cells
  obtain ⟨c0, c1, c2, c3, c4, c5, c6⟩ := kk
  go_wp2_with fail
  have hpw := portRight_any t n a len cap l _ hI
  refine hpw.mono ?_
  clear hpw
  rintro e w1 ⟨rfl, hb1⟩
  replace hI := hI.next hb1
  replace PB := PB.next hb1
  replace FB := FB.next hb1
  replace BB := bw_trans BB hb1
  clear hb1 k0 k1 k2 c0 c1 c2 c3 c4 c5 c6
  have kk := PB.cells
  obtain ⟨k0, k1, k2⟩ := kk
  have kk := FB.cells
  obtain ⟨c0, c1, c2, c3, c4, c5, c6⟩ := kk
  cases hp : portB ⟨t, n, l⟩ with
  | false =>
    have hY : inP ⟨t, n, l⟩ ⟨d, s, ft, p, v, ty, pl⟩ = (0, 2) := by unfold inP; rw [hp]; rfl
    have e := hX.out.symm.trans hY
    simp only [Prod.mk.injEq] at e
    obtain ⟨rfl, rfl⟩ := e
    have HB := Lib.hid BB
    clear hX hY hp
    go_wp2
    go_ret2
    exact ⟨rfl, HB.out⟩
  | true =>
    go_wp2_with fail
    have hpw := right_any d s ft p v ty pl w1 hd hs hp'
    refine hpw.mono ?_
    clear hpw
    rintro e w2 ⟨rfl, hb1⟩
    replace hI := hI.next hb1
    replace PB := PB.next hb1
    replace FB := FB.next hb1
    replace BB := bw_trans BB hb1
    clear hb1 k0 k1 k2 c0 c1 c2 c3 c4 c5 c6
    have kk := PB.cells
    obtain ⟨k0, k1, k2⟩ := kk
    have kk := FB.cells
    obtain ⟨c0, c1, c2, c3, c4, c5, c6⟩ := kk
    have HB := Lib.hid BB
    have HI := Lib.hid hI
    clear BB hI PB FB
    cases hr : rightB ⟨d, s, ft, p, v, ty, pl⟩ with
    | false =>
      have hY : inP ⟨t, n, l⟩ ⟨d, s, ft, p, v, ty, pl⟩ = (0, 2) := by unfold inP; rw [hp, hr]; rfl
      have e := hX.out.symm.trans hY
      simp only [Prod.mk.injEq] at e
      obtain ⟨rfl, rfl⟩ := e
      clear hX hY hp hr
      go_wp2
      go_ret2
      exact ⟨rfl, HB.out⟩
    | true =>
      have HY : Hid (inP ⟨t, n, l⟩ ⟨d, s, ft, p, v, ty, pl⟩ = (if v = 0 then (if hasB ⟨t, n, l⟩ n then (n, 0) else (0, 5)) else if t then (if hasB ⟨t, n, l⟩ v then (v, 0) else (0, 5)) else (0, 5))) := by refine Lib.hid ?_; unfold inP; rw [hp, hr]; rfl
      clear hp hr
      by_cases hv : v = 0
      · subst hv
        go_wp2_with fail
        have hpw := has_any t n a len cap l n _ HI.out
        refine hpw.mono ?_
        clear hpw
        rintro e w3 ⟨rfl, hb2⟩
        cases hh : hasB ⟨t, n, l⟩ n with
        | false =>
          have hY : inP ⟨t, n, l⟩ ⟨d, s, ft, p, 0, ty, pl⟩ = (0, 5) := by rw [HY.out, hh]; rfl
          have e := hX.out.symm.trans hY
          simp only [Prod.mk.injEq] at e
          obtain ⟨rfl, rfl⟩ := e
          clear hX hY hh HY
          go_wp2
          go_ret2
          exact ⟨rfl, bw_trans HB.out hb2⟩
        | true =>
          have hY : inP ⟨t, n, l⟩ ⟨d, s, ft, p, 0, ty, pl⟩ = (n, 0) := by rw [HY.out, hh]; rfl
          have e := hX.out.symm.trans hY
          simp only [Prod.mk.injEq] at e
          obtain ⟨rfl, rfl⟩ := e
          clear hX hY hh HY
          go_wp2
          go_ret2
          exact ⟨rfl, bw_trans HB.out hb2⟩
      · have hv0 : (v == 0) = false := by simpa using hv
        have hv1 : (v != 0) = true := by simpa using hv
        cases t with
        | false =>
          have hY : inP ⟨false, n, l⟩ ⟨d, s, ft, p, v, ty, pl⟩ = (0, 5) := by rw [HY.out, if_neg hv]; rfl
          have e := hX.out.symm.trans hY
          simp only [Prod.mk.injEq] at e
          obtain ⟨rfl, rfl⟩ := e
          clear hX hY HY hv
          go_wp2
          go_ret2
          exact ⟨rfl, HB.out⟩
        | true =>
          go_wp2_with fail
          have hpw := has_any true n a len cap l v _ HI.out
          refine hpw.mono ?_
          clear hpw
          rintro e w3 ⟨rfl, hb2⟩
          cases hh : hasB ⟨true, n, l⟩ v with
          | false =>
            have hY : inP ⟨true, n, l⟩ ⟨d, s, ft, p, v, ty, pl⟩ = (0, 5) := by rw [HY.out, hh, if_neg hv]; rfl
            have e := hX.out.symm.trans hY
            simp only [Prod.mk.injEq] at e
            obtain ⟨rfl, rfl⟩ := e
            clear hX hY hh HY hv
            go_wp2
            go_ret2
            exact ⟨rfl, bw_trans HB.out hb2⟩
          | true =>
            have hY : inP ⟨true, n, l⟩ ⟨d, s, ft, p, v, ty, pl⟩ = (v, 0) := by rw [HY.out, hh, if_neg hv]; rfl
            have e := hX.out.symm.trans hY
            simp only [Prod.mk.injEq] at e
            obtain ⟨rfl, rfl⟩ := e
            clear hX hY hh HY hv
            go_wp2
            go_ret2
            exact ⟨rfl, bw_trans HB.out hb2⟩

set_option maxHeartbeats 2000000 in
theorem rin_w (t : Bool) (n : Int) (a : Option Addr) (len cap : Nat) (l : List Int) (d s : ByteArray) (ft : Bool) (p v ty : Int) (pl : ByteArray) (w : World) (V E : Int) (h : IsRow w a len l) (hd : d.size ≤ maxLen) (hs : s.size ≤ maxLen) (hp' : pl.size ≤ maxLen)
    (hX : Hid (inP ⟨t, n, l⟩ ⟨d, s, ft, p, v, ty, pl⟩ = (V, E))) :
    Calls Try.prog 12 #[pv t n a len cap, fv d s ft p v ty pl] w fun e w' => e = .returned (.tuple #[.int .i64 V, .int .i64 E]) ∧ Below w.heap.size w w' := by
  obtain ⟨W, hW, PB, FB, hI, BB⟩ := two_boxes 29 w t n a len cap l d s ft p v ty pl h
  clear h
  go_enter Try.func12, Try.ntmps12
  go_upto_region 1 with (fail)
  rw [← hW]
  obtain ⟨b, hb⟩ : ∃ b, b = w.heap.size := ⟨_, rfl⟩
  rw [← hb] at PB FB ⊢
  clear hW hb
  have kk := PB.cells
  obtain ⟨k0, k1, k2⟩ := kk
  have kk := FB.cells
  obtain ⟨c0, c1, c2, c3, c4, c5, c6⟩ := kk
  go_wp2_with fail
  have hpw := rportRight_any t n a len cap l _ hI
  refine hpw.mono ?_
  clear hpw
  rintro e w1 ⟨rfl, hb1⟩
  replace hI := hI.next hb1
  replace PB := PB.next hb1
  replace FB := FB.next hb1
  replace BB := bw_trans BB hb1
  clear hb1 k0 k1 k2 c0 c1 c2 c3 c4 c5 c6
  have kk := PB.cells
  obtain ⟨k0, k1, k2⟩ := kk
  have kk := FB.cells
  obtain ⟨c0, c1, c2, c3, c4, c5, c6⟩ := kk
  cases hp : portB ⟨t, n, l⟩ with
  | false =>
    have hY : inP ⟨t, n, l⟩ ⟨d, s, ft, p, v, ty, pl⟩ = (0, 2) := by unfold inP; rw [hp]; rfl
    have e := hX.out.symm.trans hY
    simp only [Prod.mk.injEq] at e
    obtain ⟨rfl, rfl⟩ := e
    have HB := Lib.hid BB
    clear hX hY hp
    go_wp2
    go_ret2
    exact ⟨rfl, HB.out⟩
  | true =>
    go_wp2_with fail
    have hpw := rright_any d s ft p v ty pl w1 hd hs hp'
    refine hpw.mono ?_
    clear hpw
    rintro e w2 ⟨rfl, hb1⟩
    replace hI := hI.next hb1
    replace PB := PB.next hb1
    replace FB := FB.next hb1
    replace BB := bw_trans BB hb1
    clear hb1 k0 k1 k2 c0 c1 c2 c3 c4 c5 c6
    have kk := PB.cells
    obtain ⟨k0, k1, k2⟩ := kk
    have kk := FB.cells
    obtain ⟨c0, c1, c2, c3, c4, c5, c6⟩ := kk
    have HB := Lib.hid BB
    have HI := Lib.hid hI
    clear BB hI PB FB
    cases hr : rightB ⟨d, s, ft, p, v, ty, pl⟩ with
    | false =>
      have hY : inP ⟨t, n, l⟩ ⟨d, s, ft, p, v, ty, pl⟩ = (0, 2) := by unfold inP; rw [hp, hr]; rfl
      have e := hX.out.symm.trans hY
      simp only [Prod.mk.injEq] at e
      obtain ⟨rfl, rfl⟩ := e
      clear hX hY hp hr
      go_wp2
      go_ret2
      exact ⟨rfl, HB.out⟩
    | true =>
      have HY : Hid (inP ⟨t, n, l⟩ ⟨d, s, ft, p, v, ty, pl⟩ = (if v = 0 then (if hasB ⟨t, n, l⟩ n then (n, 0) else (0, 5)) else if t then (if hasB ⟨t, n, l⟩ v then (v, 0) else (0, 5)) else (0, 5))) := by refine Lib.hid ?_; unfold inP; rw [hp, hr]; rfl
      clear hp hr
      by_cases hv : v = 0
      · subst hv
        go_wp2_with fail
        have hpw := rhas_any t n a len cap l n _ HI.out
        refine hpw.mono ?_
        clear hpw
        rintro e w3 ⟨rfl, hb2⟩
        cases hh : hasB ⟨t, n, l⟩ n with
        | false =>
          have hY : inP ⟨t, n, l⟩ ⟨d, s, ft, p, 0, ty, pl⟩ = (0, 5) := by rw [HY.out, hh]; rfl
          have e := hX.out.symm.trans hY
          simp only [Prod.mk.injEq] at e
          obtain ⟨rfl, rfl⟩ := e
          clear hX hY hh HY
          go_wp2
          go_ret2
          exact ⟨rfl, bw_trans HB.out hb2⟩
        | true =>
          have hY : inP ⟨t, n, l⟩ ⟨d, s, ft, p, 0, ty, pl⟩ = (n, 0) := by rw [HY.out, hh]; rfl
          have e := hX.out.symm.trans hY
          simp only [Prod.mk.injEq] at e
          obtain ⟨rfl, rfl⟩ := e
          clear hX hY hh HY
          go_wp2
          go_ret2
          exact ⟨rfl, bw_trans HB.out hb2⟩
      · have hv0 : (v == 0) = false := by simpa using hv
        have hv1 : (v != 0) = true := by simpa using hv
        cases t with
        | false =>
          have hY : inP ⟨false, n, l⟩ ⟨d, s, ft, p, v, ty, pl⟩ = (0, 5) := by rw [HY.out, if_neg hv]; rfl
          have e := hX.out.symm.trans hY
          simp only [Prod.mk.injEq] at e
          obtain ⟨rfl, rfl⟩ := e
          clear hX hY HY hv
          go_wp2
          go_ret2
          exact ⟨rfl, HB.out⟩
        | true =>
          go_wp2_with fail
          have hpw := rhas_any true n a len cap l v _ HI.out
          refine hpw.mono ?_
          clear hpw
          rintro e w3 ⟨rfl, hb2⟩
          cases hh : hasB ⟨true, n, l⟩ v with
          | false =>
            have hY : inP ⟨true, n, l⟩ ⟨d, s, ft, p, v, ty, pl⟩ = (0, 5) := by rw [HY.out, hh, if_neg hv]; rfl
            have e := hX.out.symm.trans hY
            simp only [Prod.mk.injEq] at e
            obtain ⟨rfl, rfl⟩ := e
            clear hX hY hh HY hv
            go_wp2
            go_ret2
            exact ⟨rfl, bw_trans HB.out hb2⟩
          | true =>
            have hY : inP ⟨true, n, l⟩ ⟨d, s, ft, p, v, ty, pl⟩ = (v, 0) := by rw [HY.out, hh, if_neg hv]; rfl
            have e := hX.out.symm.trans hY
            simp only [Prod.mk.injEq] at e
            obtain ⟨rfl, rfl⟩ := e
            clear hX hY hh HY hv
            go_wp2
            go_ret2
            exact ⟨rfl, bw_trans HB.out hb2⟩
end Go.Proofs.Ytjabbbaiboaicaa
