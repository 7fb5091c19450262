/-
  Walks of layer 6: Out, the document's Out. (Printed by gen_po.py.)
-/
import Derived.Test.YtjabbbaiboaicaaPoC
namespace Go.Proofs.Ytjabbbaiboaicaa
set_option linter.unusedVariables false
set_option linter.unusedSimpArgs false
open Go.RowKit Fm Pm

theorem has_vlan {t : Bool} {n : Int} {l : List Int} {v : Int} (h : hasB ⟨t, n, l⟩ v = true) : 1 ≤ v ∧ v ≤ 4094 := by
  unfold hasB at h
  rw [Bool.and_eq_true] at h
  obtain ⟨h1, h2⟩ := h
  obtain ⟨a1, a2, a3, a4, a5⟩ := port_parts h1
  cases t with
  | false => simp at h2; omega
  | true => simp at h2; exact a5 v h2

/-- A set-up's block, a frame's behind it, and an empty frame's behind both. -/
theorem three_boxes (T : TypeId) (w : World) (t : Bool) (n : Int) (a : Option Addr) (len cap : Nat) (l : List Int) (d s : ByteArray) (ft : Bool) (p v ty : Int) (pl : ByteArray) (h : IsRow w a len l) :
    ∃ W : World, W = ((w.alloc (.cells #[.bool t, .int .i64 n, .slice a len cap] T)).alloc (.cells #[.string d, .string s, .bool ft, .int .i64 p, .int .i64 v, .int .i64 ty, .string pl] 26)).alloc (.cells #[.string ⟨#[]⟩, .string ⟨#[]⟩, .bool false, .int .i64 0, .int .i64 0, .int .i64 0, .string ⟨#[]⟩] 26) ∧
      PBlk T W w.heap.size t n a len cap ∧ Blk W (w.heap.size + 1) d s ft p v ty pl ∧ Blk W (w.heap.size + 2) ⟨#[]⟩ ⟨#[]⟩ false 0 0 0 ⟨#[]⟩ ∧ IsRow W a len l ∧ Below w.heap.size w W := by
  obtain ⟨W, hW, PB, FB, hI, BB⟩ := two_boxes T w t n a len cap l d s ft p v ty pl h
  have e : W.heap.size = w.heap.size + 2 := by rw [hW, size_box, size_box]
  have B2 := below_box W (.cells #[.string ⟨#[]⟩, .string ⟨#[]⟩, .bool false, .int .i64 0, .int .i64 0, .int .i64 0, .string ⟨#[]⟩] 26)
  have RB := blk_new W ⟨#[]⟩ ⟨#[]⟩ false 0 0 0 ⟨#[]⟩
  rw [e] at RB
  exact ⟨_, by rw [← hW], PB.next B2, FB.next B2, RB, hI.next B2, bw_trans BB B2⟩

set_option maxHeartbeats 2000000 in
theorem out_w (t : Bool) (n : Int) (a : Option Addr) (len cap : Nat) (l : List Int) (d s : ByteArray) (ft : Bool) (p v ty : Int) (pl : ByteArray) (vl : Int) (w : World) (F : Fr) (E : Int) (h : IsRow w a len l) (hd : d.size ≤ maxLen) (hs : s.size ≤ maxLen) (hp' : pl.size ≤ maxLen)
    (hX : Hid (outP ⟨t, n, l⟩ ⟨d, s, ft, p, v, ty, pl⟩ vl = (F, E))) :
    Calls Try.prog 13 #[pv t n a len cap, fv d s ft p v ty pl, .int .i64 vl] w fun e w' => e = .returned (.tuple #[F.val, .int .i64 E]) ∧ Below w.heap.size w w' := by
  obtain ⟨W, hW, PB, FB, RB, hI, BB⟩ := three_boxes 24 w t n a len cap l d s ft p v ty pl h
  clear h
  go_enter Try.func13, Try.ntmps13
  go_upto_region 1 with (fail)
  rw [← hW]
  obtain ⟨b, hb⟩ : ∃ b, b = w.heap.size := ⟨_, rfl⟩
  have L1 : w.heap.size ≤ b + 1 := by omega
  have L2 : w.heap.size ≤ b + 2 := by omega
  rw [← hb] at PB FB RB ⊢
  clear hW hb
  have kk := PB.cells
  obtain ⟨k0, k1, k2⟩ := kk
  have kk := FB.cells
  obtain ⟨c0, c1, c2, c3, c4, c5, c6⟩ := kk
  go_wp2_with fail
  have hpw := portRight_any t n a len cap l _ hI
  refine hpw.mono ?_
  clear hpw
  rintro e w1 ⟨rfl, hb1⟩
  replace hI := hI.next hb1
  replace PB := PB.next hb1
  replace FB := FB.next hb1
  replace RB := RB.next hb1
  replace BB := bw_trans BB hb1
  clear hb1 k0 k1 k2 c0 c1 c2 c3 c4 c5 c6
  have kk := PB.cells
  obtain ⟨k0, k1, k2⟩ := kk
  have kk := FB.cells
  obtain ⟨c0, c1, c2, c3, c4, c5, c6⟩ := kk
  cases hp : portB ⟨t, n, l⟩ with
  | false =>
    have hY : outP ⟨t, n, l⟩ ⟨d, s, ft, p, v, ty, pl⟩ vl = (zero, 2) := by unfold outP; rw [hp]; rfl
    have e := hX.out.symm.trans hY
    simp only [Prod.mk.injEq] at e
    obtain ⟨rfl, rfl⟩ := e
    have kk := RB.cells
    obtain ⟨q0, q1, q2, q3, q4, q5, q6⟩ := kk
    have f0 := RB.free 0
    have f1 := RB.free 1
    have f2 := RB.free 2
    have f3 := RB.free 3
    have f4 := RB.free 4
    have f5 := RB.free 5
    have f6 := RB.free 6
    have HB := Lib.hid BB
    clear BB hX hY hp
    go_wp2
    exact bodyPost_ret (v := .tuple #[zero.val, .int .i64 2]) (by simp [results, Try.results13, go_sem, zero, q0, q1, q2, q3, q4, q5, q6]) rfl ⟨rfl, below_set7 HB.out L2 _ _ _ _ _ _ _⟩
  | true =>
    go_wp2_with fail
    have hpw := right_any d s ft p v ty pl w1 hd hs hp'
    refine hpw.mono ?_
    clear hpw
    rintro e w2 ⟨rfl, hb1⟩
    replace hI := hI.next hb1
    replace PB := PB.next hb1
    replace FB := FB.next hb1
    replace RB := RB.next hb1
    replace BB := bw_trans BB hb1
    clear hb1 k0 k1 k2 c0 c1 c2 c3 c4 c5 c6
    have kk := PB.cells
    obtain ⟨k0, k1, k2⟩ := kk
    have kk := FB.cells
    obtain ⟨c0, c1, c2, c3, c4, c5, c6⟩ := kk
    cases hr : rightB ⟨d, s, ft, p, v, ty, pl⟩ with
    | false =>
      have hY : outP ⟨t, n, l⟩ ⟨d, s, ft, p, v, ty, pl⟩ vl = (zero, 2) := by unfold outP; rw [hp, hr]; rfl
      have e := hX.out.symm.trans hY
      simp only [Prod.mk.injEq] at e
      obtain ⟨rfl, rfl⟩ := e
      have kk := RB.cells
      obtain ⟨q0, q1, q2, q3, q4, q5, q6⟩ := kk
      have f0 := RB.free 0
      have f1 := RB.free 1
      have f2 := RB.free 2
      have f3 := RB.free 3
      have f4 := RB.free 4
      have f5 := RB.free 5
      have f6 := RB.free 6
      have HB := Lib.hid BB
      clear BB hX hY hp hr
      go_wp2
      exact bodyPost_ret (v := .tuple #[zero.val, .int .i64 2]) (by simp [results, Try.results13, go_sem, zero, q0, q1, q2, q3, q4, q5, q6]) rfl ⟨rfl, below_set7 HB.out L2 _ _ _ _ _ _ _⟩
    | true =>
      have HY : Hid (outP ⟨t, n, l⟩ ⟨d, s, ft, p, v, ty, pl⟩ vl = (if hasB ⟨t, n, l⟩ vl then (if vl = n then (⟨d, s, false, 0, 0, ty, pl⟩, 0) else (⟨d, s, true, p, vl, ty, pl⟩, 0)) else (zero, 5))) := by refine Lib.hid ?_; unfold outP; rw [hp, hr]; rfl
      have HR := Lib.hid hr
      have HP := Lib.hid hp
      clear hp hr
      go_wp2_with fail
      have hpw := has_any t n a len cap l vl _ hI
      refine hpw.mono ?_
      clear hpw
      rintro e w3 ⟨rfl, hb1⟩
      replace hI := hI.next hb1
      replace PB := PB.next hb1
      replace FB := FB.next hb1
      replace RB := RB.next hb1
      replace BB := bw_trans BB hb1
      clear hb1 k0 k1 k2 c0 c1 c2 c3 c4 c5 c6
      have kk := PB.cells
      obtain ⟨k0, k1, k2⟩ := kk
      have kk := FB.cells
      obtain ⟨c0, c1, c2, c3, c4, c5, c6⟩ := kk
      cases hh : hasB ⟨t, n, l⟩ vl with
      | false =>
        have hY : outP ⟨t, n, l⟩ ⟨d, s, ft, p, v, ty, pl⟩ vl = (zero, 5) := by rw [HY.out, hh]; rfl
        have e := hX.out.symm.trans hY
        simp only [Prod.mk.injEq] at e
        obtain ⟨rfl, rfl⟩ := e
        have kk := RB.cells
        obtain ⟨q0, q1, q2, q3, q4, q5, q6⟩ := kk
        have f0 := RB.free 0
        have f1 := RB.free 1
        have f2 := RB.free 2
        have f3 := RB.free 3
        have f4 := RB.free 4
        have f5 := RB.free 5
        have f6 := RB.free 6
        have HB := Lib.hid BB
        clear BB hX hY hh HY
        go_wp2
        exact bodyPost_ret (v := .tuple #[zero.val, .int .i64 5]) (by simp [results, Try.results13, go_sem, zero, q0, q1, q2, q3, q4, q5, q6]) rfl ⟨rfl, below_set7 HB.out L2 _ _ _ _ _ _ _⟩
      | true =>
        have HH := Lib.hid hh
        clear hh
        by_cases hv : vl = n
        · have hv0 : (vl == n) = true := by simpa using hv
          have hv1 : (vl != n) = false := by simpa using hv
          have hY : outP ⟨t, n, l⟩ ⟨d, s, ft, p, v, ty, pl⟩ vl = (⟨d, s, false, 0, 0, ty, pl⟩, 0) := by rw [HY.out, HH.out, if_pos hv]; rfl
          have e := hX.out.symm.trans hY
          simp only [Prod.mk.injEq] at e
          obtain ⟨rfl, rfl⟩ := e
          clear hX hY HY hv
          go_wp2_with fail
          have hpw := without_any d s ft p v ty pl w3 ⟨d, s, false, 0, 0, ty, pl⟩ 0 hd hs hp' (Lib.hid fun h => by rw [HR.out] at h; cases h) (Lib.hid fun _ => ⟨rfl, rfl⟩)
          refine hpw.mono ?_
          clear hpw
          rintro e w4 ⟨rfl, hb1⟩
          replace hI := hI.next hb1
          replace PB := PB.next hb1
          replace FB := FB.next hb1
          replace RB := RB.next hb1
          replace BB := bw_trans BB hb1
          clear hb1 k0 k1 k2 c0 c1 c2 c3 c4 c5 c6
          have kk := RB.cells
          obtain ⟨q0, q1, q2, q3, q4, q5, q6⟩ := kk
          have f0 := RB.free 0
          have f1 := RB.free 1
          have f2 := RB.free 2
          have f3 := RB.free 3
          have f4 := RB.free 4
          have f5 := RB.free 5
          have f6 := RB.free 6
          have HB := Lib.hid BB
          clear BB
          go_wp2
          exact bodyPost_ret (v := .tuple #[fv d s false 0 0 ty pl, .int .i64 0]) (by simp [results, Try.results13, go_sem, q0, q1, q2, q3, q4, q5, q6]) rfl ⟨rfl, below_set7 HB.out L2 _ _ _ _ _ _ _⟩
        · have hv0 : (vl == n) = false := by simpa using hv
          have hv1 : (vl != n) = true := by simpa using hv
          have hY : outP ⟨t, n, l⟩ ⟨d, s, ft, p, v, ty, pl⟩ vl = (⟨d, s, true, p, vl, ty, pl⟩, 0) := by rw [HY.out, HH.out, if_neg hv]; rfl
          have e := hX.out.symm.trans hY
          simp only [Prod.mk.injEq] at e
          obtain ⟨rfl, rfl⟩ := e
          have hin : withinB vl 4094 = true := by have := has_vlan HH.out; simp [withinB]; omega
          have HI := Lib.hid hin; clear hin
          clear hX hY HY hv
          go_wp2_with fail
          have hpw := with_any d s ft p v ty pl vl w3 ⟨d, s, true, p, vl, ty, pl⟩ 0 hd hs hp' (Lib.hid fun h => by rw [HR.out] at h; cases h) (Lib.hid fun _ h => by rw [HI.out] at h; cases h) (Lib.hid fun _ _ => ⟨rfl, rfl⟩)
          refine hpw.mono ?_
          clear hpw
          rintro e w4 ⟨rfl, hb1⟩
          replace hI := hI.next hb1
          replace PB := PB.next hb1
          replace FB := FB.next hb1
          replace RB := RB.next hb1
          replace BB := bw_trans BB hb1
          clear hb1 k0 k1 k2 c0 c1 c2 c3 c4 c5 c6
          have kk := RB.cells
          obtain ⟨q0, q1, q2, q3, q4, q5, q6⟩ := kk
          have f0 := RB.free 0
          have f1 := RB.free 1
          have f2 := RB.free 2
          have f3 := RB.free 3
          have f4 := RB.free 4
          have f5 := RB.free 5
          have f6 := RB.free 6
          have HB := Lib.hid BB
          clear BB
          go_wp2
          exact bodyPost_ret (v := .tuple #[fv d s true p vl ty pl, .int .i64 0]) (by simp [results, Try.results13, go_sem, q0, q1, q2, q3, q4, q5, q6]) rfl ⟨rfl, below_set7 HB.out L2 _ _ _ _ _ _ _⟩

set_option maxHeartbeats 2000000 in
theorem rout_w (t : Bool) (n : Int) (a : Option Addr) (len cap : Nat) (l : List Int) (d s : ByteArray) (ft : Bool) (p v ty : Int) (pl : ByteArray) (vl : Int) (w : World) (F : Fr) (E : Int) (h : IsRow w a len l) (hd : d.size ≤ maxLen) (hs : s.size ≤ maxLen) (hp' : pl.size ≤ maxLen)
    (hX : Hid (outP ⟨t, n, l⟩ ⟨d, s, ft, p, v, ty, pl⟩ vl = (F, E))) :
    Calls Try.prog 14 #[pv t n a len cap, fv d s ft p v ty pl, .int .i64 vl] w fun e w' => e = .returned (.tuple #[F.val, .int .i64 E]) ∧ Below w.heap.size w w' := by
  obtain ⟨W, hW, PB, FB, RB, hI, BB⟩ := three_boxes 29 w t n a len cap l d s ft p v ty pl h
  clear h
  go_enter Try.func14, Try.ntmps14
  go_upto_region 1 with (fail)
  rw [← hW]
  obtain ⟨b, hb⟩ : ∃ b, b = w.heap.size := ⟨_, rfl⟩
  have L1 : w.heap.size ≤ b + 1 := by omega
  have L2 : w.heap.size ≤ b + 2 := by omega
  rw [← hb] at PB FB RB ⊢
  clear hW hb
  have kk := PB.cells
  obtain ⟨k0, k1, k2⟩ := kk
  have kk := FB.cells
  obtain ⟨c0, c1, c2, c3, c4, c5, c6⟩ := kk
  go_wp2_with fail
  have hpw := rportRight_any t n a len cap l _ hI
  refine hpw.mono ?_
  clear hpw
  rintro e w1 ⟨rfl, hb1⟩
  replace hI := hI.next hb1
  replace PB := PB.next hb1
  replace FB := FB.next hb1
  replace RB := RB.next hb1
  replace BB := bw_trans BB hb1
  clear hb1 k0 k1 k2 c0 c1 c2 c3 c4 c5 c6
  have kk := PB.cells
  obtain ⟨k0, k1, k2⟩ := kk
  have kk := FB.cells
  obtain ⟨c0, c1, c2, c3, c4, c5, c6⟩ := kk
  cases hp : portB ⟨t, n, l⟩ with
  | false =>
    have hY : outP ⟨t, n, l⟩ ⟨d, s, ft, p, v, ty, pl⟩ vl = (zero, 2) := by unfold outP; rw [hp]; rfl
    have e := hX.out.symm.trans hY
    simp only [Prod.mk.injEq] at e
    obtain ⟨rfl, rfl⟩ := e
    have kk := RB.cells
    obtain ⟨q0, q1, q2, q3, q4, q5, q6⟩ := kk
    have f0 := RB.free 0
    have f1 := RB.free 1
    have f2 := RB.free 2
    have f3 := RB.free 3
    have f4 := RB.free 4
    have f5 := RB.free 5
    have f6 := RB.free 6
    have HB := Lib.hid BB
    clear BB hX hY hp
    go_wp2
    exact bodyPost_ret (v := .tuple #[zero.val, .int .i64 2]) (by simp [results, Try.results14, go_sem, zero, q0, q1, q2, q3, q4, q5, q6]) rfl ⟨rfl, below_set7 HB.out L2 _ _ _ _ _ _ _⟩
  | true =>
    go_wp2_with fail
    have hpw := rright_any d s ft p v ty pl w1 hd hs hp'
    refine hpw.mono ?_
    clear hpw
    rintro e w2 ⟨rfl, hb1⟩
    replace hI := hI.next hb1
    replace PB := PB.next hb1
    replace FB := FB.next hb1
    replace RB := RB.next hb1
    replace BB := bw_trans BB hb1
    clear hb1 k0 k1 k2 c0 c1 c2 c3 c4 c5 c6
    have kk := PB.cells
    obtain ⟨k0, k1, k2⟩ := kk
    have kk := FB.cells
    obtain ⟨c0, c1, c2, c3, c4, c5, c6⟩ := kk
    cases hr : rightB ⟨d, s, ft, p, v, ty, pl⟩ with
    | false =>
      have hY : outP ⟨t, n, l⟩ ⟨d, s, ft, p, v, ty, pl⟩ vl = (zero, 2) := by unfold outP; rw [hp, hr]; rfl
      have e := hX.out.symm.trans hY
      simp only [Prod.mk.injEq] at e
      obtain ⟨rfl, rfl⟩ := e
      have kk := RB.cells
      obtain ⟨q0, q1, q2, q3, q4, q5, q6⟩ := kk
      have f0 := RB.free 0
      have f1 := RB.free 1
      have f2 := RB.free 2
      have f3 := RB.free 3
      have f4 := RB.free 4
      have f5 := RB.free 5
      have f6 := RB.free 6
      have HB := Lib.hid BB
      clear BB hX hY hp hr
      go_wp2
      exact bodyPost_ret (v := .tuple #[zero.val, .int .i64 2]) (by simp [results, Try.results14, go_sem, zero, q0, q1, q2, q3, q4, q5, q6]) rfl ⟨rfl, below_set7 HB.out L2 _ _ _ _ _ _ _⟩
    | true =>
      have HY : Hid (outP ⟨t, n, l⟩ ⟨d, s, ft, p, v, ty, pl⟩ vl = (if hasB ⟨t, n, l⟩ vl then (if vl = n then (⟨d, s, false, 0, 0, ty, pl⟩, 0) else (⟨d, s, true, p, vl, ty, pl⟩, 0)) else (zero, 5))) := by refine Lib.hid ?_; unfold outP; rw [hp, hr]; rfl
      have HR := Lib.hid hr
      have HP := Lib.hid hp
      clear hp hr
      go_wp2_with fail
      have hpw := rhas_any t n a len cap l vl _ hI
      refine hpw.mono ?_
      clear hpw
      rintro e w3 ⟨rfl, hb1⟩
      replace hI := hI.next hb1
      replace PB := PB.next hb1
      replace FB := FB.next hb1
      replace RB := RB.next hb1
      replace BB := bw_trans BB hb1
      clear hb1 k0 k1 k2 c0 c1 c2 c3 c4 c5 c6
      have kk := PB.cells
      obtain ⟨k0, k1, k2⟩ := kk
      have kk := FB.cells
      obtain ⟨c0, c1, c2, c3, c4, c5, c6⟩ := kk
      cases hh : hasB ⟨t, n, l⟩ vl with
      | false =>
        have hY : outP ⟨t, n, l⟩ ⟨d, s, ft, p, v, ty, pl⟩ vl = (zero, 5) := by rw [HY.out, hh]; rfl
        have e := hX.out.symm.trans hY
        simp only [Prod.mk.injEq] at e
        obtain ⟨rfl, rfl⟩ := e
        have kk := RB.cells
        obtain ⟨q0, q1, q2, q3, q4, q5, q6⟩ := kk
        have f0 := RB.free 0
        have f1 := RB.free 1
        have f2 := RB.free 2
        have f3 := RB.free 3
        have f4 := RB.free 4
        have f5 := RB.free 5
        have f6 := RB.free 6
        have HB := Lib.hid BB
        clear BB hX hY hh HY
        go_wp2
        exact bodyPost_ret (v := .tuple #[zero.val, .int .i64 5]) (by simp [results, Try.results14, go_sem, zero, q0, q1, q2, q3, q4, q5, q6]) rfl ⟨rfl, below_set7 HB.out L2 _ _ _ _ _ _ _⟩
      | true =>
        have HH := Lib.hid hh
        clear hh
        by_cases hv : vl = n
        · have hv0 : (vl == n) = true := by simpa using hv
          have hv1 : (vl != n) = false := by simpa using hv
          have hY : outP ⟨t, n, l⟩ ⟨d, s, ft, p, v, ty, pl⟩ vl = (⟨d, s, false, 0, 0, ty, pl⟩, 0) := by rw [HY.out, HH.out, if_pos hv]; rfl
          have e := hX.out.symm.trans hY
          simp only [Prod.mk.injEq] at e
          obtain ⟨rfl, rfl⟩ := e
          have g2 := FB.free 2
          have g3 := FB.free 3
          have g4 := FB.free 4
          clear hX hY HY hv
          go_upto_region 7 with (fail)
          obtain ⟨W4, hW4⟩ : ∃ W4, W4 = (w3.setCell ⟨b + 1, 2, none⟩ (.bool false)).setCell ⟨b + 1, 4, none⟩ (.int .i64 vl) := ⟨_, rfl⟩
          have FB4 : Blk W4 (b + 1) d s false p vl ty pl := by rw [hW4]; exact FB.set24 false vl
          have RB4 : Blk W4 (b + 2) ⟨#[]⟩ ⟨#[]⟩ false 0 0 0 ⟨#[]⟩ := by rw [hW4]; exact (RB.other _ _ (by omega)).other _ _ (by omega)
          have B4 : Below w.heap.size w W4 := by rw [hW4]; exact (BB.setCell L1 _).setCell L1 _
          rw [← hW4]
          clear hW4 BB PB FB RB hI k0 k1 k2 c0 c1 c2 c3 c4 c5 c6 g2 g3 g4
          have kk := FB4.cells
          obtain ⟨c0, c1, c2, c3, c4, c5, c6⟩ := kk
          have kk := RB4.cells
          obtain ⟨q0, q1, q2, q3, q4, q5, q6⟩ := kk
          have f0 := RB4.free 0
          have f1 := RB4.free 1
          have f2 := RB4.free 2
          have f3 := RB4.free 3
          have f4 := RB4.free 4
          have f5 := RB4.free 5
          have f6 := RB4.free 6
          have g3 := FB4.free 3
          have g4 := FB4.free 4
          have HB := Lib.hid B4
          clear B4 FB4 RB4
          go_wp2
          exact bodyPost_ret (v := .tuple #[fv d s false 0 0 ty pl, .int .i64 0]) (by simp [results, Try.results14, go_sem, q0, q1, q2, q3, q4, q5, q6]) rfl ⟨rfl, below_set7 ((HB.out.setCell L1 _).setCell L1 _) L2 _ _ _ _ _ _ _⟩
        · have hv0 : (vl == n) = false := by simpa using hv
          have hv1 : (vl != n) = true := by simpa using hv
          have hY : outP ⟨t, n, l⟩ ⟨d, s, ft, p, v, ty, pl⟩ vl = (⟨d, s, true, p, vl, ty, pl⟩, 0) := by rw [HY.out, HH.out, if_neg hv]; rfl
          have e := hX.out.symm.trans hY
          simp only [Prod.mk.injEq] at e
          obtain ⟨rfl, rfl⟩ := e
          have kk := RB.cells
          obtain ⟨q0, q1, q2, q3, q4, q5, q6⟩ := kk
          have f0 := RB.free 0
          have f1 := RB.free 1
          have f2 := RB.free 2
          have f3 := RB.free 3
          have f4 := RB.free 4
          have f5 := RB.free 5
          have f6 := RB.free 6
          have g2 := FB.free 2
          have g3 := FB.free 3
          have g4 := FB.free 4
          have HB := Lib.hid BB
          clear BB hX hY HY hv
          go_wp2
          exact bodyPost_ret (v := .tuple #[fv d s true p vl ty pl, .int .i64 0]) (by simp [results, Try.results14, go_sem, q0, q1, q2, q3, q4, q5, q6]) rfl ⟨rfl, below_set7 ((HB.out.setCell L1 _).setCell L1 _) L2 _ _ _ _ _ _ _⟩
end Go.Proofs.Ytjabbbaiboaicaa
