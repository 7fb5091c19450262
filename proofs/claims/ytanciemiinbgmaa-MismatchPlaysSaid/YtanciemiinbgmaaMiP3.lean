/-
  Layer 9: the document's Hear, where something comes to be inconsistent (both).
-/
import Derived.Test.YtanciemiinbgmaaMiP
namespace Go.Proofs.Ytanciemiinbgmaa
set_option linter.unusedVariables false
set_option linter.unusedSimpArgs false
open Go.RowKit Go.Maps Pm Mm

set_option maxRecDepth 20000 in
set_option maxHeartbeats 4000000 in
theorem rhear_both (n : Int) (a : Option Addr) (len cap : Nat) (hello now : Int) (la : Option Addr) (lc : Nat) (many first told : Int) (l : List Int) (r d t X : Int) (w : World) (hrow : IsRow w a len l) (hr : vlanB r = true) (hd : vlanB d = true) (ht : timeB t = true) (L : List He) (hL : HRow w la L) (hnone : la = none → lc = 0) (hlen : L.length ≤ 900) (hh : hasB ⟨true, n, l⟩ r = true) (hX : Hid ((if timeB t = true ∧ now < t then t else now) = X)) (hx : ¬ r = d) (hdd : hasB ⟨true, n, l⟩ d = true) (n1 : 0 ≤ X) (n2 : X ≤ 1099511627776) (n3 : 1 ≤ hello) (n4 : hello ≤ 10) (n5 : 0 ≤ many) (n6 : many ≤ 1000) :
    Calls Try.prog 8 #[dv ⟨true, n, a, len, cap, hello, now, la, L.length, lc, many, first, told⟩, .int .i64 r, .int .i64 d, .int .i64 t] w fun e w' => ∃ (la' : Option Addr) (ll' lc' : Nat), e = .returned (.tuple #[dv ⟨true, n, a, len, cap, hello, X, la', ll', lc', many + 1, if first = 0 then r else first, if first = 0 then d else told⟩, .int .i64 0]) ∧ ll' = (L ++ [He.mk r (X + 3 * hello), He.mk d (X + 3 * hello)]).length ∧ HRow w' la' (L ++ [He.mk r (X + 3 * hello), He.mk d (X + 3 * hello)]) ∧ (la' = none → lc' = 0) ∧ (∀ x, la' = some x → w.heap.size ≤ x.block) ∧ Below w.heap.size w w' := by
  obtain ⟨k0, k1, kb⟩ := two_is w ⟨true, n, a, len, cap, hello, now, la, L.length, lc, many, first, told⟩
  obtain ⟨W, hW⟩ : ∃ W, W = twoW w ⟨true, n, a, len, cap, hello, now, la, L.length, lc, many, first, told⟩ := ⟨_, rfl⟩
  rw [← hW] at k0 k1 kb
  unfold twoW at hW
  have HW := Lib.hid hW
  obtain ⟨nb, hnb⟩ : ∃ nb, nb = w.heap.size := ⟨_, rfl⟩
  rw [← hnb] at k0 k1
  have HN := Lib.hid hnb
  have HX := Lib.hid hx
  have HDD := Lib.hid hdd
  have HRW := Lib.hid hrow
  have HL := Lib.hid hL
  obtain ⟨i0, hi, hz0, hz1, hz2⟩ := info_parts infoH
  have hwn : w.heap.size ≤ nb := by omega
  have KB := Lib.hid kb
  have K0 := Lib.hid k0
  have K1 := Lib.hid k1
  have HR := Lib.hid hr
  have HD := Lib.hid hd
  have HT := Lib.hid ht
  have hH := rhas_any true n a len cap l r W (hrow.next kb)
  rw [hh] at hH
  have HH := Lib.hid hH
  obtain ⟨c0, c1, c2, c3, c4, c5, c6, c7, c8⟩ := k0.cells
  obtain ⟨d0, d1, d2, d3, d4, d5, d6, d7, d8⟩ := k1.cells
  have f4 := k0.free 4
  have f5 := k0.free 5
  have f6 := k0.free 6
  have f7 := k0.free 7
  have f8 := k0.free 8
  have g0 := k1.free 0
  have g1 := k1.free 1
  have g2 := k1.free 2
  have g3 := k1.free 3
  have g4 := k1.free 4
  have g5 := k1.free 5
  have g6 := k1.free 6
  have g7 := k1.free 7
  have g8 := k1.free 8
  simp only [zeroD] at d0 d1 d2 d3 d4 d5 d6 d7 d8
  clear hW hnb k0 k1 kb hr hd ht hH
  go_enter Try.func8, Try.ntmps8
  go_wp2_with fail
  rw [← HW.out, ← HN.out]
  (with_reducible refine (rvlan_any r _).mono ?_); rintro e w' ⟨rfl, rfl⟩; rw [HR.out]
  go_wp2_with (first
    | (go_at_call 23; refine (rvlan_any d _).mono ?_; rintro e w' ⟨rfl, rfl⟩; rw [HD.out])
    | (go_at_call 24; refine (rtime_any t _).mono ?_; rintro e w' ⟨rfl, rfl⟩; rw [HT.out])
    | fail)
  (with_reducible refine (HH.out).mono ?_); rintro e W1 ⟨rfl, hb1⟩
  have J0 := Lib.hid (K0.out.next hb1)
  have J1 := Lib.hid (K1.out.next hb1)
  have JB := Lib.hid (bw_trans KB.out hb1)
  clear c0 c1 c2 c3 c4 c5 c6 c7 c8 d0 d1 d2 d3 d4 d5 d6 d7 d8 f4 f5 f6 f7 f8 g0 g1 g2 g3 g4 g5 g6 g7 g8
  clear HH
  obtain ⟨c0, c1, c2, c3, c4, c5, c6, c7, c8⟩ := J0.out.cells
  obtain ⟨d0, d1, d2, d3, d4, d5, d6, d7, d8⟩ := J1.out.cells
  have f4 := J0.out.free 4
  have f5 := J0.out.free 5
  have f6 := J0.out.free 6
  have f7 := J0.out.free 7
  have f8 := J0.out.free 8
  have g0 := J1.out.free 0
  have g1 := J1.out.free 1
  have g2 := J1.out.free 2
  have g3 := J1.out.free 3
  have g4 := J1.out.free 4
  have g5 := J1.out.free 5
  have g6 := J1.out.free 6
  have g7 := J1.out.free 7
  have g8 := J1.out.free 8
  simp only [zeroD] at d0 d1 d2 d3 d4 d5 d6 d7 d8
  clear hb1
  go_wp2_with fail
  (with_reducible refine (at_any true n a len cap hello now la L.length lc many first told t X W1 hX).mono ?_); rintro e W2 ⟨rfl, hb2⟩
  have I0 := J0.out.next hb2
  have I1 := Lib.hid (J1.out.next hb2)
  have IB := bw_trans JB.out hb2
  clear c0 c1 c2 c3 c4 c5 c6 c7 c8 d0 d1 d2 d3 d4 d5 d6 d7 d8 f4 f5 f6 f7 f8 g0 g1 g2 g3 g4 g5 g6 g7 g8
  obtain ⟨c0, c1, c2, c3, c4, c5, c6, c7, c8⟩ := I0.cells
  have f0 := I0.free 0
  have f1 := I0.free 1
  have f2 := I0.free 2
  have f3 := I0.free 3
  have f4 := I0.free 4
  have f5 := I0.free 5
  have f6 := I0.free 6
  have f7 := I0.free 7
  have f8 := I0.free 8
  go_upto_region 6 with (fail)
  obtain ⟨V, hV⟩ : ∃ V, V = put9 W2 nb ⟨true, n, a, len, cap, hello, X, la, L.length, lc, many, first, told⟩ := ⟨_, rfl⟩
  have V0 := Lib.hid (show DBlk V nb ⟨true, n, a, len, cap, hello, X, la, L.length, lc, many, first, told⟩ by rw [hV]; exact put9_blk I0 _)
  have V1 := Lib.hid (show DBlk V (nb + 1) zeroD from I1.out.same (by rw [hV]; exact put9_other _ _ _ _ (by omega)))
  have VB := Lib.hid (show Below w.heap.size w V by rw [hV]; exact put9_below IB hwn _)
  unfold put9 at hV
  rw [← hV]
  have hVs : W2.heap.size ≤ V.heap.size := by rw [hV]; simp [World.setCell]
  clear hV I0 IB I1 J0 J1 JB hb2 c0 c1 c2 c3 c4 c5 c6 c7 c8 f0 f1 f2 f3 f4 f5 f6 f7 f8
  obtain ⟨c0, c1, c2, c3, c4, c5, c6, c7, c8⟩ := V0.out.cells
  obtain ⟨d0, d1, d2, d3, d4, d5, d6, d7, d8⟩ := V1.out.cells
  have f4 := V0.out.free 4
  have f5 := V0.out.free 5
  have f6 := V0.out.free 6
  have f7 := V0.out.free 7
  have f8 := V0.out.free 8
  have g0 := V1.out.free 0
  have g1 := V1.out.free 1
  have g2 := V1.out.free 2
  have g3 := V1.out.free 3
  have g4 := V1.out.free 4
  have g5 := V1.out.free 5
  have g6 := V1.out.free 6
  have g7 := V1.out.free 7
  have g8 := V1.out.free 8
  simp only [zeroD] at d0 d1 d2 d3 d4 d5 d6 d7 d8
  have hVn : nb + 1 < V.heap.size := V1.out.lt
  have hVb : nb < V.heap.size := V0.out.lt
  have hrd : (r == d) = false := by simpa using HX.out
  go_upto_region 9 with (fail)
  go_cut [11] (fun v wx => wx.ownsRow V.heap.size 79 2 v L.length (cellsH L) ∧ Below V.heap.size V wx)
  case first =>
    have O := World.ownsRow_lit (base := V.heap.size) (e := 79) (size := 2) V #[] 0 (Nat.le_refl _) (Nat.zero_le _) rfl
    cases la with
    | none =>
      obtain rfl : L = [] := hrow_none HL.out
      obtain rfl : lc = 0 := hnone rfl
      go_wp2_with (at_builtin; refine wpList_append_own_none (by rfl) _ _ _ (by rfl) V.heap.size 79 i0 2 Try.underlying28 hi _ 0 [] (by rfl) O (by rfl) ?_)
      go_meet
      case rel => exact ⟨O, below_box _ _⟩
    | some ad =>
      have hnews := hrow_cells (HL.out.next (VB.out.trans ((below_box V (.cells #[] 79)).mono VB.out.size)))
      go_wp2_with (at_builtin; refine wpList_append_own_at _ (by rfl) _ _ _ (by rfl) V.heap.size 79 i0 (.agg #[.int .i64 0, .int .i64 0]) 2 16 Try.underlying28 hi hz0 hz1 hz2 rfl (by decide) _ 0 _ (by rfl) O ad L.length lc (cellsH L) (by rfl) (cellsH_len L) hnews (by intro u hu; exact cellsH_one hu) (by unfold maxLen; omega) (by omega) (by simp) ?_; intro v' w1 hown hgrow hnil hat)
      go_meet
      case rel =>
        refine ⟨by simpa using hown, (below_box V _).grown hgrow (by simp) (fun j e => by simp [Value.ownBlock] at e; omega)⟩
  case rest =>
  obtain ⟨O1, B1⟩ := hcut
  have U0 := Lib.hid (V0.out.next B1)
  have U1 := Lib.hid (V1.out.next B1)
  have UB := Lib.hid B1
  have HO1 := Lib.hid O1
  have hs1 := B1.size
  have hUn : nb + 1 < wc.heap.size := Nat.lt_of_lt_of_le hVn hs1
  have hUb : nb < wc.heap.size := Nat.lt_of_lt_of_le hVb hs1
  clear c0 c1 c2 c3 c4 c5 c6 c7 c8 d0 d1 d2 d3 d4 d5 d6 d7 d8 f4 f5 f6 f7 f8 g0 g1 g2 g3 g4 g5 g6 g7 g8
  clear B1 O1
  obtain ⟨c0, c1, c2, c3, c4, c5, c6, c7, c8⟩ := U0.out.cells
  obtain ⟨d0, d1, d2, d3, d4, d5, d6, d7, d8⟩ := U1.out.cells
  have f4 := U0.out.free 4
  have f5 := U0.out.free 5
  have f6 := U0.out.free 6
  have f7 := U0.out.free 7
  have f8 := U0.out.free 8
  have g0 := U1.out.free 0
  have g1 := U1.out.free 1
  have g2 := U1.out.free 2
  have g3 := U1.out.free 3
  have g4 := U1.out.free 4
  have g5 := U1.out.free 5
  have g6 := U1.out.free 6
  have g7 := U1.out.free 7
  have g8 := U1.out.free 8
  simp only [zeroD] at d0 d1 d2 d3 d4 d5 d6 d7 d8
  by_cases hf : first = 0
  · have hf2 : (first == 0) = true := by simp [hf]
    go_wp2_with (first
      | (at_builtin; refine wpList_append_lies _ (by rfl) _ _ _ (by rfl) V.heap.size 79 i0 (.agg #[.int .i64 0, .int .i64 0]) 2 16 Try.underlying28 hi hz0 hz1 hz2 rfl (by decide) _ L.length _ (by rfl) (HO1.out.alloc _) ⟨wc.heap.size, 0, none⟩ 1 1 [.int .i64 r, .int .i64 (X + 3 * hello)] (by rfl) rfl (World.news_of_block (heap_alloc_new wc _)) (by intro u hu; simp at hu; rcases hu with rfl | rfl <;> rfl) (by decide) (by unfold maxLen; omega) (by omega) (by simp; omega) _ rfl ?_; intro q1 cap1 y1 hown1 hgrow1 hat1 hlt1; clear c0 c1 c2 c3 c4 c5 c6 c7 c8 d0 d1 d2 d3 d4 d5 d6 d7 d8 f4 f5 f6 f7 f8 g0 g1 g2 g3 g4 g5 g6 g7 g8; have By1 := ((UB.out).trans ((below_box wc _).mono (UB.out).size)).grown hgrow1 (by have := (UB.out).size; simp; omega) (fun j e => by rcases own_block HO1.out with h0 | ⟨q', h0, h1⟩; (rw [h0] at e; cases e); (rw [h0] at e; cases e; exact h1)); have Y0 := (V0.out.next By1); have Y1 := (V1.out.next By1); have HBy1 := Lib.hid By1; have HOy1 := Lib.hid hown1; have hsy1 := By1.size; obtain ⟨c0, c1, c2, c3, c4, c5, c6, c7, c8⟩ := Y0.cells; obtain ⟨d0, d1, d2, d3, d4, d5, d6, d7, d8⟩ := Y1.cells; have f4 := Y0.free 4; have f5 := Y0.free 5; have f6 := Y0.free 6; have f7 := Y0.free 7; have f8 := Y0.free 8; have g0 := Y1.free 0; have g1 := Y1.free 1; have g2 := Y1.free 2; have g3 := Y1.free 3; have g4 := Y1.free 4; have g5 := Y1.free 5; have g6 := Y1.free 6; have g7 := Y1.free 7; have g8 := Y1.free 8; simp only [zeroD] at d0 d1 d2 d3 d4 d5 d6 d7 d8; clear By1 hown1 Y0 Y1)
      | (go_at_call 25; with_reducible refine (has_is (rhas_any true n a len cap l d y1 (HRW.out.next (VB.out.trans (HBy1.out.mono VB.out.size)))) HDD.out).mono ?_; rintro e y2 ⟨rfl, hb2⟩; have By2 := HBy1.out.trans (hb2.mono hsy1); have HBy2 := Lib.hid By2; have HOy2 := Lib.hid (own_next HOy1.out hb2); have hsy2 := By2.size; have Y0 := V0.out.next By2; have Y1 := V1.out.next By2; clear c0 c1 c2 c3 c4 c5 c6 c7 c8 d0 d1 d2 d3 d4 d5 d6 d7 d8 f4 f5 f6 f7 f8 g0 g1 g2 g3 g4 g5 g6 g7 g8; obtain ⟨c0, c1, c2, c3, c4, c5, c6, c7, c8⟩ := Y0.cells; obtain ⟨d0, d1, d2, d3, d4, d5, d6, d7, d8⟩ := Y1.cells; have f4 := Y0.free 4; have f5 := Y0.free 5; have f6 := Y0.free 6; have f7 := Y0.free 7; have f8 := Y0.free 8; have g0 := Y1.free 0; have g1 := Y1.free 1; have g2 := Y1.free 2; have g3 := Y1.free 3; have g4 := Y1.free 4; have g5 := Y1.free 5; have g6 := Y1.free 6; have g7 := Y1.free 7; have g8 := Y1.free 8; simp only [zeroD] at d0 d1 d2 d3 d4 d5 d6 d7 d8; clear By2 Y0 Y1)
      | (at_builtin; refine wpList_append_lies _ (by rfl) _ _ _ (by rfl) V.heap.size 79 i0 (.agg #[.int .i64 0, .int .i64 0]) 2 16 Try.underlying28 hi hz0 hz1 hz2 rfl (by decide) _ (L.length + 1) _ (by rfl) (HOy2.out.alloc _) ⟨y2.heap.size, 0, none⟩ 1 1 [.int .i64 d, .int .i64 (X + 3 * hello)] (by rfl) rfl (World.news_of_block (heap_alloc_new y2 _)) (by intro u hu; simp at hu; rcases hu with rfl | rfl <;> rfl) (by decide) (by unfold maxLen; omega) (by omega) (by simp; omega) _ rfl ?_; intro q2 cap2 y3 hown3 hgrow3 hat3 hlt3; clear c0 c1 c2 c3 c4 c5 c6 c7 c8 d0 d1 d2 d3 d4 d5 d6 d7 d8 f4 f5 f6 f7 f8 g0 g1 g2 g3 g4 g5 g6 g7 g8; have By3 := ((HBy2.out).trans ((below_box y2 _).mono (HBy2.out).size)).grown hgrow3 (by have := (HBy2.out).size; simp; omega) (fun j e => by rcases own_block HOy2.out with h0 | ⟨q', h0, h1⟩; (rw [h0] at e; cases e); (rw [h0] at e; cases e; exact h1)); have Y0 := (V0.out.next By3); have Y1 := (V1.out.next By3); have HBy3 := Lib.hid By3; have HOy3 := Lib.hid hown3; have hsy3 := By3.size; obtain ⟨c0, c1, c2, c3, c4, c5, c6, c7, c8⟩ := Y0.cells; obtain ⟨d0, d1, d2, d3, d4, d5, d6, d7, d8⟩ := Y1.cells; have f4 := Y0.free 4; have f5 := Y0.free 5; have f6 := Y0.free 6; have f7 := Y0.free 7; have f8 := Y0.free 8; have g0 := Y1.free 0; have g1 := Y1.free 1; have g2 := Y1.free 2; have g3 := Y1.free 3; have g4 := Y1.free 4; have g5 := Y1.free 5; have g6 := Y1.free 6; have g7 := Y1.free 7; have g8 := Y1.free 8; simp only [zeroD] at d0 d1 d2 d3 d4 d5 d6 d7 d8; clear By3 hown3 Y0 Y1))
    have e1 : cellsH L ++ [.int .i64 r, .int .i64 (X + 3 * hello)] ++ [.int .i64 d, .int .i64 (X + 3 * hello)] = cellsH (L ++ [He.mk r (X + 3 * hello), He.mk d (X + 3 * hello)]) := by rw [cellsH_app]; simp [cellsH]
    have ho := HOy3.out
    rw [e1] at ho
    obtain ⟨la', lc', he, hr', hn', hq'⟩ := hrow_owned ho (by simp)
    cases he
    have hq := (hq' _ rfl).1
    have hw := HBy3.out
    have hB0 : Below w.heap.size w ((((y3.setCell ⟨nb, 5, none⟩ (.slice (some ⟨q2, 0, none⟩) (L.length + 1 + 1) cap2)).setCell ⟨nb, 6, none⟩ (.int .i64 (many + 1))).setCell ⟨nb, 7, none⟩ (.int .i64 r)).setCell ⟨nb, 8, none⟩ (.int .i64 d)) := (((((VB.out.trans (hw.mono VB.out.size)).setCell (p := ⟨nb, 5, none⟩) hwn _).setCell (p := ⟨nb, 6, none⟩) hwn _).setCell (p := ⟨nb, 7, none⟩) hwn _).setCell (p := ⟨nb, 8, none⟩) hwn _)
    have hB := Lib.hid (put9_below hB0 (show w.heap.size ≤ nb + 1 by omega) ⟨true, n, a, len, cap, hello, X, some ⟨q2, 0, none⟩, L.length + 1 + 1, cap2, many + 1, r, d⟩)
    have hRow := Lib.hid (row_stays (nb := nb) hr' hq (Nat.le_of_eq ((put9_size _ (nb + 1) ⟨true, n, a, len, cap, hello, X, some ⟨q2, 0, none⟩, L.length + 1 + 1, cap2, many + 1, r, d⟩).trans (by simp only [sets_size])).symm) hVn (put9_kept ⟨true, n, a, len, cap, hello, X, some ⟨q2, 0, none⟩, L.length + 1 + 1, cap2, many + 1, r, d⟩ (set_kept 8 (.int .i64 d) (set_kept 7 (.int .i64 r) (set_kept 6 (.int .i64 (many + 1)) (set_kept 5 (.slice (some ⟨q2, 0, none⟩) (L.length + 1 + 1) cap2) (fun i _ _ => (rfl : y3.heap[i]? = y3.heap[i]?))))))))
    unfold put9 at hB hRow
    exact bodyPost_ret (v := .tuple #[dv ⟨true, n, a, len, cap, hello, X, some ⟨q2, 0, none⟩, L.length + 1 + 1, cap2, many + 1, r, d⟩, .int .i64 0]) (by simp [results, Try.results8, go_sem, c0, c1, c2, c3, c4, c5, c6, c7, c8, d0, d1, d2, d3, d4, d5, d6, d7, d8]) rfl ⟨some ⟨q2, 0, none⟩, L.length + 1 + 1, cap2, by first | rfl | rw [if_pos hf, if_pos hf], by simp, hRow.out, fun e => (by cases e), fun x e => (by cases e; exact Nat.le_trans VB.out.size hq), hB.out⟩
  · have hf2 : (first == 0) = false := by simp [hf]
    go_wp2_with (first
      | (at_builtin; refine wpList_append_lies _ (by rfl) _ _ _ (by rfl) V.heap.size 79 i0 (.agg #[.int .i64 0, .int .i64 0]) 2 16 Try.underlying28 hi hz0 hz1 hz2 rfl (by decide) _ L.length _ (by rfl) (HO1.out.alloc _) ⟨wc.heap.size, 0, none⟩ 1 1 [.int .i64 r, .int .i64 (X + 3 * hello)] (by rfl) rfl (World.news_of_block (heap_alloc_new wc _)) (by intro u hu; simp at hu; rcases hu with rfl | rfl <;> rfl) (by decide) (by unfold maxLen; omega) (by omega) (by simp; omega) _ rfl ?_; intro q1 cap1 y1 hown1 hgrow1 hat1 hlt1; clear c0 c1 c2 c3 c4 c5 c6 c7 c8 d0 d1 d2 d3 d4 d5 d6 d7 d8 f4 f5 f6 f7 f8 g0 g1 g2 g3 g4 g5 g6 g7 g8; have By1 := ((UB.out).trans ((below_box wc _).mono (UB.out).size)).grown hgrow1 (by have := (UB.out).size; simp; omega) (fun j e => by rcases own_block HO1.out with h0 | ⟨q', h0, h1⟩; (rw [h0] at e; cases e); (rw [h0] at e; cases e; exact h1)); have Y0 := (V0.out.next By1); have Y1 := (V1.out.next By1); have HBy1 := Lib.hid By1; have HOy1 := Lib.hid hown1; have hsy1 := By1.size; obtain ⟨c0, c1, c2, c3, c4, c5, c6, c7, c8⟩ := Y0.cells; obtain ⟨d0, d1, d2, d3, d4, d5, d6, d7, d8⟩ := Y1.cells; have f4 := Y0.free 4; have f5 := Y0.free 5; have f6 := Y0.free 6; have f7 := Y0.free 7; have f8 := Y0.free 8; have g0 := Y1.free 0; have g1 := Y1.free 1; have g2 := Y1.free 2; have g3 := Y1.free 3; have g4 := Y1.free 4; have g5 := Y1.free 5; have g6 := Y1.free 6; have g7 := Y1.free 7; have g8 := Y1.free 8; simp only [zeroD] at d0 d1 d2 d3 d4 d5 d6 d7 d8; clear By1 hown1 Y0 Y1)
      | (go_at_call 25; with_reducible refine (has_is (rhas_any true n a len cap l d y1 (HRW.out.next (VB.out.trans (HBy1.out.mono VB.out.size)))) HDD.out).mono ?_; rintro e y2 ⟨rfl, hb2⟩; have By2 := HBy1.out.trans (hb2.mono hsy1); have HBy2 := Lib.hid By2; have HOy2 := Lib.hid (own_next HOy1.out hb2); have hsy2 := By2.size; have Y0 := V0.out.next By2; have Y1 := V1.out.next By2; clear c0 c1 c2 c3 c4 c5 c6 c7 c8 d0 d1 d2 d3 d4 d5 d6 d7 d8 f4 f5 f6 f7 f8 g0 g1 g2 g3 g4 g5 g6 g7 g8; obtain ⟨c0, c1, c2, c3, c4, c5, c6, c7, c8⟩ := Y0.cells; obtain ⟨d0, d1, d2, d3, d4, d5, d6, d7, d8⟩ := Y1.cells; have f4 := Y0.free 4; have f5 := Y0.free 5; have f6 := Y0.free 6; have f7 := Y0.free 7; have f8 := Y0.free 8; have g0 := Y1.free 0; have g1 := Y1.free 1; have g2 := Y1.free 2; have g3 := Y1.free 3; have g4 := Y1.free 4; have g5 := Y1.free 5; have g6 := Y1.free 6; have g7 := Y1.free 7; have g8 := Y1.free 8; simp only [zeroD] at d0 d1 d2 d3 d4 d5 d6 d7 d8; clear By2 Y0 Y1)
      | (at_builtin; refine wpList_append_lies _ (by rfl) _ _ _ (by rfl) V.heap.size 79 i0 (.agg #[.int .i64 0, .int .i64 0]) 2 16 Try.underlying28 hi hz0 hz1 hz2 rfl (by decide) _ (L.length + 1) _ (by rfl) (HOy2.out.alloc _) ⟨y2.heap.size, 0, none⟩ 1 1 [.int .i64 d, .int .i64 (X + 3 * hello)] (by rfl) rfl (World.news_of_block (heap_alloc_new y2 _)) (by intro u hu; simp at hu; rcases hu with rfl | rfl <;> rfl) (by decide) (by unfold maxLen; omega) (by omega) (by simp; omega) _ rfl ?_; intro q2 cap2 y3 hown3 hgrow3 hat3 hlt3; clear c0 c1 c2 c3 c4 c5 c6 c7 c8 d0 d1 d2 d3 d4 d5 d6 d7 d8 f4 f5 f6 f7 f8 g0 g1 g2 g3 g4 g5 g6 g7 g8; have By3 := ((HBy2.out).trans ((below_box y2 _).mono (HBy2.out).size)).grown hgrow3 (by have := (HBy2.out).size; simp; omega) (fun j e => by rcases own_block HOy2.out with h0 | ⟨q', h0, h1⟩; (rw [h0] at e; cases e); (rw [h0] at e; cases e; exact h1)); have Y0 := (V0.out.next By3); have Y1 := (V1.out.next By3); have HBy3 := Lib.hid By3; have HOy3 := Lib.hid hown3; have hsy3 := By3.size; obtain ⟨c0, c1, c2, c3, c4, c5, c6, c7, c8⟩ := Y0.cells; obtain ⟨d0, d1, d2, d3, d4, d5, d6, d7, d8⟩ := Y1.cells; have f4 := Y0.free 4; have f5 := Y0.free 5; have f6 := Y0.free 6; have f7 := Y0.free 7; have f8 := Y0.free 8; have g0 := Y1.free 0; have g1 := Y1.free 1; have g2 := Y1.free 2; have g3 := Y1.free 3; have g4 := Y1.free 4; have g5 := Y1.free 5; have g6 := Y1.free 6; have g7 := Y1.free 7; have g8 := Y1.free 8; simp only [zeroD] at d0 d1 d2 d3 d4 d5 d6 d7 d8; clear By3 hown3 Y0 Y1))
    have e1 : cellsH L ++ [.int .i64 r, .int .i64 (X + 3 * hello)] ++ [.int .i64 d, .int .i64 (X + 3 * hello)] = cellsH (L ++ [He.mk r (X + 3 * hello), He.mk d (X + 3 * hello)]) := by rw [cellsH_app]; simp [cellsH]
    have ho := HOy3.out
    rw [e1] at ho
    obtain ⟨la', lc', he, hr', hn', hq'⟩ := hrow_owned ho (by simp)
    cases he
    have hq := (hq' _ rfl).1
    have hw := HBy3.out
    have hB0 : Below w.heap.size w ((y3.setCell ⟨nb, 5, none⟩ (.slice (some ⟨q2, 0, none⟩) (L.length + 1 + 1) cap2)).setCell ⟨nb, 6, none⟩ (.int .i64 (many + 1))) := ((VB.out.trans (hw.mono VB.out.size)).setCell (p := ⟨nb, 5, none⟩) hwn _).setCell (p := ⟨nb, 6, none⟩) hwn _
    have hB := Lib.hid (put9_below hB0 (show w.heap.size ≤ nb + 1 by omega) ⟨true, n, a, len, cap, hello, X, some ⟨q2, 0, none⟩, L.length + 1 + 1, cap2, many + 1, first, told⟩)
    have hRow := Lib.hid (row_stays (nb := nb) hr' hq (Nat.le_of_eq ((put9_size _ (nb + 1) ⟨true, n, a, len, cap, hello, X, some ⟨q2, 0, none⟩, L.length + 1 + 1, cap2, many + 1, first, told⟩).trans (by simp only [sets_size])).symm) hVn (put9_kept ⟨true, n, a, len, cap, hello, X, some ⟨q2, 0, none⟩, L.length + 1 + 1, cap2, many + 1, first, told⟩ (set_kept 6 (.int .i64 (many + 1)) (set_kept 5 (.slice (some ⟨q2, 0, none⟩) (L.length + 1 + 1) cap2) (fun i _ _ => (rfl : y3.heap[i]? = y3.heap[i]?))))))
    unfold put9 at hB hRow
    exact bodyPost_ret (v := .tuple #[dv ⟨true, n, a, len, cap, hello, X, some ⟨q2, 0, none⟩, L.length + 1 + 1, cap2, many + 1, first, told⟩, .int .i64 0]) (by simp [results, Try.results8, go_sem, c0, c1, c2, c3, c4, c5, c6, c7, c8, d0, d1, d2, d3, d4, d5, d6, d7, d8]) rfl ⟨some ⟨q2, 0, none⟩, L.length + 1 + 1, cap2, by first | rfl | rw [if_neg hf, if_neg hf], by simp, hRow.out, fun e => (by cases e), fun x e => (by cases e; exact Nat.le_trans VB.out.size hq), hB.out⟩

end Go.Proofs.Ytanciemiinbgmaa
