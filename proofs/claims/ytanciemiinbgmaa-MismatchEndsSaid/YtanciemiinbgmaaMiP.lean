/-
  Layer 9: the document's Hear, where it is heard.
-/
import Derived.Test.YtanciemiinbgmaaMiO
namespace Go.Proofs.Ytanciemiinbgmaa
set_option linter.unusedVariables false
set_option linter.unusedSimpArgs false
open Go.RowKit Go.Maps Pm Mm

set_option maxRecDepth 20000 in
set_option maxHeartbeats 2000000 in
theorem rhear_none_any (t0 : Bool) (n : Int) (a : Option Addr) (len cap : Nat) (hello now : Int) (la : Option Addr) (ll lc : Nat) (many first told : Int) (l : List Int) (r d t X : Int) (w : World) (hrow : IsRow w a len l) (hr : vlanB r = true) (hd : vlanB d = true) (ht : timeB t = true) (hh : hasB ⟨t0, n, l⟩ r = false) :
    Calls Try.prog 8 #[dv ⟨t0, n, a, len, cap, hello, now, la, ll, lc, many, first, told⟩, .int .i64 r, .int .i64 d, .int .i64 t] w fun e w' => e = .returned (.tuple #[dv ⟨t0, n, a, len, cap, hello, now, la, ll, lc, many, first, told⟩, .int .i64 5]) ∧ Below w.heap.size w w' := by
  obtain ⟨k0, k1, kb⟩ := two_is w ⟨t0, n, a, len, cap, hello, now, la, ll, lc, many, first, told⟩
  obtain ⟨W, hW⟩ : ∃ W, W = twoW w ⟨t0, n, a, len, cap, hello, now, la, ll, lc, many, first, told⟩ := ⟨_, rfl⟩
  rw [← hW] at k0 k1 kb
  unfold twoW at hW
  have HW := Lib.hid hW
  obtain ⟨nb, hnb⟩ : ∃ nb, nb = w.heap.size := ⟨_, rfl⟩
  rw [← hnb] at k0 k1
  have HN := Lib.hid hnb
  have hwn : w.heap.size ≤ nb := by omega
  have KB := Lib.hid kb
  have K0 := Lib.hid k0
  have K1 := Lib.hid k1
  have HR := Lib.hid hr
  have HD := Lib.hid hd
  have HT := Lib.hid ht
  have hH := rhas_any t0 n a len cap l r W (hrow.next kb)
  rw [hh] at hH
  have HH := Lib.hid hH
  obtain ⟨c0, c1, c2, c3, c4, c5, c6, c7, c8⟩ := k0.cells
  obtain ⟨d0, d1, d2, d3, d4, d5, d6, d7, d8⟩ := k1.cells
  have f4 := k0.free 4
  have f5 := k0.free 5
  have f6 := k0.free 6
  have f7 := k0.free 7
  have f8 := k0.free 8
  have g0 := k1.free 0
  have g1 := k1.free 1
  have g2 := k1.free 2
  have g3 := k1.free 3
  have g4 := k1.free 4
  have g5 := k1.free 5
  have g6 := k1.free 6
  have g7 := k1.free 7
  have g8 := k1.free 8
  simp only [zeroD] at d0 d1 d2 d3 d4 d5 d6 d7 d8
  clear hW hnb k0 k1 kb hr hd ht hH
  go_enter Try.func8, Try.ntmps8
  go_wp2_with fail
  rw [← HW.out, ← HN.out]
  (with_reducible refine (rvlan_any r _).mono ?_); rintro e w' ⟨rfl, rfl⟩; rw [HR.out]
  go_wp2_with (first
    | (go_at_call 23; refine (rvlan_any d _).mono ?_; rintro e w' ⟨rfl, rfl⟩; rw [HD.out])
    | (go_at_call 24; refine (rtime_any t _).mono ?_; rintro e w' ⟨rfl, rfl⟩; rw [HT.out])
    | fail)
  (with_reducible refine (HH.out).mono ?_); rintro e W1 ⟨rfl, hb1⟩
  have J0 := Lib.hid (K0.out.next hb1)
  have J1 := Lib.hid (K1.out.next hb1)
  have JB := Lib.hid (bw_trans KB.out hb1)
  clear c0 c1 c2 c3 c4 c5 c6 c7 c8 d0 d1 d2 d3 d4 d5 d6 d7 d8 f4 f5 f6 f7 f8 g0 g1 g2 g3 g4 g5 g6 g7 g8
  clear HH
  obtain ⟨c0, c1, c2, c3, c4, c5, c6, c7, c8⟩ := J0.out.cells
  obtain ⟨d0, d1, d2, d3, d4, d5, d6, d7, d8⟩ := J1.out.cells
  have f4 := J0.out.free 4
  have f5 := J0.out.free 5
  have f6 := J0.out.free 6
  have f7 := J0.out.free 7
  have f8 := J0.out.free 8
  have g0 := J1.out.free 0
  have g1 := J1.out.free 1
  have g2 := J1.out.free 2
  have g3 := J1.out.free 3
  have g4 := J1.out.free 4
  have g5 := J1.out.free 5
  have g6 := J1.out.free 6
  have g7 := J1.out.free 7
  have g8 := J1.out.free 8
  simp only [zeroD] at d0 d1 d2 d3 d4 d5 d6 d7 d8
  have HB := Lib.hid (put9_below JB.out (show w.heap.size ≤ nb + 1 by omega) ⟨t0, n, a, len, cap, hello, now, la, ll, lc, many, first, told⟩)
  unfold put9 at HB
  clear hb1
  go_wp2
  exact bodyPost_ret (v := .tuple #[dv ⟨t0, n, a, len, cap, hello, now, la, ll, lc, many, first, told⟩, .int .i64 5]) (by simp [results, Try.results8, go_sem, c0, c1, c2, c3, c4, c5, c6, c7, c8, d0, d1, d2, d3, d4, d5, d6, d7, d8]) rfl ⟨rfl, HB.out⟩

set_option maxRecDepth 20000 in
set_option maxHeartbeats 2000000 in
theorem rhear_same_any (t0 : Bool) (n : Int) (a : Option Addr) (len cap : Nat) (hello now : Int) (la : Option Addr) (ll lc : Nat) (many first told : Int) (l : List Int) (r d t X : Int) (w : World) (hrow : IsRow w a len l) (hr : vlanB r = true) (hd : vlanB d = true) (ht : timeB t = true) (hh : hasB ⟨t0, n, l⟩ r = true) (hX : Hid ((if timeB t = true ∧ now < t then t else now) = X)) (h1 : t0 = true) (h2 : r = d) :
    Calls Try.prog 8 #[dv ⟨t0, n, a, len, cap, hello, now, la, ll, lc, many, first, told⟩, .int .i64 r, .int .i64 d, .int .i64 t] w fun e w' => e = .returned (.tuple #[dv ⟨t0, n, a, len, cap, hello, X, la, ll, lc, many, first, told⟩, .int .i64 0]) ∧ Below w.heap.size w w' := by
  subst h1 h2
  obtain ⟨k0, k1, kb⟩ := two_is w ⟨true, n, a, len, cap, hello, now, la, ll, lc, many, first, told⟩
  obtain ⟨W, hW⟩ : ∃ W, W = twoW w ⟨true, n, a, len, cap, hello, now, la, ll, lc, many, first, told⟩ := ⟨_, rfl⟩
  rw [← hW] at k0 k1 kb
  unfold twoW at hW
  have HW := Lib.hid hW
  obtain ⟨nb, hnb⟩ : ∃ nb, nb = w.heap.size := ⟨_, rfl⟩
  rw [← hnb] at k0 k1
  have HN := Lib.hid hnb
  have hwn : w.heap.size ≤ nb := by omega
  have KB := Lib.hid kb
  have K0 := Lib.hid k0
  have K1 := Lib.hid k1
  have HR := Lib.hid hr
  have HD := Lib.hid hd
  have HT := Lib.hid ht
  have hH := rhas_any true n a len cap l r W (hrow.next kb)
  rw [hh] at hH
  have HH := Lib.hid hH
  obtain ⟨c0, c1, c2, c3, c4, c5, c6, c7, c8⟩ := k0.cells
  obtain ⟨d0, d1, d2, d3, d4, d5, d6, d7, d8⟩ := k1.cells
  have f4 := k0.free 4
  have f5 := k0.free 5
  have f6 := k0.free 6
  have f7 := k0.free 7
  have f8 := k0.free 8
  have g0 := k1.free 0
  have g1 := k1.free 1
  have g2 := k1.free 2
  have g3 := k1.free 3
  have g4 := k1.free 4
  have g5 := k1.free 5
  have g6 := k1.free 6
  have g7 := k1.free 7
  have g8 := k1.free 8
  simp only [zeroD] at d0 d1 d2 d3 d4 d5 d6 d7 d8
  clear hW hnb k0 k1 kb hr hd ht hH
  go_enter Try.func8, Try.ntmps8
  go_wp2_with fail
  rw [← HW.out, ← HN.out]
  (with_reducible refine (rvlan_any r _).mono ?_); rintro e w' ⟨rfl, rfl⟩; rw [HR.out]
  go_wp2_with (first
    | (go_at_call 23; refine (rvlan_any r _).mono ?_; rintro e w' ⟨rfl, rfl⟩; rw [HR.out])
    | (go_at_call 24; refine (rtime_any t _).mono ?_; rintro e w' ⟨rfl, rfl⟩; rw [HT.out])
    | fail)
  (with_reducible refine (HH.out).mono ?_); rintro e W1 ⟨rfl, hb1⟩
  have J0 := Lib.hid (K0.out.next hb1)
  have J1 := Lib.hid (K1.out.next hb1)
  have JB := Lib.hid (bw_trans KB.out hb1)
  clear c0 c1 c2 c3 c4 c5 c6 c7 c8 d0 d1 d2 d3 d4 d5 d6 d7 d8 f4 f5 f6 f7 f8 g0 g1 g2 g3 g4 g5 g6 g7 g8
  clear HH
  obtain ⟨c0, c1, c2, c3, c4, c5, c6, c7, c8⟩ := J0.out.cells
  obtain ⟨d0, d1, d2, d3, d4, d5, d6, d7, d8⟩ := J1.out.cells
  have f4 := J0.out.free 4
  have f5 := J0.out.free 5
  have f6 := J0.out.free 6
  have f7 := J0.out.free 7
  have f8 := J0.out.free 8
  have g0 := J1.out.free 0
  have g1 := J1.out.free 1
  have g2 := J1.out.free 2
  have g3 := J1.out.free 3
  have g4 := J1.out.free 4
  have g5 := J1.out.free 5
  have g6 := J1.out.free 6
  have g7 := J1.out.free 7
  have g8 := J1.out.free 8
  simp only [zeroD] at d0 d1 d2 d3 d4 d5 d6 d7 d8
  clear hb1
  go_wp2_with fail
  (with_reducible refine (at_any true n a len cap hello now la ll lc many first told t X W1 hX).mono ?_); rintro e W2 ⟨rfl, hb2⟩
  have I0 := J0.out.next hb2
  have I1 := Lib.hid (J1.out.next hb2)
  have IB := bw_trans JB.out hb2
  clear c0 c1 c2 c3 c4 c5 c6 c7 c8 d0 d1 d2 d3 d4 d5 d6 d7 d8 f4 f5 f6 f7 f8 g0 g1 g2 g3 g4 g5 g6 g7 g8
  obtain ⟨c0, c1, c2, c3, c4, c5, c6, c7, c8⟩ := I0.cells
  have f0 := I0.free 0
  have f1 := I0.free 1
  have f2 := I0.free 2
  have f3 := I0.free 3
  have f4 := I0.free 4
  have f5 := I0.free 5
  have f6 := I0.free 6
  have f7 := I0.free 7
  have f8 := I0.free 8
  go_upto_region 6 with (fail)
  obtain ⟨V, hV⟩ : ∃ V, V = put9 W2 nb ⟨true, n, a, len, cap, hello, X, la, ll, lc, many, first, told⟩ := ⟨_, rfl⟩
  have V0 := Lib.hid (show DBlk V nb ⟨true, n, a, len, cap, hello, X, la, ll, lc, many, first, told⟩ by rw [hV]; exact put9_blk I0 _)
  have V1 := Lib.hid (show DBlk V (nb + 1) zeroD from I1.out.same (by rw [hV]; exact put9_other _ _ _ _ (by omega)))
  have VB := Lib.hid (show Below w.heap.size w V by rw [hV]; exact put9_below IB hwn _)
  unfold put9 at hV
  rw [← hV]
  have hVs : W2.heap.size ≤ V.heap.size := by rw [hV]; simp [World.setCell]
  clear hV I0 IB I1 J0 J1 JB hb2 c0 c1 c2 c3 c4 c5 c6 c7 c8 f0 f1 f2 f3 f4 f5 f6 f7 f8
  obtain ⟨c0, c1, c2, c3, c4, c5, c6, c7, c8⟩ := V0.out.cells
  obtain ⟨d0, d1, d2, d3, d4, d5, d6, d7, d8⟩ := V1.out.cells
  have f4 := V0.out.free 4
  have f5 := V0.out.free 5
  have f6 := V0.out.free 6
  have f7 := V0.out.free 7
  have f8 := V0.out.free 8
  have g0 := V1.out.free 0
  have g1 := V1.out.free 1
  have g2 := V1.out.free 2
  have g3 := V1.out.free 3
  have g4 := V1.out.free 4
  have g5 := V1.out.free 5
  have g6 := V1.out.free 6
  have g7 := V1.out.free 7
  have g8 := V1.out.free 8
  simp only [zeroD] at d0 d1 d2 d3 d4 d5 d6 d7 d8
  have HB := Lib.hid (put9_below VB.out (show w.heap.size ≤ nb + 1 by omega) ⟨true, n, a, len, cap, hello, X, la, ll, lc, many, first, told⟩)
  unfold put9 at HB
  go_wp2
  exact bodyPost_ret (v := .tuple #[dv ⟨true, n, a, len, cap, hello, X, la, ll, lc, many, first, told⟩, .int .i64 0]) (by simp [results, Try.results8, go_sem, c0, c1, c2, c3, c4, c5, c6, c7, c8, d0, d1, d2, d3, d4, d5, d6, d7, d8]) rfl ⟨rfl, HB.out⟩

/-- Behind the last store: the new row stays. -/
theorem row_stays {y w' : World} {nb q base : Nat} {l : List He} (h : HRow y (some ⟨q, 0, none⟩) l) (hq : base ≤ q) (hs : y.heap.size ≤ w'.heap.size) (hb : nb + 1 < base) (hk : ∀ i, i ≠ nb → i ≠ nb + 1 → w'.heap[i]? = y.heap[i]?) : HRow w' (some ⟨q, 0, none⟩) l :=
  hrow_same h hs fun x e => by
    cases e
    exact hk q (by omega) (by omega)
theorem sets_size (w : World) (b j : Nat) (v : Value) : (w.setCell ⟨b, j, none⟩ v).heap.size = w.heap.size := by simp [World.setCell]
theorem put9_size (w : World) (b : Nat) (s : Ds) : (put9 w b s).heap.size = w.heap.size := by
  unfold put9
  simp only [sets_size]
theorem put9_kept {w y : World} {nb : Nat} (s : Ds) (h : ∀ i, i ≠ nb → i ≠ nb + 1 → w.heap[i]? = y.heap[i]?) : ∀ i, i ≠ nb → i ≠ nb + 1 → (put9 w (nb + 1) s).heap[i]? = y.heap[i]? :=
  fun i h1 h2 => (put9_other w (nb + 1) i s h2).trans (h i h1 h2)
theorem set_kept {w y : World} {nb : Nat} (j : Nat) (v : Value) (h : ∀ i, i ≠ nb → i ≠ nb + 1 → w.heap[i]? = y.heap[i]?) : ∀ i, i ≠ nb → i ≠ nb + 1 → (w.setCell ⟨nb, j, none⟩ v).heap[i]? = y.heap[i]? :=
  fun i h1 h2 => (Below.heap_setCell w ⟨nb, j, none⟩ v i h1).trans (h i h1 h2)

end Go.Proofs.Ytanciemiinbgmaa
