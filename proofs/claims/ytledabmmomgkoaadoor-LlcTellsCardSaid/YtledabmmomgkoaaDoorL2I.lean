/-
  Walks of layer 2: Inner, framed, Ieee, Sstp, Snap.
-/
import Derived.Test.YtledabmmomgkoaaDoorL2K
namespace Go.Proofs.YtledabmmomgkoaaDoor
set_option linter.unusedVariables false
set_option linter.unusedSimpArgs false
open Go.RowKit Fm

set_option maxHeartbeats 400000 in
theorem inner_1 (d s : ByteArray) (t : Bool) (p v ty : Int) (pl : ByteArray) (w : World) (hH : Heads w) (hd : d.size ≤ maxLen) (hs : s.size ≤ maxLen) (hp : pl.size ≤ maxLen)
    (hK : kindN ⟨d, s, t, p, v, ty, pl⟩ = 1) (h3 : 3 ≤ pl.size) :
    Calls Tryd.prog 7 #[fv d s t p v ty pl] w fun e w' => e = .returned (.tuple #[.string (pl.extract 3 pl.size), .int .i64 0]) ∧ Below w.heap.size w w' := by
  have HK := Lib.hid hK; clear hK
  have hp' := hp
  unfold maxLen at hp'
  go_enter Tryd.func7, Tryd.ntmps7
  go_wp2_with fail
  refine (kind_w _ _ _ _ _ _ _ _ 1 HK (hH.next (below_box w _)) hd hs hp).mono ?_
  rintro e w1 ⟨rfl, hb1⟩
  have k1 := (blk_new w d s t p v ty pl).below hb1 (by simp)
  have H1 := (hH.next (below_box w _)).next hb1
  have B1 := bw_trans (below_box w _) hb1
  clear hb1 hH
  have y := k1.cells
  obtain ⟨c0, c1, c2, c3, c4, c5, c6⟩ := y
  obtain ⟨e0, e1, e2, e3, e4, e5⟩ := H1
  go_wp2
  go_quiet (fail)
  go_wp2
  go_ret2
  exact ⟨rfl, below_drewN B1 _⟩

set_option maxHeartbeats 400000 in
theorem inner_2 (d s : ByteArray) (t : Bool) (p v ty : Int) (pl : ByteArray) (w : World) (hH : Heads w) (hd : d.size ≤ maxLen) (hs : s.size ≤ maxLen) (hp : pl.size ≤ maxLen)
    (hK : kindN ⟨d, s, t, p, v, ty, pl⟩ = 2) (h3 : 8 ≤ pl.size) :
    Calls Tryd.prog 7 #[fv d s t p v ty pl] w fun e w' => e = .returned (.tuple #[.string (pl.extract 8 pl.size), .int .i64 0]) ∧ Below w.heap.size w w' := by
  have HK := Lib.hid hK; clear hK
  have hp' := hp
  unfold maxLen at hp'
  go_enter Tryd.func7, Tryd.ntmps7
  go_wp2_with fail
  refine (kind_w _ _ _ _ _ _ _ _ 2 HK (hH.next (below_box w _)) hd hs hp).mono ?_
  rintro e w1 ⟨rfl, hb1⟩
  have k1 := (blk_new w d s t p v ty pl).below hb1 (by simp)
  have H1 := (hH.next (below_box w _)).next hb1
  have B1 := bw_trans (below_box w _) hb1
  clear hb1 hH
  have y := k1.cells
  obtain ⟨c0, c1, c2, c3, c4, c5, c6⟩ := y
  obtain ⟨e0, e1, e2, e3, e4, e5⟩ := H1
  go_wp2
  go_quiet (fail)
  go_wp2
  go_ret2
  exact ⟨rfl, below_drewN B1 _⟩

set_option maxHeartbeats 400000 in
theorem inner_no (d s : ByteArray) (t : Bool) (p v ty : Int) (pl : ByteArray) (w : World) (K : Int) (hH : Heads w) (hd : d.size ≤ maxLen) (hs : s.size ≤ maxLen) (hp : pl.size ≤ maxLen)
    (hK : kindN ⟨d, s, t, p, v, ty, pl⟩ = K) (hn : K = 3 ∨ K = 0) :
    Calls Tryd.prog 7 #[fv d s t p v ty pl] w fun e w' => e = .returned (.tuple #[.string ⟨#[]⟩, .int .i64 9]) ∧ Below w.heap.size w w' := by
  have HK := Lib.hid hK; clear hK
  rcases hn with rfl | rfl
  all_goals (
    go_enter Tryd.func7, Tryd.ntmps7
    go_wp2_with fail
    refine (kind_w _ _ _ _ _ _ _ _ _ HK (hH.next (below_box w _)) hd hs hp).mono ?_
    rintro e w1 ⟨rfl, hb1⟩
    have B1 := bw_trans (below_box w _) hb1
    go_wp2
    go_ret2
    exact ⟨rfl, B1⟩)

theorem inner_w (d s : ByteArray) (t : Bool) (p v ty : Int) (pl : ByteArray) (w : World) (X : ByteArray) (E : Int) (hX : Hid (innerR ⟨d, s, t, p, v, ty, pl⟩ = (X, E))) (hH : Heads w) (hd : d.size ≤ maxLen) (hs : s.size ≤ maxLen) (hp : pl.size ≤ maxLen) :
    Calls Tryd.prog 7 #[fv d s t p v ty pl] w fun e w' => e = .returned (.tuple #[.string X, .int .i64 E]) ∧ Below w.heap.size w w' := by
  have h := hX.out
  unfold innerR at h
  rcases kind_cases ⟨d, s, t, p, v, ty, pl⟩ with ⟨hk, hz⟩ | ⟨hk, hz⟩ | hk | hk
  all_goals (rw [hk] at h; simp at h; obtain ⟨rfl, rfl⟩ := h)
  · exact inner_1 d s t p v ty pl w hH hd hs hp hk hz
  · exact inner_2 d s t p v ty pl w hH hd hs hp hk hz
  · exact inner_no d s t p v ty pl w 3 hH hd hs hp hk (Or.inl rfl)
  · exact inner_no d s t p v ty pl w 0 hH hd hs hp hk (Or.inr rfl)
end Go.Proofs.YtledabmmomgkoaaDoor
