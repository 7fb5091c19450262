/-
  Walks of layer 2: Kind.
-/
import Derived.Test.YtledabmmomgkoaaDoorL2A
namespace Go.Proofs.YtledabmmomgkoaaDoor
set_option linter.unusedVariables false
set_option linter.unusedSimpArgs false
open Go.RowKit Fm

set_option maxHeartbeats 400000 in
theorem kind_no (d s : ByteArray) (t : Bool) (p v ty : Int) (pl : ByteArray) (w : World) (hd : d.size ≤ maxLen) (hs : s.size ≤ maxLen) (hp : pl.size ≤ maxLen) (hr : rightB ⟨d, s, t, p, v, ty, pl⟩ = false) :
    Calls Tryd.prog 14 #[fv d s t p v ty pl] w fun e w' => e = .returned (.int .i64 0) ∧ Below w.heap.size w w' := by
  go_enter Tryd.func14, Tryd.ntmps14
  go_wp2_with (go_at_call 16; refine (right_any _ _ _ _ _ _ _ _ hd hs hp).mono ?_; rintro e w1 ⟨rfl, hb1⟩)
  go_ret
  exact ⟨rfl, bw_trans (below_box _ _) hb1⟩

/-- Behind a round: the frame lies where the closure looks, and where Kind laid it; the table stands. -/
def KInv (w : World) (k : Nat) (d s : ByteArray) (t : Bool) (p v ty : Int) (pl : ByteArray) (wx : World) : Prop :=
  Blk wx w.heap.size d s t p v ty pl ∧ Blk wx k d s t p v ty pl ∧ Heads wx ∧ Below w.heap.size w wx
theorem KInv.next {w wx wy : World} {k : Nat} {d s : ByteArray} {t : Bool} {p v ty : Int} {pl : ByteArray} (h : KInv w k d s t p v ty pl wx) (hb : Below wx.heap.size wx wy) : KInv w k d s t p v ty pl wy :=
  ⟨h.1.below hb h.1.lt, h.2.1.below hb h.2.1.lt, h.2.2.1.next hb, bw_trans h.2.2.2 hb⟩

set_option maxHeartbeats 2000000 in
theorem kind_yes (d s : ByteArray) (t : Bool) (p v ty : Int) (pl : ByteArray) (w : World) (K : Int) (hH : Heads w) (hr : rightB ⟨d, s, t, p, v, ty, pl⟩ = true)
    (hK : Hid (K = kindN ⟨d, s, t, p, v, ty, pl⟩)) :
    Calls Tryd.prog 14 #[fv d s t p v ty pl] w fun e w' => e = .returned (.int .i64 K) ∧ Below w.heap.size w w' := by
  obtain ⟨hd, hs, _, _, _, _, hp⟩ := right_parts hr
  have H0 := Lib.hid (head_none d ty pl hd)
  have hd : d.size ≤ maxLen := by rw [hd]; decide
  have hs : s.size ≤ maxLen := by rw [hs]; decide
  have hp : pl.size ≤ maxLen := by unfold maxLen; omega
  have Hr := Lib.hid hr
  go_enter Tryd.func14, Tryd.ntmps14
  go_wp2_with fail
  refine (right_any _ _ _ _ _ _ _ _ hd hs hp).mono ?_
  rintro e w1 ⟨rfl, hb1⟩
  have k1 := (blk_new w d s t p v ty pl).below hb1 (by simp)
  have H1 := (hH.next (below_box w _)).next hb1
  have B1 := bw_trans (below_box w _) hb1
  clear hb1 hH
  have y := k1.cells
  obtain ⟨c0, c1, c2, c3, c4, c5, c6⟩ := y
  go_wp2_with fail
  refine (beginning_any d s t p v ty pl _).mono ?_
  rintro e w2 ⟨k, rfl, hk, k2, hb2⟩
  have I2 : KInv w k d s t p v ty pl w2 := ⟨k1.below hb2 k1.lt, k2, H1.next hb2, bw_trans B1 hb2⟩
  clear hb2 k1 H1 B1 k2 c0 c1 c2 c3 c4 c5 c6
  have y := I2.2.2.1
  obtain ⟨e0, e1, e2, e3, e4, e5⟩ := y
  have i0 : ∀ w, (Instr.index 43 (.agg #[.string g0, .string b0, .string g1, .string b1, .string g2, .string b2]) (.int .i64 0)).run Tryd.prog w = .ok (.agg #[.string g0, .string b0]) w := fun _ => by kernel_rfl
  have i1 : ∀ w, (Instr.index 43 (.agg #[.string g0, .string b0, .string g1, .string b1, .string g2, .string b2]) (.int .i64 1)).run Tryd.prog w = .ok (.agg #[.string g1, .string b1]) w := fun _ => by kernel_rfl
  have i2 : ∀ w, (Instr.index 43 (.agg #[.string g0, .string b0, .string g1, .string b1, .string g2, .string b2]) (.int .i64 2)).run Tryd.prog w = .ok (.agg #[.string g2, .string b2]) w := fun _ => by kernel_rfl
  go_wp2_with fail
  refine wp_loop_rounds 4 ?_
  rw [rounds_succ]
  go_wp2_with fail
  have J2 := I2.next (below_box w2 (.cells #[.string g0, .string b0] 42))
  refine (asks_any d s t p v ty pl _ _ k _ J2.2.1 hp (by decide)).mono ?_
  rintro e w3 ⟨rfl, hb3⟩
  have I3 := J2.next hb3
  clear J2 I2 hb3 e0 e1 e2 e3 e4 e5
  rw [H0.out]
  go_wp2_with fail
  rw [rounds_succ]
  go_wp2_with fail
  have J3 := I3.next (below_box w3 (.cells #[.string g1, .string b1] 42))
  refine (asks_any d s t p v ty pl _ _ k _ J3.2.1 hp (by decide)).mono ?_
  rintro e w4 ⟨rfl, hb4⟩
  have I4 := J3.next hb4
  clear J3 I3 hb4
  cases h1 : headB d ty pl g1 b1 with
  | true =>
    have E : K = 1 := by rw [hK.out]; simp [kindN, Hr.out, h1]
    subst E
    clear h1 H0
    go_wp2
    go_ret
    exact ⟨rfl, I4.2.2.2⟩
  | false =>
  have H1 := Lib.hid h1; clear h1
  go_wp2_with fail
  rw [rounds_succ]
  go_wp2_with fail
  have J4 := I4.next (below_box w4 (.cells #[.string g2, .string b2] 42))
  refine (asks_any d s t p v ty pl _ _ k _ J4.2.1 hp (by decide)).mono ?_
  rintro e w5 ⟨rfl, hb5⟩
  have I5 := J4.next hb5
  clear J4 I4 hb5
  cases h2 : headB d ty pl g2 b2 with
  | true =>
    have E : K = 2 := by rw [hK.out]; simp [kindN, Hr.out, H1.out, h2]
    subst E
    clear h2 H0
    go_wp2
    go_ret
    exact ⟨rfl, I5.2.2.2⟩
  | false =>
  have H2 := Lib.hid h2; clear h2
  go_wp2_with fail
  rw [rounds_succ]
  have y := I5.1.cells
  obtain ⟨c0, c1, c2, c3, c4, c5, c6⟩ := y
  go_wp2_with fail
  refine (reserved_any d _ hd I5.2.2.1.2.2.2.2.1).mono ?_
  rintro e w6 ⟨rfl, rfl⟩
  cases h3 : resB d with
  | true =>
    have E : K = 3 := by rw [hK.out]; simp [kindN, Hr.out, H1.out, H2.out, h3]
    subst E
    clear h3 H0
    go_wp2
    go_ret
    exact ⟨rfl, I5.2.2.2⟩
  | false =>
    have E : K = 0 := by rw [hK.out]; simp [kindN, Hr.out, H1.out, H2.out, h3]
    subst E
    clear h3 H0
    go_wp2
    go_ret
    exact ⟨rfl, I5.2.2.2⟩

/-- Kind, of whatever frame. -/
theorem kind_w (d s : ByteArray) (t : Bool) (p v ty : Int) (pl : ByteArray) (w : World) (K : Int) (hK : Hid (kindN ⟨d, s, t, p, v, ty, pl⟩ = K)) (hH : Heads w) (hd : d.size ≤ maxLen) (hs : s.size ≤ maxLen) (hp : pl.size ≤ maxLen) :
    Calls Tryd.prog 14 #[fv d s t p v ty pl] w fun e w' => e = .returned (.int .i64 K) ∧ Below w.heap.size w w' := by
  cases h : rightB ⟨d, s, t, p, v, ty, pl⟩
  · have E : K = 0 := by rw [← hK.out]; simp [kindN, h]
    subst E
    exact kind_no d s t p v ty pl w hd hs hp h
  · exact kind_yes d s t p v ty pl w K hH h hK.out.symm
end Go.Proofs.YtledabmmomgkoaaDoor
