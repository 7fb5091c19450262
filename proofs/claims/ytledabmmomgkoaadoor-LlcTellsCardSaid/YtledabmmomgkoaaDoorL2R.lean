/-
  Walks of layer 2's document: begins, Kind.
-/
import Derived.Test.YtledabmmomgkoaaDoorL2RMath
import Derived.Test.YtledabmmomgkoaaDoorL2M
namespace Go.Proofs.YtledabmmomgkoaaDoor
set_option linter.unusedVariables false
set_option linter.unusedSimpArgs false
open Go.RowKit Fm

/-- The bytes of b lie in block k. -/
def Lit (w : World) (k : Nat) (b : ByteArray) : Prop := ∀ i, i < b.size → w.cell? ⟨k, i, none⟩ = some (.int .u8 ((b.data.getD i 0).toNat : Int))
theorem lit_new (w : World) (cs : Array Value) (b : ByteArray) (hc : cs.toList = Lib.strCells b) : Lit (w.alloc (.cells cs 5)) w.heap.size b := by
  intro i hi
  have h1 : (w.alloc (.cells cs 5)).cell? ⟨w.heap.size, i, none⟩ = cs[i]? := by simp
  rw [h1, ← Array.getElem?_toList, hc]
  have h2 : i < b.data.size := hi
  simp only [Lib.strCells, List.getElem?_map, Array.getElem?_toList, Array.getD, h2, dif_pos, Array.getElem?_eq_getElem h2, Option.map_some]
  rfl

/-- Behind j rounds. -/
def BInv (s b : ByteArray) (k : Nat) (w : World) (i : Value) (wr : World) : Prop := ∃ j : Nat, j ≤ b.size ∧ i = .int .i64 j ∧ Agree s b j ∧ Lit wr k b ∧ Below w.heap.size w wr
theorem Lit.drewN {w : World} {k : Nat} {b : ByteArray} (h : Lit w k b) (n : Nat) : Lit (w.drewN n) k b := fun i hi => h i hi

set_option maxHeartbeats 1000000 in
theorem begins_any (s b : ByteArray) (k n : Nat) (w : World) (hn : n = b.size) (hl : Lit w k b) (hs : s.size ≤ maxLen) (hb : b.size ≤ 8) :
    Calls Tryd.prog 22 #[.string s, .slice (some ⟨k, 0, none⟩) n n] w fun e w' => e = .returned (.bool (begB s b)) ∧ Below w.heap.size w w' := by
  subst hn
  unfold maxLen at hs
  by_cases hlt : s.size < b.size
  · go_enter Tryd.func22, Tryd.ntmps22
    go_wp2
    go_ret
    exact ⟨ret_bool (beg_short hlt), Below.refl _ _⟩
  · go_enter Tryd.func22, Tryd.ntmps22
    go_wp2_with fail
    go_loopw [5] (fun i wr => BInv s b k w i wr) (fun i _ => b.size - (intOf i).toNat)
    case atStart => exact ⟨0, Nat.zero_le _, rfl, agree_zero s b, hl, Below.refl _ _⟩
    case round =>
      clear hl
      obtain ⟨j, hj, rfl, ha, hl, BR⟩ := hrel
      have HA := Lib.hid ha; clear ha
      by_cases hjb : j < b.size
      · have hc := hl j hjb
        have hjs : j < s.size := by omega
        have hjs' : (j : Int) < s.size := by omega
        have hjb' : (j : Int) < b.size := by omega
        obtain ⟨y, hy⟩ : ∃ y : UInt8, b.data.getD j 0 = y := ⟨_, rfl⟩
        rw [hy] at hc
        have HY := Lib.hid hy; clear hy
        have HX := Lib.hid (getD_byte s j hjs)
        go_wp2
        go_quiet (fail)
        go_wp2
        · have h : ((s[j].toNat : Int) != (y.toNat : Int)) = true := by assumption
          go_ret
          refine ⟨ret_bool (beg_no hjb ?_), below_drewN BR _⟩
          rw [HX.out, HY.out]
          intro h2
          rw [h2] at h
          simp at h
        · have h : ((s[j].toNat : Int) != (y.toNat : Int)) = false := by assumption
          have h2 : s.data.getD j 0 = b.data.getD j 0 := by
            rw [HX.out, HY.out]
            have h3 : (s[j].toNat : Int) = y.toNat := by simpa using h
            exact UInt8.toNat_inj.1 (by omega)
          have HN := Lib.hid (agree_succ HA.out h2)
          go_roundw
          case rel => exact ⟨j + 1, by omega, by go_num, HN.out, hl.drewN _, below_drewN BR _⟩
          case measure => simp [intOf]; omega
      · have e : j = b.size := by omega
        subst e
        go_wp2
        go_ret
        exact ⟨ret_bool (beg_yes (by omega) HA.out), BR⟩

/-- A contract of 'begins' at a row of bytes that was just laid. -/
theorem begins_lit (s b : ByteArray) (cs : Array Value) (n : Nat) (w : World) (r : Bool) (hr : Hid (begB s b = r)) (hc : cs.toList = Lib.strCells b) (hn : n = b.size) (hs : s.size ≤ maxLen) (hb : b.size ≤ 8) :
    Calls Tryd.prog 22 #[.string s, .slice (some ⟨w.heap.size, 0, none⟩) n n] (w.alloc (.cells cs 5)) fun e w' => e = .returned (.bool r) ∧ Below w.heap.size w w' := by
  have h := begins_any s b w.heap.size n (w.alloc (.cells cs 5)) hn (lit_new w cs b hc) hs hb
  rw [hr.out] at h
  exact h.mono fun e w' ⟨he, hb⟩ => ⟨he, bw_trans (below_box w _) hb⟩

theorem rright_w (d s : ByteArray) (t : Bool) (p v ty : Int) (pl : ByteArray) (w : World) (r : Bool) (hr : Hid (rightB ⟨d, s, t, p, v, ty, pl⟩ = r)) (hd : d.size ≤ maxLen) (hs : s.size ≤ maxLen) (hp : pl.size ≤ maxLen) :
    Calls Tryd.prog 19 #[fv d s t p v ty pl] w fun e w' => e = .returned (.bool r) ∧ Below w.heap.size w w' := by
  have h := rright_any d s t p v ty pl w hd hs hp
  rw [hr.out] at h
  exact h

set_option maxHeartbeats 400000 in
theorem rkind_no (d s : ByteArray) (t : Bool) (p v ty : Int) (pl : ByteArray) (w : World) (hd : d.size ≤ maxLen) (hs : s.size ≤ maxLen) (hp : pl.size ≤ maxLen) (hr : rightB ⟨d, s, t, p, v, ty, pl⟩ = false) :
    Calls Tryd.prog 15 #[fv d s t p v ty pl] w fun e w' => e = .returned (.int .i64 0) ∧ Below w.heap.size w w' := by
  go_enter Tryd.func15, Tryd.ntmps15
  go_wp2_with (go_at_call 19; refine (rright_w _ _ _ _ _ _ _ _ false (Lib.hid hr) hd hs hp).mono ?_; rintro e w1 ⟨rfl, hb1⟩)
  go_ret
  exact ⟨rfl, bw_trans (below_box _ _) hb1⟩

theorem not_both {d : ByteArray} (hd : d.size = 6) (h : begB d p5 = true) : begB d g2 = false := by
  obtain ⟨a, b, c, e, f, g, rfl⟩ := six_bytes hd
  have h1 := (beg5_iff a b c e f g).1 h
  cases h2 : begB ⟨#[a, b, c, e, f, g]⟩ g2
  · rfl
  · have h3 := (beg6_iff a b c e f g).1 h2
    have : (128 : UInt8) = 0 := h1.2.1.symm.trans h3.2.1
    exact absurd this (by decide)
theorem ret_i64 {a b : Int} (h : a = b) : Ending.returned (.int .i64 a) = .returned (.int .i64 b) := by rw [h]

set_option maxHeartbeats 4000000 in
theorem rkind_yes (d s : ByteArray) (t : Bool) (p v ty : Int) (pl : ByteArray) (w : World) (K : Int) (hr : rightB ⟨d, s, t, p, v, ty, pl⟩ = true)
    (hK : Hid (kindN ⟨d, s, t, p, v, ty, pl⟩ = K)) :
    Calls Tryd.prog 15 #[fv d s t p v ty pl] w fun e w' => e = .returned (.int .i64 K) ∧ Below w.heap.size w w' := by
  obtain ⟨hd6, hs6, _, _, _, _, hp5⟩ := right_parts hr
  have h5 : 5 < d.size := by omega
  have HB := Lib.hid (fun h => not_both (d := d) hd6 h)
  have hKr := kind_ref (f := ⟨d, s, t, p, v, ty, pl⟩) hr h5 hd6
  rw [hK.out] at hKr
  simp only at hKr
  obtain ⟨I, hI⟩ : ∃ I, begB d p5 = I := ⟨_, rfl⟩
  obtain ⟨O, hO⟩ : ∃ O, begB d g2 = O := ⟨_, rfl⟩
  obtain ⟨P1, hP1⟩ : ∃ P1, begB pl b1 = P1 := ⟨_, rfl⟩
  obtain ⟨P2, hP2⟩ : ∃ P2, begB pl b2 = P2 := ⟨_, rfl⟩
  rw [hI, hO, hP1, hP2] at hKr
  have HKr := Lib.hid hKr; clear hKr
  have HI := Lib.hid hI; clear hI
  have HO := Lib.hid hO; clear hO
  have HP1 := Lib.hid hP1; clear hP1
  have HP2 := Lib.hid hP2; clear hP2
  have hd : d.size ≤ maxLen := by rw [hd6]; decide
  have hs : s.size ≤ maxLen := by rw [hs6]; decide
  have hp : pl.size ≤ maxLen := by unfold maxLen; omega
  have h5' : (5 : Int) < d.size := by omega
  clear hd6 hs6
  go_enter Tryd.func15, Tryd.ntmps15
  go_wp2_with fail
  refine (rright_w _ _ _ _ _ _ _ _ true (Lib.hid hr) hd hs hp).mono ?_
  rintro e w1 ⟨rfl, hb1⟩
  have k1 := (blk_new w d s t p v ty pl).below hb1 (by simp)
  have B1 := bw_trans (below_box w _) hb1
  clear hb1 hr hK
  have y := k1.cells
  obtain ⟨c0, c1, c2, c3, c4, c5, c6⟩ := y
  go_wp2_with fail
  refine (begins_lit d p5 _ 5 w1 I HI rfl rfl hd (by decide)).mono ?_
  rintro e w2 ⟨rfl, hb2⟩
  have k2 := k1.below hb2 k1.lt
  have B2 := bw_trans B1 hb2
  clear hb2 k1 B1 c0 c1 c2 c3 c4 c5 c6
  have y := k2.cells
  obtain ⟨c0, c1, c2, c3, c4, c5, c6⟩ := y
  go_wp2_with fail
  refine (begins_lit d g2 _ 6 w2 O HO rfl rfl hd (by decide)).mono ?_
  rintro e w3 ⟨rfl, hb3⟩
  have k3 := k2.below hb3 k2.lt
  have B3 := bw_trans B2 hb3
  clear hb3 k2 B2 c0 c1 c2 c3 c4 c5 c6
  have y := k3.cells
  obtain ⟨c0, c1, c2, c3, c4, c5, c6⟩ := y
  obtain ⟨x, hx⟩ : ∃ x : UInt8, d[5] = x := ⟨_, rfl⟩
  cases I with
  | false =>
    cases O with
    | false =>
      have E : K = 0 := by rw [HKr.out]; simp [refK]
      subst E
      go_wp2
      go_ret
      exact ⟨rfl, B3⟩
    | true =>
      by_cases ht : ty < 1536
      · go_wp2_with fail
        refine (begins_lit pl b2 _ 8 w3 P2 HP2 rfl rfl hp (by decide)).mono ?_
        rintro e w5 ⟨rfl, hb5⟩
        have B5 := bw_trans B3 hb5
        cases P2 with
        | true =>
          have E : K = 2 := by rw [HKr.out]; simp [refK, ht]
          subst E
          go_wp2
          go_ret
          exact ⟨rfl, B5⟩
        | false =>
          have E : K = 3 := by rw [HKr.out]; simp [refK, ht]
          subst E
          go_wp2
          go_ret
          exact ⟨rfl, B5⟩
      · have E : K = 3 := by rw [HKr.out]; simp [refK, ht]
        subst E
        go_wp2
        go_ret
        exact ⟨rfl, B3⟩
  | true =>
    have hOf : O = false := by rw [← HO.out]; exact HB.out HI.out
    subst hOf
    have HX := Lib.hid hx; clear hx
    by_cases h0 : x.toNat = 0
    · have h0' : (d[5].toNat : Int) = 0 := by rw [HX.out]; omega
      have h16 : (d[5].toNat : Int) < 16 := by rw [HX.out]; omega
      have h0n : d[5].toNat = 0 := by rw [HX.out]; omega
      by_cases ht : ty < 1536
      · go_wp2_with fail
        refine (begins_lit pl b1 _ 3 w3 P1 HP1 rfl rfl hp (by decide)).mono ?_
        rintro e w5 ⟨rfl, hb5⟩
        have B5 := bw_trans B3 hb5
        have k5 := k3.below hb5 k3.lt
        clear c0 c1 c2 c3 c4 c5 c6
        have y := k5.cells
        obtain ⟨c0, c1, c2, c3, c4, c5, c6⟩ := y
        cases P1 with
        | true =>
          have E : K = 1 := by rw [HKr.out]; simp [refK, ht, h0n]
          subst E
          go_wp2
          go_ret
          exact ⟨rfl, B5⟩
        | false =>
          have E : K = 3 := by rw [HKr.out]; simp [refK, ht, h0n]
          subst E
          go_wp2
          go_ret
          exact ⟨rfl, B5⟩
      · have E : K = 3 := by rw [HKr.out]; simp [refK, ht, h0n]
        subst E
        go_wp2
        go_ret
        exact ⟨rfl, B3⟩
    · have h0' : ((d[5].toNat : Int) == 0) = false := by rw [HX.out, beq_eq_false_iff_ne]; omega
      have h0n : d[5].toNat ≠ 0 := by rw [HX.out]; omega
      by_cases h16 : x.toNat < 16
      · have h16' : (d[5].toNat : Int) < 16 := by rw [HX.out]; omega
        have E : K = 3 := by rw [HKr.out]; simp [refK, h0n]; rw [HX.out]; omega
        subst E
        go_wp2
        go_ret
        exact ⟨rfl, B3⟩
      · have h16' : (16 : Int) ≤ (d[5].toNat : Int) := by rw [HX.out]; omega
        have E : K = 0 := by rw [HKr.out]; simp [refK, h0n]; rw [HX.out]; omega
        subst E
        go_wp2
        go_ret
        exact ⟨rfl, B3⟩

theorem rkind_w (d s : ByteArray) (t : Bool) (p v ty : Int) (pl : ByteArray) (w : World) (K : Int) (hK : Hid (kindN ⟨d, s, t, p, v, ty, pl⟩ = K)) (hd : d.size ≤ maxLen) (hs : s.size ≤ maxLen) (hp : pl.size ≤ maxLen) :
    Calls Tryd.prog 15 #[fv d s t p v ty pl] w fun e w' => e = .returned (.int .i64 K) ∧ Below w.heap.size w w' := by
  cases h : rightB ⟨d, s, t, p, v, ty, pl⟩
  · have E : K = 0 := by rw [← hK.out]; simp [kindN, h]
    subst E
    exact rkind_no d s t p v ty pl w hd hs hp h
  · exact rkind_yes d s t p v ty pl w K h hK
end Go.Proofs.YtledabmmomgkoaaDoor
