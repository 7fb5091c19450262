/-
  The law VectorOrder, walked (printed by gen_vo.py).
-/
import Derived.Test.YtiehocggdmadaaaVcK
namespace Go.Proofs.Ytiehocggdmadaaa
set_option linter.unusedVariables false
set_option linter.unusedSimpArgs false
open Go.RowKit Vm

theorem order_cases (a b c : Vc) (AB BC AC BA : Int) (E SB : Bool) (h1 : cmpR a b = AB) (h2 : cmpR b c = BC) (h3 : cmpR a c = AC) (h4 : cmpR b a = BA) (h5 : decide (a = b) = E) (h6 : superB a b = SB) : ((AB = -1 ∧ BA = 1 ∧ E = false ∧ SB = true) ∧ BC < 0 ∧ AC < 0) ∨ ((AB = -1 ∧ BA = 1 ∧ E = false ∧ SB = true) ∧ ¬ BC < 0) ∨ (AB = 0 ∧ BA = 0 ∧ E = true) ∨ (AB = 1 ∧ BA = -1 ∧ E = false) := by
  have r := cmp_range a b
  have n := cmp_neg a b
  have z := cmp_zero (a := a) (b := b)
  have t := cmp_trans (a := a) (b := b) (c := c)
  rw [h1] at r n z t
  rw [h4] at n
  rw [h2, h3] at t
  rcases r with rfl | rfl | rfl
  · have e : ¬ a = b := fun h => absurd (z.2 h) (by decide)
    have e5 : E = false := by rw [← h5]; simp [e]
    have e6 : SB = true := by rw [← h6]; simp [superB, h1]
    by_cases hb : BC < 0
    · exact .inl ⟨⟨rfl, by omega, e5, e6⟩, hb, t (by omega) hb⟩
    · exact .inr (.inl ⟨⟨rfl, by omega, e5, e6⟩, hb⟩)
  · have e : a = b := z.1 rfl
    exact .inr (.inr (.inl ⟨rfl, by omega, by rw [← h5]; simp [e]⟩))
  · have e : ¬ a = b := fun h => absurd (z.2 h) (by decide)
    exact .inr (.inr (.inr ⟨rfl, by omega, by rw [← h5]; simp [e]⟩))
theorem super_self (a : Vc) : superB a a = true := by simp [superB, sameB]

set_option maxHeartbeats 400000 in
theorem order_big (r c b p r' c' b' p' r2 c2 b2 p2 : Int) (ad : Option Addr) (len cap : Nat) (w : World) (hl : len ≤ maxLen) (h : 100 < len) :
    Calls Try.prog 4 #[vv r c b p, vv r' c' b' p', vv r2 c2 b2 p2, .slice ad len cap] w fun e w' => e = .returned (.bool true) ∧ Below w.heap.size w w' := by
  unfold maxLen at hl
  go_enter Try.func4, Try.ntmps4
  go_wp2_with fail
  refine (awake_any _).mono ?_
  rintro e w1 ⟨rfl, hb1⟩
  have B := bw_trans (bw_alloc (bw_alloc (below_box w (.cells #[.int .u64 r, .int .u64 c, .int .u64 b, .int .u64 p] 31)) (.cells #[.int .u64 r', .int .u64 c', .int .u64 b', .int .u64 p'] 31)) (.cells #[.int .u64 r2, .int .u64 c2, .int .u64 b2, .int .u64 p2] 31)) hb1
  clear hb1
  go_wp2
  go_ret
  exact ⟨rfl, B⟩

set_option maxHeartbeats 4000000 in
theorem order_none (r c b p r' c' b' p' r2 c2 b2 p2 : Int) (ad : Option Addr) (cap : Nat) (w : World) (AB BC AC BA : Int) (E SB : Bool)
    (HAB : Hid (cmpR ⟨r, c, b, p⟩ ⟨r', c', b', p'⟩ = AB)) (HBC : Hid (cmpR ⟨r', c', b', p'⟩ ⟨r2, c2, b2, p2⟩ = BC)) (HAC : Hid (cmpR ⟨r, c, b, p⟩ ⟨r2, c2, b2, p2⟩ = AC)) (HBA : Hid (cmpR ⟨r', c', b', p'⟩ ⟨r, c, b, p⟩ = BA))
    (HE : Hid (decide ((⟨r, c, b, p⟩ : Vc) = ⟨r', c', b', p'⟩) = E)) (HSB : Hid (superB ⟨r, c, b, p⟩ ⟨r', c', b', p'⟩ = SB)) (ub : u64B b) (up : u64B p) (ub' : u64B b') (up' : u64B p')
    (hcase : ((AB = -1 ∧ BA = 1 ∧ E = false ∧ SB = true) ∧ BC < 0 ∧ AC < 0) ∨ ((AB = -1 ∧ BA = 1 ∧ E = false ∧ SB = true) ∧ ¬ BC < 0) ∨ (AB = 0 ∧ BA = 0 ∧ E = true) ∨ (AB = 1 ∧ BA = -1 ∧ E = false)) :
    Calls Try.prog 4 #[vv r c b p, vv r' c' b' p', vv r2 c2 b2 p2, .slice ad 0 cap] w fun e w' => e = .returned (.bool true) ∧ Below w.heap.size w w' := by
  have C0 := Lib.hid (fun w' => compare_w r c b p r' c' b' p' AB w' HAB)
  have C1 := Lib.hid (fun w' => compare_w r' c' b' p' r2 c2 b2 p2 BC w' HBC)
  have C2 := Lib.hid (fun w' => compare_w r c b p r2 c2 b2 p2 AC w' HAC)
  have C3 := Lib.hid (fun w' => compare_w r' c' b' p' r c b p BA w' HBA)
  have C4 := Lib.hid (fun w' => super_w r c b p r' c' b' p' SB w' HSB ub up ub' up')
  have C5 := Lib.hid (fun w' => super_w r c b p r c b p true w' (Lib.hid (super_self _)) ub up ub up)
  have hq := run_vcEq r c b p r' c' b' p'
  rw [HE.out] at hq
  clear HAB HBC HAC HBA HSB HE ub up ub' up'
  rcases hcase with ⟨⟨rfl, rfl, rfl, rfl⟩, h1, h2⟩ | ⟨⟨rfl, rfl, rfl, rfl⟩, h1⟩ | ⟨rfl, rfl, rfl⟩ | ⟨rfl, rfl, rfl⟩
  · go_enter Try.func4, Try.ntmps4
    go_wp2_with fail
    refine (awake_any _).mono ?_
    rintro e w1 ⟨rfl, hb1⟩
    obtain ⟨ba, hba⟩ : ∃ x, x = w.heap.size := ⟨_, rfl⟩
    obtain ⟨bb, hbb⟩ : ∃ x, x = w.heap.size + 1 := ⟨_, rfl⟩
    obtain ⟨bc, hbc⟩ : ∃ x, x = w.heap.size + 1 + 1 := ⟨_, rfl⟩
    have z1 := size_box w (.cells #[.int .u64 r, .int .u64 c, .int .u64 b, .int .u64 p] 31)
    have z2 := size_box (w.alloc (.cells #[.int .u64 r, .int .u64 c, .int .u64 b, .int .u64 p] 31)) (.cells #[.int .u64 r', .int .u64 c', .int .u64 b', .int .u64 p'] 31)
    have g0 := blk_new 31 w r c b p
    have g1 := blk_new 31 (w.alloc (.cells #[.int .u64 r, .int .u64 c, .int .u64 b, .int .u64 p] 31)) r' c' b' p'
    have g2 := blk_new 31 ((w.alloc (.cells #[.int .u64 r, .int .u64 c, .int .u64 b, .int .u64 p] 31)).alloc (.cells #[.int .u64 r', .int .u64 c', .int .u64 b', .int .u64 p'] 31)) r2 c2 b2 p2
    rw [z1] at g1
    rw [z2, z1] at g2
    rw [← hba] at g0
    rw [← hbb] at g1
    rw [← hbc] at g2
    have k1 : Blk 31 w1 ba ⟨r, c, b, p⟩ := ((g0.next (below_box _ _)).next (below_box _ _)).next hb1
    have m1 : Blk 31 w1 bb ⟨r', c', b', p'⟩ := (g1.next (below_box _ _)).next hb1
    have n1 : Blk 31 w1 bc ⟨r2, c2, b2, p2⟩ := g2.next hb1
    have B1 : Below w.heap.size w w1 := bw_trans (bw_alloc (bw_alloc (below_box w (.cells #[.int .u64 r, .int .u64 c, .int .u64 b, .int .u64 p] 31)) (.cells #[.int .u64 r', .int .u64 c', .int .u64 b', .int .u64 p'] 31)) (.cells #[.int .u64 r2, .int .u64 c2, .int .u64 b2, .int .u64 p2] 31)) hb1
    clear z1 z2 g0 g1 g2 hb1
    rw [← hbc, ← hbb, ← hba]
    clear hbb hbc hba
    go_upto_region 5 with (fail)
    have lk := k1.lt
    have lm := m1.lt
    have ln := n1.lt
    have S0 : (w1.cell? ⟨ba, 0, none⟩ = some (.int .u64 r) ∧ w1.cell? ⟨ba, 1, none⟩ = some (.int .u64 c) ∧ w1.cell? ⟨ba, 2, none⟩ = some (.int .u64 b) ∧ w1.cell? ⟨ba, 3, none⟩ = some (.int .u64 p)) ∧ (w1.cell? ⟨bb, 0, none⟩ = some (.int .u64 r') ∧ w1.cell? ⟨bb, 1, none⟩ = some (.int .u64 c') ∧ w1.cell? ⟨bb, 2, none⟩ = some (.int .u64 b') ∧ w1.cell? ⟨bb, 3, none⟩ = some (.int .u64 p')) ∧ (w1.cell? ⟨bc, 0, none⟩ = some (.int .u64 r2) ∧ w1.cell? ⟨bc, 1, none⟩ = some (.int .u64 c2) ∧ w1.cell? ⟨bc, 2, none⟩ = some (.int .u64 b2) ∧ w1.cell? ⟨bc, 3, none⟩ = some (.int .u64 p2)) := ⟨k1.cells, m1.cells, n1.cells⟩
    go_region_held3 (fun w' => (w'.cell? ⟨ba, 0, none⟩ = some (.int .u64 r) ∧ w'.cell? ⟨ba, 1, none⟩ = some (.int .u64 c) ∧ w'.cell? ⟨ba, 2, none⟩ = some (.int .u64 b) ∧ w'.cell? ⟨ba, 3, none⟩ = some (.int .u64 p)) ∧ (w'.cell? ⟨bb, 0, none⟩ = some (.int .u64 r') ∧ w'.cell? ⟨bb, 1, none⟩ = some (.int .u64 c') ∧ w'.cell? ⟨bb, 2, none⟩ = some (.int .u64 b') ∧ w'.cell? ⟨bb, 3, none⟩ = some (.int .u64 p')) ∧ (w'.cell? ⟨bc, 0, none⟩ = some (.int .u64 r2) ∧ w'.cell? ⟨bc, 1, none⟩ = some (.int .u64 c2) ∧ w'.cell? ⟨bc, 2, none⟩ = some (.int .u64 b2) ∧ w'.cell? ⟨bc, 3, none⟩ = some (.int .u64 p2))) (first | exact S0 | exact T0 | exact T1 | exact T2) (first | (go_at_call 9; (with_reducible refine ((C0.out) _).mono ?_); rintro e y0 ⟨rfl, hb0⟩; have D0 := ((Below.refl w1.heap.size w1).drew).trans hb0; have T0 : (y0.cell? ⟨ba, 0, none⟩ = some (.int .u64 r) ∧ y0.cell? ⟨ba, 1, none⟩ = some (.int .u64 c) ∧ y0.cell? ⟨ba, 2, none⟩ = some (.int .u64 b) ∧ y0.cell? ⟨ba, 3, none⟩ = some (.int .u64 p)) ∧ (y0.cell? ⟨bb, 0, none⟩ = some (.int .u64 r') ∧ y0.cell? ⟨bb, 1, none⟩ = some (.int .u64 c') ∧ y0.cell? ⟨bb, 2, none⟩ = some (.int .u64 b') ∧ y0.cell? ⟨bb, 3, none⟩ = some (.int .u64 p')) ∧ (y0.cell? ⟨bc, 0, none⟩ = some (.int .u64 r2) ∧ y0.cell? ⟨bc, 1, none⟩ = some (.int .u64 c2) ∧ y0.cell? ⟨bc, 2, none⟩ = some (.int .u64 b2) ∧ y0.cell? ⟨bc, 3, none⟩ = some (.int .u64 p2)) := ⟨(k1.below D0 lk).cells, (m1.below D0 lm).cells, (n1.below D0 ln).cells⟩) | (go_at_call 9; (with_reducible refine ((C1.out) _).mono ?_); rintro e y1 ⟨rfl, hb1⟩; have D1 := bw_trans D0 hb1; have T1 : (y1.cell? ⟨ba, 0, none⟩ = some (.int .u64 r) ∧ y1.cell? ⟨ba, 1, none⟩ = some (.int .u64 c) ∧ y1.cell? ⟨ba, 2, none⟩ = some (.int .u64 b) ∧ y1.cell? ⟨ba, 3, none⟩ = some (.int .u64 p)) ∧ (y1.cell? ⟨bb, 0, none⟩ = some (.int .u64 r') ∧ y1.cell? ⟨bb, 1, none⟩ = some (.int .u64 c') ∧ y1.cell? ⟨bb, 2, none⟩ = some (.int .u64 b') ∧ y1.cell? ⟨bb, 3, none⟩ = some (.int .u64 p')) ∧ (y1.cell? ⟨bc, 0, none⟩ = some (.int .u64 r2) ∧ y1.cell? ⟨bc, 1, none⟩ = some (.int .u64 c2) ∧ y1.cell? ⟨bc, 2, none⟩ = some (.int .u64 b2) ∧ y1.cell? ⟨bc, 3, none⟩ = some (.int .u64 p2)) := ⟨(k1.below D1 lk).cells, (m1.below D1 lm).cells, (n1.below D1 ln).cells⟩) | (go_at_call 9; (with_reducible refine ((C2.out) _).mono ?_); rintro e y2 ⟨rfl, hb2⟩; have D2 := bw_trans D1 hb2; have T2 : (y2.cell? ⟨ba, 0, none⟩ = some (.int .u64 r) ∧ y2.cell? ⟨ba, 1, none⟩ = some (.int .u64 c) ∧ y2.cell? ⟨ba, 2, none⟩ = some (.int .u64 b) ∧ y2.cell? ⟨ba, 3, none⟩ = some (.int .u64 p)) ∧ (y2.cell? ⟨bb, 0, none⟩ = some (.int .u64 r') ∧ y2.cell? ⟨bb, 1, none⟩ = some (.int .u64 c') ∧ y2.cell? ⟨bb, 2, none⟩ = some (.int .u64 b') ∧ y2.cell? ⟨bb, 3, none⟩ = some (.int .u64 p')) ∧ (y2.cell? ⟨bc, 0, none⟩ = some (.int .u64 r2) ∧ y2.cell? ⟨bc, 1, none⟩ = some (.int .u64 c2) ∧ y2.cell? ⟨bc, 2, none⟩ = some (.int .u64 b2) ∧ y2.cell? ⟨bc, 3, none⟩ = some (.int .u64 p2)) := ⟨(k1.below D2 lk).cells, (m1.below D2 lm).cells, (n1.below D2 ln).cells⟩))
    obtain ⟨⟨c0, c1, c2, c3⟩, ⟨d0, d1, d2, d3⟩, ⟨e0, e1, e2, e3⟩⟩ := T2
    clear S0 T0 T1 hb0 hb1 hb2
    go_wp2_with fail
    refine (C3.out _).mono ?_
    rintro e y3 ⟨rfl, hb3⟩
    have D3 := bw_trans D2 hb3
    clear c0 c1 c2 c3 d0 d1 d2 d3 e0 e1 e2 e3 hb3 D0 D1 D2
    obtain ⟨c0, c1, c2, c3⟩ := (k1.below D3 lk).cells
    obtain ⟨d0, d1, d2, d3⟩ := (m1.below D3 lm).cells
    go_wp2_with fail
    refine (C4.out _).mono ?_
    rintro e y4 ⟨rfl, hb4⟩
    replace D3 := bw_trans D3 hb4
    clear c0 c1 c2 c3 d0 d1 d2 d3 hb4
    obtain ⟨c0, c1, c2, c3⟩ := (k1.below D3 lk).cells
    go_wp2_with fail
    (refine (C5.out _).mono ?_; rintro e y4 ⟨rfl, hb4⟩; replace D3 := bw_trans D3 hb4; clear c0 c1 c2 c3 hb4; obtain ⟨c0, c1, c2, c3⟩ := (k1.below D3 lk).cells)
    go_wp2_with fail
    refine (best_none ad cap _).mono ?_
    rintro e y5 ⟨rfl, hb5⟩
    have B5 := bw_trans (bw_trans B1 D3) hb5
    clear hb5
    go_wp2
    go_ret
    exact ⟨rfl, B5⟩
  · go_enter Try.func4, Try.ntmps4
    go_wp2_with fail
    refine (awake_any _).mono ?_
    rintro e w1 ⟨rfl, hb1⟩
    obtain ⟨ba, hba⟩ : ∃ x, x = w.heap.size := ⟨_, rfl⟩
    obtain ⟨bb, hbb⟩ : ∃ x, x = w.heap.size + 1 := ⟨_, rfl⟩
    obtain ⟨bc, hbc⟩ : ∃ x, x = w.heap.size + 1 + 1 := ⟨_, rfl⟩
    have z1 := size_box w (.cells #[.int .u64 r, .int .u64 c, .int .u64 b, .int .u64 p] 31)
    have z2 := size_box (w.alloc (.cells #[.int .u64 r, .int .u64 c, .int .u64 b, .int .u64 p] 31)) (.cells #[.int .u64 r', .int .u64 c', .int .u64 b', .int .u64 p'] 31)
    have g0 := blk_new 31 w r c b p
    have g1 := blk_new 31 (w.alloc (.cells #[.int .u64 r, .int .u64 c, .int .u64 b, .int .u64 p] 31)) r' c' b' p'
    have g2 := blk_new 31 ((w.alloc (.cells #[.int .u64 r, .int .u64 c, .int .u64 b, .int .u64 p] 31)).alloc (.cells #[.int .u64 r', .int .u64 c', .int .u64 b', .int .u64 p'] 31)) r2 c2 b2 p2
    rw [z1] at g1
    rw [z2, z1] at g2
    rw [← hba] at g0
    rw [← hbb] at g1
    rw [← hbc] at g2
    have k1 : Blk 31 w1 ba ⟨r, c, b, p⟩ := ((g0.next (below_box _ _)).next (below_box _ _)).next hb1
    have m1 : Blk 31 w1 bb ⟨r', c', b', p'⟩ := (g1.next (below_box _ _)).next hb1
    have n1 : Blk 31 w1 bc ⟨r2, c2, b2, p2⟩ := g2.next hb1
    have B1 : Below w.heap.size w w1 := bw_trans (bw_alloc (bw_alloc (below_box w (.cells #[.int .u64 r, .int .u64 c, .int .u64 b, .int .u64 p] 31)) (.cells #[.int .u64 r', .int .u64 c', .int .u64 b', .int .u64 p'] 31)) (.cells #[.int .u64 r2, .int .u64 c2, .int .u64 b2, .int .u64 p2] 31)) hb1
    clear z1 z2 g0 g1 g2 hb1
    rw [← hbc, ← hbb, ← hba]
    clear hbb hbc hba
    go_upto_region 5 with (fail)
    have lk := k1.lt
    have lm := m1.lt
    have ln := n1.lt
    have S0 : (w1.cell? ⟨ba, 0, none⟩ = some (.int .u64 r) ∧ w1.cell? ⟨ba, 1, none⟩ = some (.int .u64 c) ∧ w1.cell? ⟨ba, 2, none⟩ = some (.int .u64 b) ∧ w1.cell? ⟨ba, 3, none⟩ = some (.int .u64 p)) ∧ (w1.cell? ⟨bb, 0, none⟩ = some (.int .u64 r') ∧ w1.cell? ⟨bb, 1, none⟩ = some (.int .u64 c') ∧ w1.cell? ⟨bb, 2, none⟩ = some (.int .u64 b') ∧ w1.cell? ⟨bb, 3, none⟩ = some (.int .u64 p')) ∧ (w1.cell? ⟨bc, 0, none⟩ = some (.int .u64 r2) ∧ w1.cell? ⟨bc, 1, none⟩ = some (.int .u64 c2) ∧ w1.cell? ⟨bc, 2, none⟩ = some (.int .u64 b2) ∧ w1.cell? ⟨bc, 3, none⟩ = some (.int .u64 p2)) := ⟨k1.cells, m1.cells, n1.cells⟩
    go_region_held3 (fun w' => (w'.cell? ⟨ba, 0, none⟩ = some (.int .u64 r) ∧ w'.cell? ⟨ba, 1, none⟩ = some (.int .u64 c) ∧ w'.cell? ⟨ba, 2, none⟩ = some (.int .u64 b) ∧ w'.cell? ⟨ba, 3, none⟩ = some (.int .u64 p)) ∧ (w'.cell? ⟨bb, 0, none⟩ = some (.int .u64 r') ∧ w'.cell? ⟨bb, 1, none⟩ = some (.int .u64 c') ∧ w'.cell? ⟨bb, 2, none⟩ = some (.int .u64 b') ∧ w'.cell? ⟨bb, 3, none⟩ = some (.int .u64 p')) ∧ (w'.cell? ⟨bc, 0, none⟩ = some (.int .u64 r2) ∧ w'.cell? ⟨bc, 1, none⟩ = some (.int .u64 c2) ∧ w'.cell? ⟨bc, 2, none⟩ = some (.int .u64 b2) ∧ w'.cell? ⟨bc, 3, none⟩ = some (.int .u64 p2))) (first | exact S0 | exact T0 | exact T1 | exact T2) (first | (go_at_call 9; (with_reducible refine ((C0.out) _).mono ?_); rintro e y0 ⟨rfl, hb0⟩; have D0 := ((Below.refl w1.heap.size w1).drew).trans hb0; have T0 : (y0.cell? ⟨ba, 0, none⟩ = some (.int .u64 r) ∧ y0.cell? ⟨ba, 1, none⟩ = some (.int .u64 c) ∧ y0.cell? ⟨ba, 2, none⟩ = some (.int .u64 b) ∧ y0.cell? ⟨ba, 3, none⟩ = some (.int .u64 p)) ∧ (y0.cell? ⟨bb, 0, none⟩ = some (.int .u64 r') ∧ y0.cell? ⟨bb, 1, none⟩ = some (.int .u64 c') ∧ y0.cell? ⟨bb, 2, none⟩ = some (.int .u64 b') ∧ y0.cell? ⟨bb, 3, none⟩ = some (.int .u64 p')) ∧ (y0.cell? ⟨bc, 0, none⟩ = some (.int .u64 r2) ∧ y0.cell? ⟨bc, 1, none⟩ = some (.int .u64 c2) ∧ y0.cell? ⟨bc, 2, none⟩ = some (.int .u64 b2) ∧ y0.cell? ⟨bc, 3, none⟩ = some (.int .u64 p2)) := ⟨(k1.below D0 lk).cells, (m1.below D0 lm).cells, (n1.below D0 ln).cells⟩) | (go_at_call 9; (with_reducible refine ((C1.out) _).mono ?_); rintro e y1 ⟨rfl, hb1⟩; have D1 := bw_trans D0 hb1; have T1 : (y1.cell? ⟨ba, 0, none⟩ = some (.int .u64 r) ∧ y1.cell? ⟨ba, 1, none⟩ = some (.int .u64 c) ∧ y1.cell? ⟨ba, 2, none⟩ = some (.int .u64 b) ∧ y1.cell? ⟨ba, 3, none⟩ = some (.int .u64 p)) ∧ (y1.cell? ⟨bb, 0, none⟩ = some (.int .u64 r') ∧ y1.cell? ⟨bb, 1, none⟩ = some (.int .u64 c') ∧ y1.cell? ⟨bb, 2, none⟩ = some (.int .u64 b') ∧ y1.cell? ⟨bb, 3, none⟩ = some (.int .u64 p')) ∧ (y1.cell? ⟨bc, 0, none⟩ = some (.int .u64 r2) ∧ y1.cell? ⟨bc, 1, none⟩ = some (.int .u64 c2) ∧ y1.cell? ⟨bc, 2, none⟩ = some (.int .u64 b2) ∧ y1.cell? ⟨bc, 3, none⟩ = some (.int .u64 p2)) := ⟨(k1.below D1 lk).cells, (m1.below D1 lm).cells, (n1.below D1 ln).cells⟩) | (go_at_call 9; (with_reducible refine ((C2.out) _).mono ?_); rintro e y2 ⟨rfl, hb2⟩; have D2 := bw_trans D1 hb2; have T2 : (y2.cell? ⟨ba, 0, none⟩ = some (.int .u64 r) ∧ y2.cell? ⟨ba, 1, none⟩ = some (.int .u64 c) ∧ y2.cell? ⟨ba, 2, none⟩ = some (.int .u64 b) ∧ y2.cell? ⟨ba, 3, none⟩ = some (.int .u64 p)) ∧ (y2.cell? ⟨bb, 0, none⟩ = some (.int .u64 r') ∧ y2.cell? ⟨bb, 1, none⟩ = some (.int .u64 c') ∧ y2.cell? ⟨bb, 2, none⟩ = some (.int .u64 b') ∧ y2.cell? ⟨bb, 3, none⟩ = some (.int .u64 p')) ∧ (y2.cell? ⟨bc, 0, none⟩ = some (.int .u64 r2) ∧ y2.cell? ⟨bc, 1, none⟩ = some (.int .u64 c2) ∧ y2.cell? ⟨bc, 2, none⟩ = some (.int .u64 b2) ∧ y2.cell? ⟨bc, 3, none⟩ = some (.int .u64 p2)) := ⟨(k1.below D2 lk).cells, (m1.below D2 lm).cells, (n1.below D2 ln).cells⟩))
    obtain ⟨⟨c0, c1, c2, c3⟩, ⟨d0, d1, d2, d3⟩, ⟨e0, e1, e2, e3⟩⟩ := T2
    clear S0 T0 T1 hb0 hb1 hb2
    go_wp2_with fail
    refine (C3.out _).mono ?_
    rintro e y3 ⟨rfl, hb3⟩
    have D3 := bw_trans D2 hb3
    clear c0 c1 c2 c3 d0 d1 d2 d3 e0 e1 e2 e3 hb3 D0 D1 D2
    obtain ⟨c0, c1, c2, c3⟩ := (k1.below D3 lk).cells
    obtain ⟨d0, d1, d2, d3⟩ := (m1.below D3 lm).cells
    go_wp2_with fail
    refine (C4.out _).mono ?_
    rintro e y4 ⟨rfl, hb4⟩
    replace D3 := bw_trans D3 hb4
    clear c0 c1 c2 c3 d0 d1 d2 d3 hb4
    obtain ⟨c0, c1, c2, c3⟩ := (k1.below D3 lk).cells
    go_wp2_with fail
    (refine (C5.out _).mono ?_; rintro e y4 ⟨rfl, hb4⟩; replace D3 := bw_trans D3 hb4; clear c0 c1 c2 c3 hb4; obtain ⟨c0, c1, c2, c3⟩ := (k1.below D3 lk).cells)
    go_wp2_with fail
    refine (best_none ad cap _).mono ?_
    rintro e y5 ⟨rfl, hb5⟩
    have B5 := bw_trans (bw_trans B1 D3) hb5
    clear hb5
    go_wp2
    go_ret
    exact ⟨rfl, B5⟩
  · go_enter Try.func4, Try.ntmps4
    go_wp2_with fail
    refine (awake_any _).mono ?_
    rintro e w1 ⟨rfl, hb1⟩
    obtain ⟨ba, hba⟩ : ∃ x, x = w.heap.size := ⟨_, rfl⟩
    obtain ⟨bb, hbb⟩ : ∃ x, x = w.heap.size + 1 := ⟨_, rfl⟩
    obtain ⟨bc, hbc⟩ : ∃ x, x = w.heap.size + 1 + 1 := ⟨_, rfl⟩
    have z1 := size_box w (.cells #[.int .u64 r, .int .u64 c, .int .u64 b, .int .u64 p] 31)
    have z2 := size_box (w.alloc (.cells #[.int .u64 r, .int .u64 c, .int .u64 b, .int .u64 p] 31)) (.cells #[.int .u64 r', .int .u64 c', .int .u64 b', .int .u64 p'] 31)
    have g0 := blk_new 31 w r c b p
    have g1 := blk_new 31 (w.alloc (.cells #[.int .u64 r, .int .u64 c, .int .u64 b, .int .u64 p] 31)) r' c' b' p'
    have g2 := blk_new 31 ((w.alloc (.cells #[.int .u64 r, .int .u64 c, .int .u64 b, .int .u64 p] 31)).alloc (.cells #[.int .u64 r', .int .u64 c', .int .u64 b', .int .u64 p'] 31)) r2 c2 b2 p2
    rw [z1] at g1
    rw [z2, z1] at g2
    rw [← hba] at g0
    rw [← hbb] at g1
    rw [← hbc] at g2
    have k1 : Blk 31 w1 ba ⟨r, c, b, p⟩ := ((g0.next (below_box _ _)).next (below_box _ _)).next hb1
    have m1 : Blk 31 w1 bb ⟨r', c', b', p'⟩ := (g1.next (below_box _ _)).next hb1
    have n1 : Blk 31 w1 bc ⟨r2, c2, b2, p2⟩ := g2.next hb1
    have B1 : Below w.heap.size w w1 := bw_trans (bw_alloc (bw_alloc (below_box w (.cells #[.int .u64 r, .int .u64 c, .int .u64 b, .int .u64 p] 31)) (.cells #[.int .u64 r', .int .u64 c', .int .u64 b', .int .u64 p'] 31)) (.cells #[.int .u64 r2, .int .u64 c2, .int .u64 b2, .int .u64 p2] 31)) hb1
    clear z1 z2 g0 g1 g2 hb1
    rw [← hbc, ← hbb, ← hba]
    clear hbb hbc hba
    go_upto_region 5 with (fail)
    have lk := k1.lt
    have lm := m1.lt
    have ln := n1.lt
    have S0 : (w1.cell? ⟨ba, 0, none⟩ = some (.int .u64 r) ∧ w1.cell? ⟨ba, 1, none⟩ = some (.int .u64 c) ∧ w1.cell? ⟨ba, 2, none⟩ = some (.int .u64 b) ∧ w1.cell? ⟨ba, 3, none⟩ = some (.int .u64 p)) ∧ (w1.cell? ⟨bb, 0, none⟩ = some (.int .u64 r') ∧ w1.cell? ⟨bb, 1, none⟩ = some (.int .u64 c') ∧ w1.cell? ⟨bb, 2, none⟩ = some (.int .u64 b') ∧ w1.cell? ⟨bb, 3, none⟩ = some (.int .u64 p')) ∧ (w1.cell? ⟨bc, 0, none⟩ = some (.int .u64 r2) ∧ w1.cell? ⟨bc, 1, none⟩ = some (.int .u64 c2) ∧ w1.cell? ⟨bc, 2, none⟩ = some (.int .u64 b2) ∧ w1.cell? ⟨bc, 3, none⟩ = some (.int .u64 p2)) := ⟨k1.cells, m1.cells, n1.cells⟩
    go_region_held3 (fun w' => (w'.cell? ⟨ba, 0, none⟩ = some (.int .u64 r) ∧ w'.cell? ⟨ba, 1, none⟩ = some (.int .u64 c) ∧ w'.cell? ⟨ba, 2, none⟩ = some (.int .u64 b) ∧ w'.cell? ⟨ba, 3, none⟩ = some (.int .u64 p)) ∧ (w'.cell? ⟨bb, 0, none⟩ = some (.int .u64 r') ∧ w'.cell? ⟨bb, 1, none⟩ = some (.int .u64 c') ∧ w'.cell? ⟨bb, 2, none⟩ = some (.int .u64 b') ∧ w'.cell? ⟨bb, 3, none⟩ = some (.int .u64 p')) ∧ (w'.cell? ⟨bc, 0, none⟩ = some (.int .u64 r2) ∧ w'.cell? ⟨bc, 1, none⟩ = some (.int .u64 c2) ∧ w'.cell? ⟨bc, 2, none⟩ = some (.int .u64 b2) ∧ w'.cell? ⟨bc, 3, none⟩ = some (.int .u64 p2))) (first | exact S0 | exact T0 | exact T1 | exact T2) (first | (go_at_call 9; (with_reducible refine ((C0.out) _).mono ?_); rintro e y0 ⟨rfl, hb0⟩; have D0 := ((Below.refl w1.heap.size w1).drew).trans hb0; have T0 : (y0.cell? ⟨ba, 0, none⟩ = some (.int .u64 r) ∧ y0.cell? ⟨ba, 1, none⟩ = some (.int .u64 c) ∧ y0.cell? ⟨ba, 2, none⟩ = some (.int .u64 b) ∧ y0.cell? ⟨ba, 3, none⟩ = some (.int .u64 p)) ∧ (y0.cell? ⟨bb, 0, none⟩ = some (.int .u64 r') ∧ y0.cell? ⟨bb, 1, none⟩ = some (.int .u64 c') ∧ y0.cell? ⟨bb, 2, none⟩ = some (.int .u64 b') ∧ y0.cell? ⟨bb, 3, none⟩ = some (.int .u64 p')) ∧ (y0.cell? ⟨bc, 0, none⟩ = some (.int .u64 r2) ∧ y0.cell? ⟨bc, 1, none⟩ = some (.int .u64 c2) ∧ y0.cell? ⟨bc, 2, none⟩ = some (.int .u64 b2) ∧ y0.cell? ⟨bc, 3, none⟩ = some (.int .u64 p2)) := ⟨(k1.below D0 lk).cells, (m1.below D0 lm).cells, (n1.below D0 ln).cells⟩) | (go_at_call 9; (with_reducible refine ((C1.out) _).mono ?_); rintro e y1 ⟨rfl, hb1⟩; have D1 := bw_trans D0 hb1; have T1 : (y1.cell? ⟨ba, 0, none⟩ = some (.int .u64 r) ∧ y1.cell? ⟨ba, 1, none⟩ = some (.int .u64 c) ∧ y1.cell? ⟨ba, 2, none⟩ = some (.int .u64 b) ∧ y1.cell? ⟨ba, 3, none⟩ = some (.int .u64 p)) ∧ (y1.cell? ⟨bb, 0, none⟩ = some (.int .u64 r') ∧ y1.cell? ⟨bb, 1, none⟩ = some (.int .u64 c') ∧ y1.cell? ⟨bb, 2, none⟩ = some (.int .u64 b') ∧ y1.cell? ⟨bb, 3, none⟩ = some (.int .u64 p')) ∧ (y1.cell? ⟨bc, 0, none⟩ = some (.int .u64 r2) ∧ y1.cell? ⟨bc, 1, none⟩ = some (.int .u64 c2) ∧ y1.cell? ⟨bc, 2, none⟩ = some (.int .u64 b2) ∧ y1.cell? ⟨bc, 3, none⟩ = some (.int .u64 p2)) := ⟨(k1.below D1 lk).cells, (m1.below D1 lm).cells, (n1.below D1 ln).cells⟩) | (go_at_call 9; (with_reducible refine ((C2.out) _).mono ?_); rintro e y2 ⟨rfl, hb2⟩; have D2 := bw_trans D1 hb2; have T2 : (y2.cell? ⟨ba, 0, none⟩ = some (.int .u64 r) ∧ y2.cell? ⟨ba, 1, none⟩ = some (.int .u64 c) ∧ y2.cell? ⟨ba, 2, none⟩ = some (.int .u64 b) ∧ y2.cell? ⟨ba, 3, none⟩ = some (.int .u64 p)) ∧ (y2.cell? ⟨bb, 0, none⟩ = some (.int .u64 r') ∧ y2.cell? ⟨bb, 1, none⟩ = some (.int .u64 c') ∧ y2.cell? ⟨bb, 2, none⟩ = some (.int .u64 b') ∧ y2.cell? ⟨bb, 3, none⟩ = some (.int .u64 p')) ∧ (y2.cell? ⟨bc, 0, none⟩ = some (.int .u64 r2) ∧ y2.cell? ⟨bc, 1, none⟩ = some (.int .u64 c2) ∧ y2.cell? ⟨bc, 2, none⟩ = some (.int .u64 b2) ∧ y2.cell? ⟨bc, 3, none⟩ = some (.int .u64 p2)) := ⟨(k1.below D2 lk).cells, (m1.below D2 lm).cells, (n1.below D2 ln).cells⟩))
    obtain ⟨⟨c0, c1, c2, c3⟩, ⟨d0, d1, d2, d3⟩, ⟨e0, e1, e2, e3⟩⟩ := T2
    clear S0 T0 T1 hb0 hb1 hb2
    go_wp2_with fail
    refine (C3.out _).mono ?_
    rintro e y3 ⟨rfl, hb3⟩
    have D3 := bw_trans D2 hb3
    clear c0 c1 c2 c3 d0 d1 d2 d3 e0 e1 e2 e3 hb3 D0 D1 D2
    obtain ⟨c0, c1, c2, c3⟩ := (k1.below D3 lk).cells
    obtain ⟨d0, d1, d2, d3⟩ := (m1.below D3 lm).cells
    go_wp2_with fail
    (refine (C5.out _).mono ?_; rintro e y4 ⟨rfl, hb4⟩; replace D3 := bw_trans D3 hb4; clear c0 c1 c2 c3 d0 d1 d2 d3 hb4; obtain ⟨c0, c1, c2, c3⟩ := (k1.below D3 lk).cells)
    go_wp2_with fail
    refine (best_none ad cap _).mono ?_
    rintro e y5 ⟨rfl, hb5⟩
    have B5 := bw_trans (bw_trans B1 D3) hb5
    clear hb5
    go_wp2
    go_ret
    exact ⟨rfl, B5⟩
  · go_enter Try.func4, Try.ntmps4
    go_wp2_with fail
    refine (awake_any _).mono ?_
    rintro e w1 ⟨rfl, hb1⟩
    obtain ⟨ba, hba⟩ : ∃ x, x = w.heap.size := ⟨_, rfl⟩
    obtain ⟨bb, hbb⟩ : ∃ x, x = w.heap.size + 1 := ⟨_, rfl⟩
    obtain ⟨bc, hbc⟩ : ∃ x, x = w.heap.size + 1 + 1 := ⟨_, rfl⟩
    have z1 := size_box w (.cells #[.int .u64 r, .int .u64 c, .int .u64 b, .int .u64 p] 31)
    have z2 := size_box (w.alloc (.cells #[.int .u64 r, .int .u64 c, .int .u64 b, .int .u64 p] 31)) (.cells #[.int .u64 r', .int .u64 c', .int .u64 b', .int .u64 p'] 31)
    have g0 := blk_new 31 w r c b p
    have g1 := blk_new 31 (w.alloc (.cells #[.int .u64 r, .int .u64 c, .int .u64 b, .int .u64 p] 31)) r' c' b' p'
    have g2 := blk_new 31 ((w.alloc (.cells #[.int .u64 r, .int .u64 c, .int .u64 b, .int .u64 p] 31)).alloc (.cells #[.int .u64 r', .int .u64 c', .int .u64 b', .int .u64 p'] 31)) r2 c2 b2 p2
    rw [z1] at g1
    rw [z2, z1] at g2
    rw [← hba] at g0
    rw [← hbb] at g1
    rw [← hbc] at g2
    have k1 : Blk 31 w1 ba ⟨r, c, b, p⟩ := ((g0.next (below_box _ _)).next (below_box _ _)).next hb1
    have m1 : Blk 31 w1 bb ⟨r', c', b', p'⟩ := (g1.next (below_box _ _)).next hb1
    have n1 : Blk 31 w1 bc ⟨r2, c2, b2, p2⟩ := g2.next hb1
    have B1 : Below w.heap.size w w1 := bw_trans (bw_alloc (bw_alloc (below_box w (.cells #[.int .u64 r, .int .u64 c, .int .u64 b, .int .u64 p] 31)) (.cells #[.int .u64 r', .int .u64 c', .int .u64 b', .int .u64 p'] 31)) (.cells #[.int .u64 r2, .int .u64 c2, .int .u64 b2, .int .u64 p2] 31)) hb1
    clear z1 z2 g0 g1 g2 hb1
    rw [← hbc, ← hbb, ← hba]
    clear hbb hbc hba
    go_upto_region 5 with (fail)
    have lk := k1.lt
    have lm := m1.lt
    have ln := n1.lt
    have S0 : (w1.cell? ⟨ba, 0, none⟩ = some (.int .u64 r) ∧ w1.cell? ⟨ba, 1, none⟩ = some (.int .u64 c) ∧ w1.cell? ⟨ba, 2, none⟩ = some (.int .u64 b) ∧ w1.cell? ⟨ba, 3, none⟩ = some (.int .u64 p)) ∧ (w1.cell? ⟨bb, 0, none⟩ = some (.int .u64 r') ∧ w1.cell? ⟨bb, 1, none⟩ = some (.int .u64 c') ∧ w1.cell? ⟨bb, 2, none⟩ = some (.int .u64 b') ∧ w1.cell? ⟨bb, 3, none⟩ = some (.int .u64 p')) ∧ (w1.cell? ⟨bc, 0, none⟩ = some (.int .u64 r2) ∧ w1.cell? ⟨bc, 1, none⟩ = some (.int .u64 c2) ∧ w1.cell? ⟨bc, 2, none⟩ = some (.int .u64 b2) ∧ w1.cell? ⟨bc, 3, none⟩ = some (.int .u64 p2)) := ⟨k1.cells, m1.cells, n1.cells⟩
    go_region_held3 (fun w' => (w'.cell? ⟨ba, 0, none⟩ = some (.int .u64 r) ∧ w'.cell? ⟨ba, 1, none⟩ = some (.int .u64 c) ∧ w'.cell? ⟨ba, 2, none⟩ = some (.int .u64 b) ∧ w'.cell? ⟨ba, 3, none⟩ = some (.int .u64 p)) ∧ (w'.cell? ⟨bb, 0, none⟩ = some (.int .u64 r') ∧ w'.cell? ⟨bb, 1, none⟩ = some (.int .u64 c') ∧ w'.cell? ⟨bb, 2, none⟩ = some (.int .u64 b') ∧ w'.cell? ⟨bb, 3, none⟩ = some (.int .u64 p')) ∧ (w'.cell? ⟨bc, 0, none⟩ = some (.int .u64 r2) ∧ w'.cell? ⟨bc, 1, none⟩ = some (.int .u64 c2) ∧ w'.cell? ⟨bc, 2, none⟩ = some (.int .u64 b2) ∧ w'.cell? ⟨bc, 3, none⟩ = some (.int .u64 p2))) (first | exact S0 | exact T0 | exact T1 | exact T2) (first | (go_at_call 9; (with_reducible refine ((C0.out) _).mono ?_); rintro e y0 ⟨rfl, hb0⟩; have D0 := ((Below.refl w1.heap.size w1).drew).trans hb0; have T0 : (y0.cell? ⟨ba, 0, none⟩ = some (.int .u64 r) ∧ y0.cell? ⟨ba, 1, none⟩ = some (.int .u64 c) ∧ y0.cell? ⟨ba, 2, none⟩ = some (.int .u64 b) ∧ y0.cell? ⟨ba, 3, none⟩ = some (.int .u64 p)) ∧ (y0.cell? ⟨bb, 0, none⟩ = some (.int .u64 r') ∧ y0.cell? ⟨bb, 1, none⟩ = some (.int .u64 c') ∧ y0.cell? ⟨bb, 2, none⟩ = some (.int .u64 b') ∧ y0.cell? ⟨bb, 3, none⟩ = some (.int .u64 p')) ∧ (y0.cell? ⟨bc, 0, none⟩ = some (.int .u64 r2) ∧ y0.cell? ⟨bc, 1, none⟩ = some (.int .u64 c2) ∧ y0.cell? ⟨bc, 2, none⟩ = some (.int .u64 b2) ∧ y0.cell? ⟨bc, 3, none⟩ = some (.int .u64 p2)) := ⟨(k1.below D0 lk).cells, (m1.below D0 lm).cells, (n1.below D0 ln).cells⟩) | (go_at_call 9; (with_reducible refine ((C1.out) _).mono ?_); rintro e y1 ⟨rfl, hb1⟩; have D1 := bw_trans D0 hb1; have T1 : (y1.cell? ⟨ba, 0, none⟩ = some (.int .u64 r) ∧ y1.cell? ⟨ba, 1, none⟩ = some (.int .u64 c) ∧ y1.cell? ⟨ba, 2, none⟩ = some (.int .u64 b) ∧ y1.cell? ⟨ba, 3, none⟩ = some (.int .u64 p)) ∧ (y1.cell? ⟨bb, 0, none⟩ = some (.int .u64 r') ∧ y1.cell? ⟨bb, 1, none⟩ = some (.int .u64 c') ∧ y1.cell? ⟨bb, 2, none⟩ = some (.int .u64 b') ∧ y1.cell? ⟨bb, 3, none⟩ = some (.int .u64 p')) ∧ (y1.cell? ⟨bc, 0, none⟩ = some (.int .u64 r2) ∧ y1.cell? ⟨bc, 1, none⟩ = some (.int .u64 c2) ∧ y1.cell? ⟨bc, 2, none⟩ = some (.int .u64 b2) ∧ y1.cell? ⟨bc, 3, none⟩ = some (.int .u64 p2)) := ⟨(k1.below D1 lk).cells, (m1.below D1 lm).cells, (n1.below D1 ln).cells⟩) | (go_at_call 9; (with_reducible refine ((C2.out) _).mono ?_); rintro e y2 ⟨rfl, hb2⟩; have D2 := bw_trans D1 hb2; have T2 : (y2.cell? ⟨ba, 0, none⟩ = some (.int .u64 r) ∧ y2.cell? ⟨ba, 1, none⟩ = some (.int .u64 c) ∧ y2.cell? ⟨ba, 2, none⟩ = some (.int .u64 b) ∧ y2.cell? ⟨ba, 3, none⟩ = some (.int .u64 p)) ∧ (y2.cell? ⟨bb, 0, none⟩ = some (.int .u64 r') ∧ y2.cell? ⟨bb, 1, none⟩ = some (.int .u64 c') ∧ y2.cell? ⟨bb, 2, none⟩ = some (.int .u64 b') ∧ y2.cell? ⟨bb, 3, none⟩ = some (.int .u64 p')) ∧ (y2.cell? ⟨bc, 0, none⟩ = some (.int .u64 r2) ∧ y2.cell? ⟨bc, 1, none⟩ = some (.int .u64 c2) ∧ y2.cell? ⟨bc, 2, none⟩ = some (.int .u64 b2) ∧ y2.cell? ⟨bc, 3, none⟩ = some (.int .u64 p2)) := ⟨(k1.below D2 lk).cells, (m1.below D2 lm).cells, (n1.below D2 ln).cells⟩))
    obtain ⟨⟨c0, c1, c2, c3⟩, ⟨d0, d1, d2, d3⟩, ⟨e0, e1, e2, e3⟩⟩ := T2
    clear S0 T0 T1 hb0 hb1 hb2
    go_wp2_with fail
    refine (C3.out _).mono ?_
    rintro e y3 ⟨rfl, hb3⟩
    have D3 := bw_trans D2 hb3
    clear c0 c1 c2 c3 d0 d1 d2 d3 e0 e1 e2 e3 hb3 D0 D1 D2
    obtain ⟨c0, c1, c2, c3⟩ := (k1.below D3 lk).cells
    obtain ⟨d0, d1, d2, d3⟩ := (m1.below D3 lm).cells
    go_wp2_with fail
    (refine (C5.out _).mono ?_; rintro e y4 ⟨rfl, hb4⟩; replace D3 := bw_trans D3 hb4; clear c0 c1 c2 c3 d0 d1 d2 d3 hb4; obtain ⟨c0, c1, c2, c3⟩ := (k1.below D3 lk).cells)
    go_wp2_with fail
    refine (best_none ad cap _).mono ?_
    rintro e y5 ⟨rfl, hb5⟩
    have B5 := bw_trans (bw_trans B1 D3) hb5
    clear hb5
    go_wp2
    go_ret
    exact ⟨rfl, B5⟩

/-- Behind rounds: i, the row as it was. -/
def OInv (x off len : Nat) (w : World) (l : List Vc) (i : Value) (wr : World) : Prop :=
  ∃ k : Nat, k ≤ len ∧ i = .int .i64 k ∧ IsVecs wr x off len l ∧ Below w.heap.size w wr

set_option maxHeartbeats 4000000 in
theorem order_some (r c b p r' c' b' p' r2 c2 b2 p2 : Int) (x off len cap : Nat) (l : List Vc) (K : Nat) (s0 s1 s2 s3 : Int) (hlen : len ≤ 100) (hpos : 0 < len) (hK : bestI l len = (K : Int)) (HF : Hid (First l len K)) (hKl : K < len) (hv : Hid (l[K]? = some ⟨s0, s1, s2, s3⟩)) (w : World) (hI : IsVecs w x off len l) (AB BC AC BA : Int) (E SB : Bool)
    (HAB : Hid (cmpR ⟨r, c, b, p⟩ ⟨r', c', b', p'⟩ = AB)) (HBC : Hid (cmpR ⟨r', c', b', p'⟩ ⟨r2, c2, b2, p2⟩ = BC)) (HAC : Hid (cmpR ⟨r, c, b, p⟩ ⟨r2, c2, b2, p2⟩ = AC)) (HBA : Hid (cmpR ⟨r', c', b', p'⟩ ⟨r, c, b, p⟩ = BA))
    (HE : Hid (decide ((⟨r, c, b, p⟩ : Vc) = ⟨r', c', b', p'⟩) = E)) (HSB : Hid (superB ⟨r, c, b, p⟩ ⟨r', c', b', p'⟩ = SB)) (ub : u64B b) (up : u64B p) (ub' : u64B b') (up' : u64B p')
    (hcase : ((AB = -1 ∧ BA = 1 ∧ E = false ∧ SB = true) ∧ BC < 0 ∧ AC < 0) ∨ ((AB = -1 ∧ BA = 1 ∧ E = false ∧ SB = true) ∧ ¬ BC < 0) ∨ (AB = 0 ∧ BA = 0 ∧ E = true) ∨ (AB = 1 ∧ BA = -1 ∧ E = false)) :
    Calls Try.prog 4 #[vv r c b p, vv r' c' b' p', vv r2 c2 b2 p2, .slice (some ⟨x, off, none⟩) len cap] w fun e w' => e = .returned (.bool true) ∧ Below w.heap.size w w' := by
  have C0 := Lib.hid (fun w' => compare_w r c b p r' c' b' p' AB w' HAB)
  have C1 := Lib.hid (fun w' => compare_w r' c' b' p' r2 c2 b2 p2 BC w' HBC)
  have C2 := Lib.hid (fun w' => compare_w r c b p r2 c2 b2 p2 AC w' HAC)
  have C3 := Lib.hid (fun w' => compare_w r' c' b' p' r c b p BA w' HBA)
  have C4 := Lib.hid (fun w' => super_w r c b p r' c' b' p' SB w' HSB ub up ub' up')
  have C5 := Lib.hid (fun w' => super_w r c b p r c b p true w' (Lib.hid (super_self _)) ub up ub up)
  have hq := run_vcEq r c b p r' c' b' p'
  rw [HE.out] at hq
  clear HAB HBC HAC HBA HSB HE ub up ub' up'
  rcases hcase with ⟨⟨rfl, rfl, rfl, rfl⟩, h1, h2⟩ | ⟨⟨rfl, rfl, rfl, rfl⟩, h1⟩ | ⟨rfl, rfl, rfl⟩ | ⟨rfl, rfl, rfl⟩
  · go_enter Try.func4, Try.ntmps4
    go_wp2_with fail
    refine (awake_any _).mono ?_
    rintro e w1 ⟨rfl, hb1⟩
    obtain ⟨ba, hba⟩ : ∃ x, x = w.heap.size := ⟨_, rfl⟩
    obtain ⟨bb, hbb⟩ : ∃ x, x = w.heap.size + 1 := ⟨_, rfl⟩
    obtain ⟨bc, hbc⟩ : ∃ x, x = w.heap.size + 1 + 1 := ⟨_, rfl⟩
    have z1 := size_box w (.cells #[.int .u64 r, .int .u64 c, .int .u64 b, .int .u64 p] 31)
    have z2 := size_box (w.alloc (.cells #[.int .u64 r, .int .u64 c, .int .u64 b, .int .u64 p] 31)) (.cells #[.int .u64 r', .int .u64 c', .int .u64 b', .int .u64 p'] 31)
    have g0 := blk_new 31 w r c b p
    have g1 := blk_new 31 (w.alloc (.cells #[.int .u64 r, .int .u64 c, .int .u64 b, .int .u64 p] 31)) r' c' b' p'
    have g2 := blk_new 31 ((w.alloc (.cells #[.int .u64 r, .int .u64 c, .int .u64 b, .int .u64 p] 31)).alloc (.cells #[.int .u64 r', .int .u64 c', .int .u64 b', .int .u64 p'] 31)) r2 c2 b2 p2
    rw [z1] at g1
    rw [z2, z1] at g2
    rw [← hba] at g0
    rw [← hbb] at g1
    rw [← hbc] at g2
    have k1 : Blk 31 w1 ba ⟨r, c, b, p⟩ := ((g0.next (below_box _ _)).next (below_box _ _)).next hb1
    have m1 : Blk 31 w1 bb ⟨r', c', b', p'⟩ := (g1.next (below_box _ _)).next hb1
    have n1 : Blk 31 w1 bc ⟨r2, c2, b2, p2⟩ := g2.next hb1
    have B1 : Below w.heap.size w w1 := bw_trans (bw_alloc (bw_alloc (below_box w (.cells #[.int .u64 r, .int .u64 c, .int .u64 b, .int .u64 p] 31)) (.cells #[.int .u64 r', .int .u64 c', .int .u64 b', .int .u64 p'] 31)) (.cells #[.int .u64 r2, .int .u64 c2, .int .u64 b2, .int .u64 p2] 31)) hb1
    clear z1 z2 g0 g1 g2 hb1
    rw [← hbc, ← hbb, ← hba]
    clear hbb hbc hba
    go_upto_region 5 with (fail)
    have lk := k1.lt
    have lm := m1.lt
    have ln := n1.lt
    have S0 : (w1.cell? ⟨ba, 0, none⟩ = some (.int .u64 r) ∧ w1.cell? ⟨ba, 1, none⟩ = some (.int .u64 c) ∧ w1.cell? ⟨ba, 2, none⟩ = some (.int .u64 b) ∧ w1.cell? ⟨ba, 3, none⟩ = some (.int .u64 p)) ∧ (w1.cell? ⟨bb, 0, none⟩ = some (.int .u64 r') ∧ w1.cell? ⟨bb, 1, none⟩ = some (.int .u64 c') ∧ w1.cell? ⟨bb, 2, none⟩ = some (.int .u64 b') ∧ w1.cell? ⟨bb, 3, none⟩ = some (.int .u64 p')) ∧ (w1.cell? ⟨bc, 0, none⟩ = some (.int .u64 r2) ∧ w1.cell? ⟨bc, 1, none⟩ = some (.int .u64 c2) ∧ w1.cell? ⟨bc, 2, none⟩ = some (.int .u64 b2) ∧ w1.cell? ⟨bc, 3, none⟩ = some (.int .u64 p2)) := ⟨k1.cells, m1.cells, n1.cells⟩
    go_region_held3 (fun w' => (w'.cell? ⟨ba, 0, none⟩ = some (.int .u64 r) ∧ w'.cell? ⟨ba, 1, none⟩ = some (.int .u64 c) ∧ w'.cell? ⟨ba, 2, none⟩ = some (.int .u64 b) ∧ w'.cell? ⟨ba, 3, none⟩ = some (.int .u64 p)) ∧ (w'.cell? ⟨bb, 0, none⟩ = some (.int .u64 r') ∧ w'.cell? ⟨bb, 1, none⟩ = some (.int .u64 c') ∧ w'.cell? ⟨bb, 2, none⟩ = some (.int .u64 b') ∧ w'.cell? ⟨bb, 3, none⟩ = some (.int .u64 p')) ∧ (w'.cell? ⟨bc, 0, none⟩ = some (.int .u64 r2) ∧ w'.cell? ⟨bc, 1, none⟩ = some (.int .u64 c2) ∧ w'.cell? ⟨bc, 2, none⟩ = some (.int .u64 b2) ∧ w'.cell? ⟨bc, 3, none⟩ = some (.int .u64 p2))) (first | exact S0 | exact T0 | exact T1 | exact T2) (first | (go_at_call 9; (with_reducible refine ((C0.out) _).mono ?_); rintro e y0 ⟨rfl, hb0⟩; have D0 := ((Below.refl w1.heap.size w1).drew).trans hb0; have T0 : (y0.cell? ⟨ba, 0, none⟩ = some (.int .u64 r) ∧ y0.cell? ⟨ba, 1, none⟩ = some (.int .u64 c) ∧ y0.cell? ⟨ba, 2, none⟩ = some (.int .u64 b) ∧ y0.cell? ⟨ba, 3, none⟩ = some (.int .u64 p)) ∧ (y0.cell? ⟨bb, 0, none⟩ = some (.int .u64 r') ∧ y0.cell? ⟨bb, 1, none⟩ = some (.int .u64 c') ∧ y0.cell? ⟨bb, 2, none⟩ = some (.int .u64 b') ∧ y0.cell? ⟨bb, 3, none⟩ = some (.int .u64 p')) ∧ (y0.cell? ⟨bc, 0, none⟩ = some (.int .u64 r2) ∧ y0.cell? ⟨bc, 1, none⟩ = some (.int .u64 c2) ∧ y0.cell? ⟨bc, 2, none⟩ = some (.int .u64 b2) ∧ y0.cell? ⟨bc, 3, none⟩ = some (.int .u64 p2)) := ⟨(k1.below D0 lk).cells, (m1.below D0 lm).cells, (n1.below D0 ln).cells⟩) | (go_at_call 9; (with_reducible refine ((C1.out) _).mono ?_); rintro e y1 ⟨rfl, hb1⟩; have D1 := bw_trans D0 hb1; have T1 : (y1.cell? ⟨ba, 0, none⟩ = some (.int .u64 r) ∧ y1.cell? ⟨ba, 1, none⟩ = some (.int .u64 c) ∧ y1.cell? ⟨ba, 2, none⟩ = some (.int .u64 b) ∧ y1.cell? ⟨ba, 3, none⟩ = some (.int .u64 p)) ∧ (y1.cell? ⟨bb, 0, none⟩ = some (.int .u64 r') ∧ y1.cell? ⟨bb, 1, none⟩ = some (.int .u64 c') ∧ y1.cell? ⟨bb, 2, none⟩ = some (.int .u64 b') ∧ y1.cell? ⟨bb, 3, none⟩ = some (.int .u64 p')) ∧ (y1.cell? ⟨bc, 0, none⟩ = some (.int .u64 r2) ∧ y1.cell? ⟨bc, 1, none⟩ = some (.int .u64 c2) ∧ y1.cell? ⟨bc, 2, none⟩ = some (.int .u64 b2) ∧ y1.cell? ⟨bc, 3, none⟩ = some (.int .u64 p2)) := ⟨(k1.below D1 lk).cells, (m1.below D1 lm).cells, (n1.below D1 ln).cells⟩) | (go_at_call 9; (with_reducible refine ((C2.out) _).mono ?_); rintro e y2 ⟨rfl, hb2⟩; have D2 := bw_trans D1 hb2; have T2 : (y2.cell? ⟨ba, 0, none⟩ = some (.int .u64 r) ∧ y2.cell? ⟨ba, 1, none⟩ = some (.int .u64 c) ∧ y2.cell? ⟨ba, 2, none⟩ = some (.int .u64 b) ∧ y2.cell? ⟨ba, 3, none⟩ = some (.int .u64 p)) ∧ (y2.cell? ⟨bb, 0, none⟩ = some (.int .u64 r') ∧ y2.cell? ⟨bb, 1, none⟩ = some (.int .u64 c') ∧ y2.cell? ⟨bb, 2, none⟩ = some (.int .u64 b') ∧ y2.cell? ⟨bb, 3, none⟩ = some (.int .u64 p')) ∧ (y2.cell? ⟨bc, 0, none⟩ = some (.int .u64 r2) ∧ y2.cell? ⟨bc, 1, none⟩ = some (.int .u64 c2) ∧ y2.cell? ⟨bc, 2, none⟩ = some (.int .u64 b2) ∧ y2.cell? ⟨bc, 3, none⟩ = some (.int .u64 p2)) := ⟨(k1.below D2 lk).cells, (m1.below D2 lm).cells, (n1.below D2 ln).cells⟩))
    obtain ⟨⟨c0, c1, c2, c3⟩, ⟨d0, d1, d2, d3⟩, ⟨e0, e1, e2, e3⟩⟩ := T2
    clear S0 T0 T1 hb0 hb1 hb2
    go_wp2_with fail
    refine (C3.out _).mono ?_
    rintro e y3 ⟨rfl, hb3⟩
    have D3 := bw_trans D2 hb3
    clear c0 c1 c2 c3 d0 d1 d2 d3 e0 e1 e2 e3 hb3 D0 D1 D2
    obtain ⟨c0, c1, c2, c3⟩ := (k1.below D3 lk).cells
    obtain ⟨d0, d1, d2, d3⟩ := (m1.below D3 lm).cells
    go_wp2_with fail
    refine (C4.out _).mono ?_
    rintro e y4 ⟨rfl, hb4⟩
    replace D3 := bw_trans D3 hb4
    clear c0 c1 c2 c3 d0 d1 d2 d3 hb4
    obtain ⟨c0, c1, c2, c3⟩ := (k1.below D3 lk).cells
    go_wp2_with fail
    (refine (C5.out _).mono ?_; rintro e y4 ⟨rfl, hb4⟩; replace D3 := bw_trans D3 hb4; clear c0 c1 c2 c3 hb4; obtain ⟨c0, c1, c2, c3⟩ := (k1.below D3 lk).cells)
    have I3 := (hI.next (bw_trans B1 D3))
    have hz0 : ((len : Int) == 0) = false := beq_eq_false_iff_ne.2 (by omega)
    go_wp2_with fail
    refine (best_some x off len cap l _ I3 (by omega)).mono ?_
    rintro e y5 ⟨rfl, hb5⟩
    have B5 := bw_trans (bw_trans B1 D3) hb5
    have I5 := I3.next hb5
    clear hb5 I3 D3 B1 c0 c1 c2 c3 k1 m1 n1 lk lm ln hI
    rw [hK]
    go_wp2_with fail
    go_loopw [13] (fun i wr => OInv x off len w l i wr) (fun i _ => len - (intOf i).toNat)
    case atStart => exact ⟨0, Nat.zero_le _, rfl, I5, B5⟩
    case round =>
      clear I5 B5
      obtain ⟨i, hi, rfl, I, B⟩ := hrel
      by_cases hil : i < len
      · obtain ⟨⟨t0, t1, t2, t3⟩, hu⟩ : ∃ u, l[i]? = some u := at_some (by have := I.length; omega)
        obtain ⟨X, hX⟩ : ∃ X, cmpR ⟨s0, s1, s2, s3⟩ ⟨t0, t1, t2, t3⟩ = X := ⟨_, rfl⟩
        have hle := HF.out.le i _ _ hil hv.out hu
        have heq := HF.out.eq i _ _ hil hv.out hu
        have hrg := cmp_range ⟨s0, s1, s2, s3⟩ ⟨t0, t1, t2, t3⟩
        rw [hX] at hle heq hrg
        have C := Lib.hid (fun w' => compare_w s0 s1 s2 s3 t0 t1 t2 t3 X w' (Lib.hid hX))
        clear hX
        have q1 := I.at_ K _ hv.out
        have q2 := I.at_ i _ hu
        have lx := I.lt
        have S1 : (wr.cell? ⟨x, off + K * 4, none⟩ = some (.int .u64 s0) ∧ wr.cell? ⟨x, off + K * 4 + 1, none⟩ = some (.int .u64 s1) ∧ wr.cell? ⟨x, off + K * 4 + 2, none⟩ = some (.int .u64 s2) ∧ wr.cell? ⟨x, off + K * 4 + 3, none⟩ = some (.int .u64 s3)) ∧ (wr.cell? ⟨x, off + i * 4, none⟩ = some (.int .u64 t0) ∧ wr.cell? ⟨x, off + i * 4 + 1, none⟩ = some (.int .u64 t1) ∧ wr.cell? ⟨x, off + i * 4 + 2, none⟩ = some (.int .u64 t2) ∧ wr.cell? ⟨x, off + i * 4 + 3, none⟩ = some (.int .u64 t3)) := ⟨q1, q2⟩
        have ki : (K : Int) < (len : Int) := by omega
        have kn : (0 : Int) ≤ (K : Int) := by omega
        have ii : (i : Int) < (len : Int) := by omega
        have hil' := hil
        go_upto_region 14 with (fail)
        go_region_held3 (fun w' => (w'.cell? ⟨x, off + K * 4, none⟩ = some (.int .u64 s0) ∧ w'.cell? ⟨x, off + K * 4 + 1, none⟩ = some (.int .u64 s1) ∧ w'.cell? ⟨x, off + K * 4 + 2, none⟩ = some (.int .u64 s2) ∧ w'.cell? ⟨x, off + K * 4 + 3, none⟩ = some (.int .u64 s3)) ∧ (w'.cell? ⟨x, off + i * 4, none⟩ = some (.int .u64 t0) ∧ w'.cell? ⟨x, off + i * 4 + 1, none⟩ = some (.int .u64 t1) ∧ w'.cell? ⟨x, off + i * 4 + 2, none⟩ = some (.int .u64 t2) ∧ w'.cell? ⟨x, off + i * 4 + 3, none⟩ = some (.int .u64 t3))) (first | exact S1 | exact T6) (first | (go_at_call 9; (with_reducible refine (C.out _).mono ?_); rintro e y6 ⟨rfl, hb6⟩; have D6 := ((Below.refl wr.heap.size wr).drew).trans hb6; have T6 : (y6.cell? ⟨x, off + K * 4, none⟩ = some (.int .u64 s0) ∧ y6.cell? ⟨x, off + K * 4 + 1, none⟩ = some (.int .u64 s1) ∧ y6.cell? ⟨x, off + K * 4 + 2, none⟩ = some (.int .u64 s2) ∧ y6.cell? ⟨x, off + K * 4 + 3, none⟩ = some (.int .u64 s3)) ∧ (y6.cell? ⟨x, off + i * 4, none⟩ = some (.int .u64 t0) ∧ y6.cell? ⟨x, off + i * 4 + 1, none⟩ = some (.int .u64 t1) ∧ y6.cell? ⟨x, off + i * 4 + 2, none⟩ = some (.int .u64 t2) ∧ y6.cell? ⟨x, off + i * 4 + 3, none⟩ = some (.int .u64 t3)) := ⟨BoxAt.below q1 D6 lx, BoxAt.below q2 D6 lx⟩))
        have B6 := bw_trans B D6
        have I6 := I.next D6
        clear hb6 T6 S1 q1 q2 C
        rcases (show X = 0 ∨ X = -1 by omega) with hx0 | hx0
        · subst hx0
          have hKi : K ≤ i := heq rfl
          have hKi' : ¬ (i : Int) < (K : Int) := by omega
          clear heq hle hrg
          go_wp2
          exact ⟨⟨i + 1, by omega, by go_num, I6, B6⟩, by simp [intOf]; omega⟩
        · subst hx0
          clear heq hle hrg
          go_wp2
          exact ⟨⟨i + 1, by omega, by go_num, I6, B6⟩, by simp [intOf]; omega⟩
      · go_wp2
        go_ret
        exact ⟨rfl, B⟩
  · go_enter Try.func4, Try.ntmps4
    go_wp2_with fail
    refine (awake_any _).mono ?_
    rintro e w1 ⟨rfl, hb1⟩
    obtain ⟨ba, hba⟩ : ∃ x, x = w.heap.size := ⟨_, rfl⟩
    obtain ⟨bb, hbb⟩ : ∃ x, x = w.heap.size + 1 := ⟨_, rfl⟩
    obtain ⟨bc, hbc⟩ : ∃ x, x = w.heap.size + 1 + 1 := ⟨_, rfl⟩
    have z1 := size_box w (.cells #[.int .u64 r, .int .u64 c, .int .u64 b, .int .u64 p] 31)
    have z2 := size_box (w.alloc (.cells #[.int .u64 r, .int .u64 c, .int .u64 b, .int .u64 p] 31)) (.cells #[.int .u64 r', .int .u64 c', .int .u64 b', .int .u64 p'] 31)
    have g0 := blk_new 31 w r c b p
    have g1 := blk_new 31 (w.alloc (.cells #[.int .u64 r, .int .u64 c, .int .u64 b, .int .u64 p] 31)) r' c' b' p'
    have g2 := blk_new 31 ((w.alloc (.cells #[.int .u64 r, .int .u64 c, .int .u64 b, .int .u64 p] 31)).alloc (.cells #[.int .u64 r', .int .u64 c', .int .u64 b', .int .u64 p'] 31)) r2 c2 b2 p2
    rw [z1] at g1
    rw [z2, z1] at g2
    rw [← hba] at g0
    rw [← hbb] at g1
    rw [← hbc] at g2
    have k1 : Blk 31 w1 ba ⟨r, c, b, p⟩ := ((g0.next (below_box _ _)).next (below_box _ _)).next hb1
    have m1 : Blk 31 w1 bb ⟨r', c', b', p'⟩ := (g1.next (below_box _ _)).next hb1
    have n1 : Blk 31 w1 bc ⟨r2, c2, b2, p2⟩ := g2.next hb1
    have B1 : Below w.heap.size w w1 := bw_trans (bw_alloc (bw_alloc (below_box w (.cells #[.int .u64 r, .int .u64 c, .int .u64 b, .int .u64 p] 31)) (.cells #[.int .u64 r', .int .u64 c', .int .u64 b', .int .u64 p'] 31)) (.cells #[.int .u64 r2, .int .u64 c2, .int .u64 b2, .int .u64 p2] 31)) hb1
    clear z1 z2 g0 g1 g2 hb1
    rw [← hbc, ← hbb, ← hba]
    clear hbb hbc hba
    go_upto_region 5 with (fail)
    have lk := k1.lt
    have lm := m1.lt
    have ln := n1.lt
    have S0 : (w1.cell? ⟨ba, 0, none⟩ = some (.int .u64 r) ∧ w1.cell? ⟨ba, 1, none⟩ = some (.int .u64 c) ∧ w1.cell? ⟨ba, 2, none⟩ = some (.int .u64 b) ∧ w1.cell? ⟨ba, 3, none⟩ = some (.int .u64 p)) ∧ (w1.cell? ⟨bb, 0, none⟩ = some (.int .u64 r') ∧ w1.cell? ⟨bb, 1, none⟩ = some (.int .u64 c') ∧ w1.cell? ⟨bb, 2, none⟩ = some (.int .u64 b') ∧ w1.cell? ⟨bb, 3, none⟩ = some (.int .u64 p')) ∧ (w1.cell? ⟨bc, 0, none⟩ = some (.int .u64 r2) ∧ w1.cell? ⟨bc, 1, none⟩ = some (.int .u64 c2) ∧ w1.cell? ⟨bc, 2, none⟩ = some (.int .u64 b2) ∧ w1.cell? ⟨bc, 3, none⟩ = some (.int .u64 p2)) := ⟨k1.cells, m1.cells, n1.cells⟩
    go_region_held3 (fun w' => (w'.cell? ⟨ba, 0, none⟩ = some (.int .u64 r) ∧ w'.cell? ⟨ba, 1, none⟩ = some (.int .u64 c) ∧ w'.cell? ⟨ba, 2, none⟩ = some (.int .u64 b) ∧ w'.cell? ⟨ba, 3, none⟩ = some (.int .u64 p)) ∧ (w'.cell? ⟨bb, 0, none⟩ = some (.int .u64 r') ∧ w'.cell? ⟨bb, 1, none⟩ = some (.int .u64 c') ∧ w'.cell? ⟨bb, 2, none⟩ = some (.int .u64 b') ∧ w'.cell? ⟨bb, 3, none⟩ = some (.int .u64 p')) ∧ (w'.cell? ⟨bc, 0, none⟩ = some (.int .u64 r2) ∧ w'.cell? ⟨bc, 1, none⟩ = some (.int .u64 c2) ∧ w'.cell? ⟨bc, 2, none⟩ = some (.int .u64 b2) ∧ w'.cell? ⟨bc, 3, none⟩ = some (.int .u64 p2))) (first | exact S0 | exact T0 | exact T1 | exact T2) (first | (go_at_call 9; (with_reducible refine ((C0.out) _).mono ?_); rintro e y0 ⟨rfl, hb0⟩; have D0 := ((Below.refl w1.heap.size w1).drew).trans hb0; have T0 : (y0.cell? ⟨ba, 0, none⟩ = some (.int .u64 r) ∧ y0.cell? ⟨ba, 1, none⟩ = some (.int .u64 c) ∧ y0.cell? ⟨ba, 2, none⟩ = some (.int .u64 b) ∧ y0.cell? ⟨ba, 3, none⟩ = some (.int .u64 p)) ∧ (y0.cell? ⟨bb, 0, none⟩ = some (.int .u64 r') ∧ y0.cell? ⟨bb, 1, none⟩ = some (.int .u64 c') ∧ y0.cell? ⟨bb, 2, none⟩ = some (.int .u64 b') ∧ y0.cell? ⟨bb, 3, none⟩ = some (.int .u64 p')) ∧ (y0.cell? ⟨bc, 0, none⟩ = some (.int .u64 r2) ∧ y0.cell? ⟨bc, 1, none⟩ = some (.int .u64 c2) ∧ y0.cell? ⟨bc, 2, none⟩ = some (.int .u64 b2) ∧ y0.cell? ⟨bc, 3, none⟩ = some (.int .u64 p2)) := ⟨(k1.below D0 lk).cells, (m1.below D0 lm).cells, (n1.below D0 ln).cells⟩) | (go_at_call 9; (with_reducible refine ((C1.out) _).mono ?_); rintro e y1 ⟨rfl, hb1⟩; have D1 := bw_trans D0 hb1; have T1 : (y1.cell? ⟨ba, 0, none⟩ = some (.int .u64 r) ∧ y1.cell? ⟨ba, 1, none⟩ = some (.int .u64 c) ∧ y1.cell? ⟨ba, 2, none⟩ = some (.int .u64 b) ∧ y1.cell? ⟨ba, 3, none⟩ = some (.int .u64 p)) ∧ (y1.cell? ⟨bb, 0, none⟩ = some (.int .u64 r') ∧ y1.cell? ⟨bb, 1, none⟩ = some (.int .u64 c') ∧ y1.cell? ⟨bb, 2, none⟩ = some (.int .u64 b') ∧ y1.cell? ⟨bb, 3, none⟩ = some (.int .u64 p')) ∧ (y1.cell? ⟨bc, 0, none⟩ = some (.int .u64 r2) ∧ y1.cell? ⟨bc, 1, none⟩ = some (.int .u64 c2) ∧ y1.cell? ⟨bc, 2, none⟩ = some (.int .u64 b2) ∧ y1.cell? ⟨bc, 3, none⟩ = some (.int .u64 p2)) := ⟨(k1.below D1 lk).cells, (m1.below D1 lm).cells, (n1.below D1 ln).cells⟩) | (go_at_call 9; (with_reducible refine ((C2.out) _).mono ?_); rintro e y2 ⟨rfl, hb2⟩; have D2 := bw_trans D1 hb2; have T2 : (y2.cell? ⟨ba, 0, none⟩ = some (.int .u64 r) ∧ y2.cell? ⟨ba, 1, none⟩ = some (.int .u64 c) ∧ y2.cell? ⟨ba, 2, none⟩ = some (.int .u64 b) ∧ y2.cell? ⟨ba, 3, none⟩ = some (.int .u64 p)) ∧ (y2.cell? ⟨bb, 0, none⟩ = some (.int .u64 r') ∧ y2.cell? ⟨bb, 1, none⟩ = some (.int .u64 c') ∧ y2.cell? ⟨bb, 2, none⟩ = some (.int .u64 b') ∧ y2.cell? ⟨bb, 3, none⟩ = some (.int .u64 p')) ∧ (y2.cell? ⟨bc, 0, none⟩ = some (.int .u64 r2) ∧ y2.cell? ⟨bc, 1, none⟩ = some (.int .u64 c2) ∧ y2.cell? ⟨bc, 2, none⟩ = some (.int .u64 b2) ∧ y2.cell? ⟨bc, 3, none⟩ = some (.int .u64 p2)) := ⟨(k1.below D2 lk).cells, (m1.below D2 lm).cells, (n1.below D2 ln).cells⟩))
    obtain ⟨⟨c0, c1, c2, c3⟩, ⟨d0, d1, d2, d3⟩, ⟨e0, e1, e2, e3⟩⟩ := T2
    clear S0 T0 T1 hb0 hb1 hb2
    go_wp2_with fail
    refine (C3.out _).mono ?_
    rintro e y3 ⟨rfl, hb3⟩
    have D3 := bw_trans D2 hb3
    clear c0 c1 c2 c3 d0 d1 d2 d3 e0 e1 e2 e3 hb3 D0 D1 D2
    obtain ⟨c0, c1, c2, c3⟩ := (k1.below D3 lk).cells
    obtain ⟨d0, d1, d2, d3⟩ := (m1.below D3 lm).cells
    go_wp2_with fail
    refine (C4.out _).mono ?_
    rintro e y4 ⟨rfl, hb4⟩
    replace D3 := bw_trans D3 hb4
    clear c0 c1 c2 c3 d0 d1 d2 d3 hb4
    obtain ⟨c0, c1, c2, c3⟩ := (k1.below D3 lk).cells
    go_wp2_with fail
    (refine (C5.out _).mono ?_; rintro e y4 ⟨rfl, hb4⟩; replace D3 := bw_trans D3 hb4; clear c0 c1 c2 c3 hb4; obtain ⟨c0, c1, c2, c3⟩ := (k1.below D3 lk).cells)
    have I3 := (hI.next (bw_trans B1 D3))
    have hz0 : ((len : Int) == 0) = false := beq_eq_false_iff_ne.2 (by omega)
    go_wp2_with fail
    refine (best_some x off len cap l _ I3 (by omega)).mono ?_
    rintro e y5 ⟨rfl, hb5⟩
    have B5 := bw_trans (bw_trans B1 D3) hb5
    have I5 := I3.next hb5
    clear hb5 I3 D3 B1 c0 c1 c2 c3 k1 m1 n1 lk lm ln hI
    rw [hK]
    go_wp2_with fail
    go_loopw [13] (fun i wr => OInv x off len w l i wr) (fun i _ => len - (intOf i).toNat)
    case atStart => exact ⟨0, Nat.zero_le _, rfl, I5, B5⟩
    case round =>
      clear I5 B5
      obtain ⟨i, hi, rfl, I, B⟩ := hrel
      by_cases hil : i < len
      · obtain ⟨⟨t0, t1, t2, t3⟩, hu⟩ : ∃ u, l[i]? = some u := at_some (by have := I.length; omega)
        obtain ⟨X, hX⟩ : ∃ X, cmpR ⟨s0, s1, s2, s3⟩ ⟨t0, t1, t2, t3⟩ = X := ⟨_, rfl⟩
        have hle := HF.out.le i _ _ hil hv.out hu
        have heq := HF.out.eq i _ _ hil hv.out hu
        have hrg := cmp_range ⟨s0, s1, s2, s3⟩ ⟨t0, t1, t2, t3⟩
        rw [hX] at hle heq hrg
        have C := Lib.hid (fun w' => compare_w s0 s1 s2 s3 t0 t1 t2 t3 X w' (Lib.hid hX))
        clear hX
        have q1 := I.at_ K _ hv.out
        have q2 := I.at_ i _ hu
        have lx := I.lt
        have S1 : (wr.cell? ⟨x, off + K * 4, none⟩ = some (.int .u64 s0) ∧ wr.cell? ⟨x, off + K * 4 + 1, none⟩ = some (.int .u64 s1) ∧ wr.cell? ⟨x, off + K * 4 + 2, none⟩ = some (.int .u64 s2) ∧ wr.cell? ⟨x, off + K * 4 + 3, none⟩ = some (.int .u64 s3)) ∧ (wr.cell? ⟨x, off + i * 4, none⟩ = some (.int .u64 t0) ∧ wr.cell? ⟨x, off + i * 4 + 1, none⟩ = some (.int .u64 t1) ∧ wr.cell? ⟨x, off + i * 4 + 2, none⟩ = some (.int .u64 t2) ∧ wr.cell? ⟨x, off + i * 4 + 3, none⟩ = some (.int .u64 t3)) := ⟨q1, q2⟩
        have ki : (K : Int) < (len : Int) := by omega
        have kn : (0 : Int) ≤ (K : Int) := by omega
        have ii : (i : Int) < (len : Int) := by omega
        have hil' := hil
        go_upto_region 14 with (fail)
        go_region_held3 (fun w' => (w'.cell? ⟨x, off + K * 4, none⟩ = some (.int .u64 s0) ∧ w'.cell? ⟨x, off + K * 4 + 1, none⟩ = some (.int .u64 s1) ∧ w'.cell? ⟨x, off + K * 4 + 2, none⟩ = some (.int .u64 s2) ∧ w'.cell? ⟨x, off + K * 4 + 3, none⟩ = some (.int .u64 s3)) ∧ (w'.cell? ⟨x, off + i * 4, none⟩ = some (.int .u64 t0) ∧ w'.cell? ⟨x, off + i * 4 + 1, none⟩ = some (.int .u64 t1) ∧ w'.cell? ⟨x, off + i * 4 + 2, none⟩ = some (.int .u64 t2) ∧ w'.cell? ⟨x, off + i * 4 + 3, none⟩ = some (.int .u64 t3))) (first | exact S1 | exact T6) (first | (go_at_call 9; (with_reducible refine (C.out _).mono ?_); rintro e y6 ⟨rfl, hb6⟩; have D6 := ((Below.refl wr.heap.size wr).drew).trans hb6; have T6 : (y6.cell? ⟨x, off + K * 4, none⟩ = some (.int .u64 s0) ∧ y6.cell? ⟨x, off + K * 4 + 1, none⟩ = some (.int .u64 s1) ∧ y6.cell? ⟨x, off + K * 4 + 2, none⟩ = some (.int .u64 s2) ∧ y6.cell? ⟨x, off + K * 4 + 3, none⟩ = some (.int .u64 s3)) ∧ (y6.cell? ⟨x, off + i * 4, none⟩ = some (.int .u64 t0) ∧ y6.cell? ⟨x, off + i * 4 + 1, none⟩ = some (.int .u64 t1) ∧ y6.cell? ⟨x, off + i * 4 + 2, none⟩ = some (.int .u64 t2) ∧ y6.cell? ⟨x, off + i * 4 + 3, none⟩ = some (.int .u64 t3)) := ⟨BoxAt.below q1 D6 lx, BoxAt.below q2 D6 lx⟩))
        have B6 := bw_trans B D6
        have I6 := I.next D6
        clear hb6 T6 S1 q1 q2 C
        rcases (show X = 0 ∨ X = -1 by omega) with hx0 | hx0
        · subst hx0
          have hKi : K ≤ i := heq rfl
          have hKi' : ¬ (i : Int) < (K : Int) := by omega
          clear heq hle hrg
          go_wp2
          exact ⟨⟨i + 1, by omega, by go_num, I6, B6⟩, by simp [intOf]; omega⟩
        · subst hx0
          clear heq hle hrg
          go_wp2
          exact ⟨⟨i + 1, by omega, by go_num, I6, B6⟩, by simp [intOf]; omega⟩
      · go_wp2
        go_ret
        exact ⟨rfl, B⟩
  · go_enter Try.func4, Try.ntmps4
    go_wp2_with fail
    refine (awake_any _).mono ?_
    rintro e w1 ⟨rfl, hb1⟩
    obtain ⟨ba, hba⟩ : ∃ x, x = w.heap.size := ⟨_, rfl⟩
    obtain ⟨bb, hbb⟩ : ∃ x, x = w.heap.size + 1 := ⟨_, rfl⟩
    obtain ⟨bc, hbc⟩ : ∃ x, x = w.heap.size + 1 + 1 := ⟨_, rfl⟩
    have z1 := size_box w (.cells #[.int .u64 r, .int .u64 c, .int .u64 b, .int .u64 p] 31)
    have z2 := size_box (w.alloc (.cells #[.int .u64 r, .int .u64 c, .int .u64 b, .int .u64 p] 31)) (.cells #[.int .u64 r', .int .u64 c', .int .u64 b', .int .u64 p'] 31)
    have g0 := blk_new 31 w r c b p
    have g1 := blk_new 31 (w.alloc (.cells #[.int .u64 r, .int .u64 c, .int .u64 b, .int .u64 p] 31)) r' c' b' p'
    have g2 := blk_new 31 ((w.alloc (.cells #[.int .u64 r, .int .u64 c, .int .u64 b, .int .u64 p] 31)).alloc (.cells #[.int .u64 r', .int .u64 c', .int .u64 b', .int .u64 p'] 31)) r2 c2 b2 p2
    rw [z1] at g1
    rw [z2, z1] at g2
    rw [← hba] at g0
    rw [← hbb] at g1
    rw [← hbc] at g2
    have k1 : Blk 31 w1 ba ⟨r, c, b, p⟩ := ((g0.next (below_box _ _)).next (below_box _ _)).next hb1
    have m1 : Blk 31 w1 bb ⟨r', c', b', p'⟩ := (g1.next (below_box _ _)).next hb1
    have n1 : Blk 31 w1 bc ⟨r2, c2, b2, p2⟩ := g2.next hb1
    have B1 : Below w.heap.size w w1 := bw_trans (bw_alloc (bw_alloc (below_box w (.cells #[.int .u64 r, .int .u64 c, .int .u64 b, .int .u64 p] 31)) (.cells #[.int .u64 r', .int .u64 c', .int .u64 b', .int .u64 p'] 31)) (.cells #[.int .u64 r2, .int .u64 c2, .int .u64 b2, .int .u64 p2] 31)) hb1
    clear z1 z2 g0 g1 g2 hb1
    rw [← hbc, ← hbb, ← hba]
    clear hbb hbc hba
    go_upto_region 5 with (fail)
    have lk := k1.lt
    have lm := m1.lt
    have ln := n1.lt
    have S0 : (w1.cell? ⟨ba, 0, none⟩ = some (.int .u64 r) ∧ w1.cell? ⟨ba, 1, none⟩ = some (.int .u64 c) ∧ w1.cell? ⟨ba, 2, none⟩ = some (.int .u64 b) ∧ w1.cell? ⟨ba, 3, none⟩ = some (.int .u64 p)) ∧ (w1.cell? ⟨bb, 0, none⟩ = some (.int .u64 r') ∧ w1.cell? ⟨bb, 1, none⟩ = some (.int .u64 c') ∧ w1.cell? ⟨bb, 2, none⟩ = some (.int .u64 b') ∧ w1.cell? ⟨bb, 3, none⟩ = some (.int .u64 p')) ∧ (w1.cell? ⟨bc, 0, none⟩ = some (.int .u64 r2) ∧ w1.cell? ⟨bc, 1, none⟩ = some (.int .u64 c2) ∧ w1.cell? ⟨bc, 2, none⟩ = some (.int .u64 b2) ∧ w1.cell? ⟨bc, 3, none⟩ = some (.int .u64 p2)) := ⟨k1.cells, m1.cells, n1.cells⟩
    go_region_held3 (fun w' => (w'.cell? ⟨ba, 0, none⟩ = some (.int .u64 r) ∧ w'.cell? ⟨ba, 1, none⟩ = some (.int .u64 c) ∧ w'.cell? ⟨ba, 2, none⟩ = some (.int .u64 b) ∧ w'.cell? ⟨ba, 3, none⟩ = some (.int .u64 p)) ∧ (w'.cell? ⟨bb, 0, none⟩ = some (.int .u64 r') ∧ w'.cell? ⟨bb, 1, none⟩ = some (.int .u64 c') ∧ w'.cell? ⟨bb, 2, none⟩ = some (.int .u64 b') ∧ w'.cell? ⟨bb, 3, none⟩ = some (.int .u64 p')) ∧ (w'.cell? ⟨bc, 0, none⟩ = some (.int .u64 r2) ∧ w'.cell? ⟨bc, 1, none⟩ = some (.int .u64 c2) ∧ w'.cell? ⟨bc, 2, none⟩ = some (.int .u64 b2) ∧ w'.cell? ⟨bc, 3, none⟩ = some (.int .u64 p2))) (first | exact S0 | exact T0 | exact T1 | exact T2) (first | (go_at_call 9; (with_reducible refine ((C0.out) _).mono ?_); rintro e y0 ⟨rfl, hb0⟩; have D0 := ((Below.refl w1.heap.size w1).drew).trans hb0; have T0 : (y0.cell? ⟨ba, 0, none⟩ = some (.int .u64 r) ∧ y0.cell? ⟨ba, 1, none⟩ = some (.int .u64 c) ∧ y0.cell? ⟨ba, 2, none⟩ = some (.int .u64 b) ∧ y0.cell? ⟨ba, 3, none⟩ = some (.int .u64 p)) ∧ (y0.cell? ⟨bb, 0, none⟩ = some (.int .u64 r') ∧ y0.cell? ⟨bb, 1, none⟩ = some (.int .u64 c') ∧ y0.cell? ⟨bb, 2, none⟩ = some (.int .u64 b') ∧ y0.cell? ⟨bb, 3, none⟩ = some (.int .u64 p')) ∧ (y0.cell? ⟨bc, 0, none⟩ = some (.int .u64 r2) ∧ y0.cell? ⟨bc, 1, none⟩ = some (.int .u64 c2) ∧ y0.cell? ⟨bc, 2, none⟩ = some (.int .u64 b2) ∧ y0.cell? ⟨bc, 3, none⟩ = some (.int .u64 p2)) := ⟨(k1.below D0 lk).cells, (m1.below D0 lm).cells, (n1.below D0 ln).cells⟩) | (go_at_call 9; (with_reducible refine ((C1.out) _).mono ?_); rintro e y1 ⟨rfl, hb1⟩; have D1 := bw_trans D0 hb1; have T1 : (y1.cell? ⟨ba, 0, none⟩ = some (.int .u64 r) ∧ y1.cell? ⟨ba, 1, none⟩ = some (.int .u64 c) ∧ y1.cell? ⟨ba, 2, none⟩ = some (.int .u64 b) ∧ y1.cell? ⟨ba, 3, none⟩ = some (.int .u64 p)) ∧ (y1.cell? ⟨bb, 0, none⟩ = some (.int .u64 r') ∧ y1.cell? ⟨bb, 1, none⟩ = some (.int .u64 c') ∧ y1.cell? ⟨bb, 2, none⟩ = some (.int .u64 b') ∧ y1.cell? ⟨bb, 3, none⟩ = some (.int .u64 p')) ∧ (y1.cell? ⟨bc, 0, none⟩ = some (.int .u64 r2) ∧ y1.cell? ⟨bc, 1, none⟩ = some (.int .u64 c2) ∧ y1.cell? ⟨bc, 2, none⟩ = some (.int .u64 b2) ∧ y1.cell? ⟨bc, 3, none⟩ = some (.int .u64 p2)) := ⟨(k1.below D1 lk).cells, (m1.below D1 lm).cells, (n1.below D1 ln).cells⟩) | (go_at_call 9; (with_reducible refine ((C2.out) _).mono ?_); rintro e y2 ⟨rfl, hb2⟩; have D2 := bw_trans D1 hb2; have T2 : (y2.cell? ⟨ba, 0, none⟩ = some (.int .u64 r) ∧ y2.cell? ⟨ba, 1, none⟩ = some (.int .u64 c) ∧ y2.cell? ⟨ba, 2, none⟩ = some (.int .u64 b) ∧ y2.cell? ⟨ba, 3, none⟩ = some (.int .u64 p)) ∧ (y2.cell? ⟨bb, 0, none⟩ = some (.int .u64 r') ∧ y2.cell? ⟨bb, 1, none⟩ = some (.int .u64 c') ∧ y2.cell? ⟨bb, 2, none⟩ = some (.int .u64 b') ∧ y2.cell? ⟨bb, 3, none⟩ = some (.int .u64 p')) ∧ (y2.cell? ⟨bc, 0, none⟩ = some (.int .u64 r2) ∧ y2.cell? ⟨bc, 1, none⟩ = some (.int .u64 c2) ∧ y2.cell? ⟨bc, 2, none⟩ = some (.int .u64 b2) ∧ y2.cell? ⟨bc, 3, none⟩ = some (.int .u64 p2)) := ⟨(k1.below D2 lk).cells, (m1.below D2 lm).cells, (n1.below D2 ln).cells⟩))
    obtain ⟨⟨c0, c1, c2, c3⟩, ⟨d0, d1, d2, d3⟩, ⟨e0, e1, e2, e3⟩⟩ := T2
    clear S0 T0 T1 hb0 hb1 hb2
    go_wp2_with fail
    refine (C3.out _).mono ?_
    rintro e y3 ⟨rfl, hb3⟩
    have D3 := bw_trans D2 hb3
    clear c0 c1 c2 c3 d0 d1 d2 d3 e0 e1 e2 e3 hb3 D0 D1 D2
    obtain ⟨c0, c1, c2, c3⟩ := (k1.below D3 lk).cells
    obtain ⟨d0, d1, d2, d3⟩ := (m1.below D3 lm).cells
    go_wp2_with fail
    (refine (C5.out _).mono ?_; rintro e y4 ⟨rfl, hb4⟩; replace D3 := bw_trans D3 hb4; clear c0 c1 c2 c3 d0 d1 d2 d3 hb4; obtain ⟨c0, c1, c2, c3⟩ := (k1.below D3 lk).cells)
    have I3 := (hI.next (bw_trans B1 D3))
    have hz0 : ((len : Int) == 0) = false := beq_eq_false_iff_ne.2 (by omega)
    go_wp2_with fail
    refine (best_some x off len cap l _ I3 (by omega)).mono ?_
    rintro e y5 ⟨rfl, hb5⟩
    have B5 := bw_trans (bw_trans B1 D3) hb5
    have I5 := I3.next hb5
    clear hb5 I3 D3 B1 c0 c1 c2 c3 k1 m1 n1 lk lm ln hI
    rw [hK]
    go_wp2_with fail
    go_loopw [13] (fun i wr => OInv x off len w l i wr) (fun i _ => len - (intOf i).toNat)
    case atStart => exact ⟨0, Nat.zero_le _, rfl, I5, B5⟩
    case round =>
      clear I5 B5
      obtain ⟨i, hi, rfl, I, B⟩ := hrel
      by_cases hil : i < len
      · obtain ⟨⟨t0, t1, t2, t3⟩, hu⟩ : ∃ u, l[i]? = some u := at_some (by have := I.length; omega)
        obtain ⟨X, hX⟩ : ∃ X, cmpR ⟨s0, s1, s2, s3⟩ ⟨t0, t1, t2, t3⟩ = X := ⟨_, rfl⟩
        have hle := HF.out.le i _ _ hil hv.out hu
        have heq := HF.out.eq i _ _ hil hv.out hu
        have hrg := cmp_range ⟨s0, s1, s2, s3⟩ ⟨t0, t1, t2, t3⟩
        rw [hX] at hle heq hrg
        have C := Lib.hid (fun w' => compare_w s0 s1 s2 s3 t0 t1 t2 t3 X w' (Lib.hid hX))
        clear hX
        have q1 := I.at_ K _ hv.out
        have q2 := I.at_ i _ hu
        have lx := I.lt
        have S1 : (wr.cell? ⟨x, off + K * 4, none⟩ = some (.int .u64 s0) ∧ wr.cell? ⟨x, off + K * 4 + 1, none⟩ = some (.int .u64 s1) ∧ wr.cell? ⟨x, off + K * 4 + 2, none⟩ = some (.int .u64 s2) ∧ wr.cell? ⟨x, off + K * 4 + 3, none⟩ = some (.int .u64 s3)) ∧ (wr.cell? ⟨x, off + i * 4, none⟩ = some (.int .u64 t0) ∧ wr.cell? ⟨x, off + i * 4 + 1, none⟩ = some (.int .u64 t1) ∧ wr.cell? ⟨x, off + i * 4 + 2, none⟩ = some (.int .u64 t2) ∧ wr.cell? ⟨x, off + i * 4 + 3, none⟩ = some (.int .u64 t3)) := ⟨q1, q2⟩
        have ki : (K : Int) < (len : Int) := by omega
        have kn : (0 : Int) ≤ (K : Int) := by omega
        have ii : (i : Int) < (len : Int) := by omega
        have hil' := hil
        go_upto_region 14 with (fail)
        go_region_held3 (fun w' => (w'.cell? ⟨x, off + K * 4, none⟩ = some (.int .u64 s0) ∧ w'.cell? ⟨x, off + K * 4 + 1, none⟩ = some (.int .u64 s1) ∧ w'.cell? ⟨x, off + K * 4 + 2, none⟩ = some (.int .u64 s2) ∧ w'.cell? ⟨x, off + K * 4 + 3, none⟩ = some (.int .u64 s3)) ∧ (w'.cell? ⟨x, off + i * 4, none⟩ = some (.int .u64 t0) ∧ w'.cell? ⟨x, off + i * 4 + 1, none⟩ = some (.int .u64 t1) ∧ w'.cell? ⟨x, off + i * 4 + 2, none⟩ = some (.int .u64 t2) ∧ w'.cell? ⟨x, off + i * 4 + 3, none⟩ = some (.int .u64 t3))) (first | exact S1 | exact T6) (first | (go_at_call 9; (with_reducible refine (C.out _).mono ?_); rintro e y6 ⟨rfl, hb6⟩; have D6 := ((Below.refl wr.heap.size wr).drew).trans hb6; have T6 : (y6.cell? ⟨x, off + K * 4, none⟩ = some (.int .u64 s0) ∧ y6.cell? ⟨x, off + K * 4 + 1, none⟩ = some (.int .u64 s1) ∧ y6.cell? ⟨x, off + K * 4 + 2, none⟩ = some (.int .u64 s2) ∧ y6.cell? ⟨x, off + K * 4 + 3, none⟩ = some (.int .u64 s3)) ∧ (y6.cell? ⟨x, off + i * 4, none⟩ = some (.int .u64 t0) ∧ y6.cell? ⟨x, off + i * 4 + 1, none⟩ = some (.int .u64 t1) ∧ y6.cell? ⟨x, off + i * 4 + 2, none⟩ = some (.int .u64 t2) ∧ y6.cell? ⟨x, off + i * 4 + 3, none⟩ = some (.int .u64 t3)) := ⟨BoxAt.below q1 D6 lx, BoxAt.below q2 D6 lx⟩))
        have B6 := bw_trans B D6
        have I6 := I.next D6
        clear hb6 T6 S1 q1 q2 C
        rcases (show X = 0 ∨ X = -1 by omega) with hx0 | hx0
        · subst hx0
          have hKi : K ≤ i := heq rfl
          have hKi' : ¬ (i : Int) < (K : Int) := by omega
          clear heq hle hrg
          go_wp2
          exact ⟨⟨i + 1, by omega, by go_num, I6, B6⟩, by simp [intOf]; omega⟩
        · subst hx0
          clear heq hle hrg
          go_wp2
          exact ⟨⟨i + 1, by omega, by go_num, I6, B6⟩, by simp [intOf]; omega⟩
      · go_wp2
        go_ret
        exact ⟨rfl, B⟩
  · go_enter Try.func4, Try.ntmps4
    go_wp2_with fail
    refine (awake_any _).mono ?_
    rintro e w1 ⟨rfl, hb1⟩
    obtain ⟨ba, hba⟩ : ∃ x, x = w.heap.size := ⟨_, rfl⟩
    obtain ⟨bb, hbb⟩ : ∃ x, x = w.heap.size + 1 := ⟨_, rfl⟩
    obtain ⟨bc, hbc⟩ : ∃ x, x = w.heap.size + 1 + 1 := ⟨_, rfl⟩
    have z1 := size_box w (.cells #[.int .u64 r, .int .u64 c, .int .u64 b, .int .u64 p] 31)
    have z2 := size_box (w.alloc (.cells #[.int .u64 r, .int .u64 c, .int .u64 b, .int .u64 p] 31)) (.cells #[.int .u64 r', .int .u64 c', .int .u64 b', .int .u64 p'] 31)
    have g0 := blk_new 31 w r c b p
    have g1 := blk_new 31 (w.alloc (.cells #[.int .u64 r, .int .u64 c, .int .u64 b, .int .u64 p] 31)) r' c' b' p'
    have g2 := blk_new 31 ((w.alloc (.cells #[.int .u64 r, .int .u64 c, .int .u64 b, .int .u64 p] 31)).alloc (.cells #[.int .u64 r', .int .u64 c', .int .u64 b', .int .u64 p'] 31)) r2 c2 b2 p2
    rw [z1] at g1
    rw [z2, z1] at g2
    rw [← hba] at g0
    rw [← hbb] at g1
    rw [← hbc] at g2
    have k1 : Blk 31 w1 ba ⟨r, c, b, p⟩ := ((g0.next (below_box _ _)).next (below_box _ _)).next hb1
    have m1 : Blk 31 w1 bb ⟨r', c', b', p'⟩ := (g1.next (below_box _ _)).next hb1
    have n1 : Blk 31 w1 bc ⟨r2, c2, b2, p2⟩ := g2.next hb1
    have B1 : Below w.heap.size w w1 := bw_trans (bw_alloc (bw_alloc (below_box w (.cells #[.int .u64 r, .int .u64 c, .int .u64 b, .int .u64 p] 31)) (.cells #[.int .u64 r', .int .u64 c', .int .u64 b', .int .u64 p'] 31)) (.cells #[.int .u64 r2, .int .u64 c2, .int .u64 b2, .int .u64 p2] 31)) hb1
    clear z1 z2 g0 g1 g2 hb1
    rw [← hbc, ← hbb, ← hba]
    clear hbb hbc hba
    go_upto_region 5 with (fail)
    have lk := k1.lt
    have lm := m1.lt
    have ln := n1.lt
    have S0 : (w1.cell? ⟨ba, 0, none⟩ = some (.int .u64 r) ∧ w1.cell? ⟨ba, 1, none⟩ = some (.int .u64 c) ∧ w1.cell? ⟨ba, 2, none⟩ = some (.int .u64 b) ∧ w1.cell? ⟨ba, 3, none⟩ = some (.int .u64 p)) ∧ (w1.cell? ⟨bb, 0, none⟩ = some (.int .u64 r') ∧ w1.cell? ⟨bb, 1, none⟩ = some (.int .u64 c') ∧ w1.cell? ⟨bb, 2, none⟩ = some (.int .u64 b') ∧ w1.cell? ⟨bb, 3, none⟩ = some (.int .u64 p')) ∧ (w1.cell? ⟨bc, 0, none⟩ = some (.int .u64 r2) ∧ w1.cell? ⟨bc, 1, none⟩ = some (.int .u64 c2) ∧ w1.cell? ⟨bc, 2, none⟩ = some (.int .u64 b2) ∧ w1.cell? ⟨bc, 3, none⟩ = some (.int .u64 p2)) := ⟨k1.cells, m1.cells, n1.cells⟩
    go_region_held3 (fun w' => (w'.cell? ⟨ba, 0, none⟩ = some (.int .u64 r) ∧ w'.cell? ⟨ba, 1, none⟩ = some (.int .u64 c) ∧ w'.cell? ⟨ba, 2, none⟩ = some (.int .u64 b) ∧ w'.cell? ⟨ba, 3, none⟩ = some (.int .u64 p)) ∧ (w'.cell? ⟨bb, 0, none⟩ = some (.int .u64 r') ∧ w'.cell? ⟨bb, 1, none⟩ = some (.int .u64 c') ∧ w'.cell? ⟨bb, 2, none⟩ = some (.int .u64 b') ∧ w'.cell? ⟨bb, 3, none⟩ = some (.int .u64 p')) ∧ (w'.cell? ⟨bc, 0, none⟩ = some (.int .u64 r2) ∧ w'.cell? ⟨bc, 1, none⟩ = some (.int .u64 c2) ∧ w'.cell? ⟨bc, 2, none⟩ = some (.int .u64 b2) ∧ w'.cell? ⟨bc, 3, none⟩ = some (.int .u64 p2))) (first | exact S0 | exact T0 | exact T1 | exact T2) (first | (go_at_call 9; (with_reducible refine ((C0.out) _).mono ?_); rintro e y0 ⟨rfl, hb0⟩; have D0 := ((Below.refl w1.heap.size w1).drew).trans hb0; have T0 : (y0.cell? ⟨ba, 0, none⟩ = some (.int .u64 r) ∧ y0.cell? ⟨ba, 1, none⟩ = some (.int .u64 c) ∧ y0.cell? ⟨ba, 2, none⟩ = some (.int .u64 b) ∧ y0.cell? ⟨ba, 3, none⟩ = some (.int .u64 p)) ∧ (y0.cell? ⟨bb, 0, none⟩ = some (.int .u64 r') ∧ y0.cell? ⟨bb, 1, none⟩ = some (.int .u64 c') ∧ y0.cell? ⟨bb, 2, none⟩ = some (.int .u64 b') ∧ y0.cell? ⟨bb, 3, none⟩ = some (.int .u64 p')) ∧ (y0.cell? ⟨bc, 0, none⟩ = some (.int .u64 r2) ∧ y0.cell? ⟨bc, 1, none⟩ = some (.int .u64 c2) ∧ y0.cell? ⟨bc, 2, none⟩ = some (.int .u64 b2) ∧ y0.cell? ⟨bc, 3, none⟩ = some (.int .u64 p2)) := ⟨(k1.below D0 lk).cells, (m1.below D0 lm).cells, (n1.below D0 ln).cells⟩) | (go_at_call 9; (with_reducible refine ((C1.out) _).mono ?_); rintro e y1 ⟨rfl, hb1⟩; have D1 := bw_trans D0 hb1; have T1 : (y1.cell? ⟨ba, 0, none⟩ = some (.int .u64 r) ∧ y1.cell? ⟨ba, 1, none⟩ = some (.int .u64 c) ∧ y1.cell? ⟨ba, 2, none⟩ = some (.int .u64 b) ∧ y1.cell? ⟨ba, 3, none⟩ = some (.int .u64 p)) ∧ (y1.cell? ⟨bb, 0, none⟩ = some (.int .u64 r') ∧ y1.cell? ⟨bb, 1, none⟩ = some (.int .u64 c') ∧ y1.cell? ⟨bb, 2, none⟩ = some (.int .u64 b') ∧ y1.cell? ⟨bb, 3, none⟩ = some (.int .u64 p')) ∧ (y1.cell? ⟨bc, 0, none⟩ = some (.int .u64 r2) ∧ y1.cell? ⟨bc, 1, none⟩ = some (.int .u64 c2) ∧ y1.cell? ⟨bc, 2, none⟩ = some (.int .u64 b2) ∧ y1.cell? ⟨bc, 3, none⟩ = some (.int .u64 p2)) := ⟨(k1.below D1 lk).cells, (m1.below D1 lm).cells, (n1.below D1 ln).cells⟩) | (go_at_call 9; (with_reducible refine ((C2.out) _).mono ?_); rintro e y2 ⟨rfl, hb2⟩; have D2 := bw_trans D1 hb2; have T2 : (y2.cell? ⟨ba, 0, none⟩ = some (.int .u64 r) ∧ y2.cell? ⟨ba, 1, none⟩ = some (.int .u64 c) ∧ y2.cell? ⟨ba, 2, none⟩ = some (.int .u64 b) ∧ y2.cell? ⟨ba, 3, none⟩ = some (.int .u64 p)) ∧ (y2.cell? ⟨bb, 0, none⟩ = some (.int .u64 r') ∧ y2.cell? ⟨bb, 1, none⟩ = some (.int .u64 c') ∧ y2.cell? ⟨bb, 2, none⟩ = some (.int .u64 b') ∧ y2.cell? ⟨bb, 3, none⟩ = some (.int .u64 p')) ∧ (y2.cell? ⟨bc, 0, none⟩ = some (.int .u64 r2) ∧ y2.cell? ⟨bc, 1, none⟩ = some (.int .u64 c2) ∧ y2.cell? ⟨bc, 2, none⟩ = some (.int .u64 b2) ∧ y2.cell? ⟨bc, 3, none⟩ = some (.int .u64 p2)) := ⟨(k1.below D2 lk).cells, (m1.below D2 lm).cells, (n1.below D2 ln).cells⟩))
    obtain ⟨⟨c0, c1, c2, c3⟩, ⟨d0, d1, d2, d3⟩, ⟨e0, e1, e2, e3⟩⟩ := T2
    clear S0 T0 T1 hb0 hb1 hb2
    go_wp2_with fail
    refine (C3.out _).mono ?_
    rintro e y3 ⟨rfl, hb3⟩
    have D3 := bw_trans D2 hb3
    clear c0 c1 c2 c3 d0 d1 d2 d3 e0 e1 e2 e3 hb3 D0 D1 D2
    obtain ⟨c0, c1, c2, c3⟩ := (k1.below D3 lk).cells
    obtain ⟨d0, d1, d2, d3⟩ := (m1.below D3 lm).cells
    go_wp2_with fail
    (refine (C5.out _).mono ?_; rintro e y4 ⟨rfl, hb4⟩; replace D3 := bw_trans D3 hb4; clear c0 c1 c2 c3 d0 d1 d2 d3 hb4; obtain ⟨c0, c1, c2, c3⟩ := (k1.below D3 lk).cells)
    have I3 := (hI.next (bw_trans B1 D3))
    have hz0 : ((len : Int) == 0) = false := beq_eq_false_iff_ne.2 (by omega)
    go_wp2_with fail
    refine (best_some x off len cap l _ I3 (by omega)).mono ?_
    rintro e y5 ⟨rfl, hb5⟩
    have B5 := bw_trans (bw_trans B1 D3) hb5
    have I5 := I3.next hb5
    clear hb5 I3 D3 B1 c0 c1 c2 c3 k1 m1 n1 lk lm ln hI
    rw [hK]
    go_wp2_with fail
    go_loopw [13] (fun i wr => OInv x off len w l i wr) (fun i _ => len - (intOf i).toNat)
    case atStart => exact ⟨0, Nat.zero_le _, rfl, I5, B5⟩
    case round =>
      clear I5 B5
      obtain ⟨i, hi, rfl, I, B⟩ := hrel
      by_cases hil : i < len
      · obtain ⟨⟨t0, t1, t2, t3⟩, hu⟩ : ∃ u, l[i]? = some u := at_some (by have := I.length; omega)
        obtain ⟨X, hX⟩ : ∃ X, cmpR ⟨s0, s1, s2, s3⟩ ⟨t0, t1, t2, t3⟩ = X := ⟨_, rfl⟩
        have hle := HF.out.le i _ _ hil hv.out hu
        have heq := HF.out.eq i _ _ hil hv.out hu
        have hrg := cmp_range ⟨s0, s1, s2, s3⟩ ⟨t0, t1, t2, t3⟩
        rw [hX] at hle heq hrg
        have C := Lib.hid (fun w' => compare_w s0 s1 s2 s3 t0 t1 t2 t3 X w' (Lib.hid hX))
        clear hX
        have q1 := I.at_ K _ hv.out
        have q2 := I.at_ i _ hu
        have lx := I.lt
        have S1 : (wr.cell? ⟨x, off + K * 4, none⟩ = some (.int .u64 s0) ∧ wr.cell? ⟨x, off + K * 4 + 1, none⟩ = some (.int .u64 s1) ∧ wr.cell? ⟨x, off + K * 4 + 2, none⟩ = some (.int .u64 s2) ∧ wr.cell? ⟨x, off + K * 4 + 3, none⟩ = some (.int .u64 s3)) ∧ (wr.cell? ⟨x, off + i * 4, none⟩ = some (.int .u64 t0) ∧ wr.cell? ⟨x, off + i * 4 + 1, none⟩ = some (.int .u64 t1) ∧ wr.cell? ⟨x, off + i * 4 + 2, none⟩ = some (.int .u64 t2) ∧ wr.cell? ⟨x, off + i * 4 + 3, none⟩ = some (.int .u64 t3)) := ⟨q1, q2⟩
        have ki : (K : Int) < (len : Int) := by omega
        have kn : (0 : Int) ≤ (K : Int) := by omega
        have ii : (i : Int) < (len : Int) := by omega
        have hil' := hil
        go_upto_region 14 with (fail)
        go_region_held3 (fun w' => (w'.cell? ⟨x, off + K * 4, none⟩ = some (.int .u64 s0) ∧ w'.cell? ⟨x, off + K * 4 + 1, none⟩ = some (.int .u64 s1) ∧ w'.cell? ⟨x, off + K * 4 + 2, none⟩ = some (.int .u64 s2) ∧ w'.cell? ⟨x, off + K * 4 + 3, none⟩ = some (.int .u64 s3)) ∧ (w'.cell? ⟨x, off + i * 4, none⟩ = some (.int .u64 t0) ∧ w'.cell? ⟨x, off + i * 4 + 1, none⟩ = some (.int .u64 t1) ∧ w'.cell? ⟨x, off + i * 4 + 2, none⟩ = some (.int .u64 t2) ∧ w'.cell? ⟨x, off + i * 4 + 3, none⟩ = some (.int .u64 t3))) (first | exact S1 | exact T6) (first | (go_at_call 9; (with_reducible refine (C.out _).mono ?_); rintro e y6 ⟨rfl, hb6⟩; have D6 := ((Below.refl wr.heap.size wr).drew).trans hb6; have T6 : (y6.cell? ⟨x, off + K * 4, none⟩ = some (.int .u64 s0) ∧ y6.cell? ⟨x, off + K * 4 + 1, none⟩ = some (.int .u64 s1) ∧ y6.cell? ⟨x, off + K * 4 + 2, none⟩ = some (.int .u64 s2) ∧ y6.cell? ⟨x, off + K * 4 + 3, none⟩ = some (.int .u64 s3)) ∧ (y6.cell? ⟨x, off + i * 4, none⟩ = some (.int .u64 t0) ∧ y6.cell? ⟨x, off + i * 4 + 1, none⟩ = some (.int .u64 t1) ∧ y6.cell? ⟨x, off + i * 4 + 2, none⟩ = some (.int .u64 t2) ∧ y6.cell? ⟨x, off + i * 4 + 3, none⟩ = some (.int .u64 t3)) := ⟨BoxAt.below q1 D6 lx, BoxAt.below q2 D6 lx⟩))
        have B6 := bw_trans B D6
        have I6 := I.next D6
        clear hb6 T6 S1 q1 q2 C
        rcases (show X = 0 ∨ X = -1 by omega) with hx0 | hx0
        · subst hx0
          have hKi : K ≤ i := heq rfl
          have hKi' : ¬ (i : Int) < (K : Int) := by omega
          clear heq hle hrg
          go_wp2
          exact ⟨⟨i + 1, by omega, by go_num, I6, B6⟩, by simp [intOf]; omega⟩
        · subst hx0
          clear heq hle hrg
          go_wp2
          exact ⟨⟨i + 1, by omega, by go_num, I6, B6⟩, by simp [intOf]; omega⟩
      · go_wp2
        go_ret
        exact ⟨rfl, B⟩
end Go.Proofs.Ytiehocggdmadaaa
