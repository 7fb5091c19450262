/-
  The law VectorRaised, walked.
-/
import Derived.Test.YtiehocggdmadaaaVcK
namespace Go.Proofs.Ytiehocggdmadaaa
set_option linter.unusedVariables false
set_option linter.unusedSimpArgs false
open Go.RowKit Vm

set_option maxHeartbeats 4000000 in
theorem raised_walk (r c b p r' c' b' p' x y : Int) (w : World) (ur : u64B r) (uc : u64B c) (ub : u64B b) (up : u64B p) (ur' : u64B r') (uc' : u64B c') (ub' : u64B b') (up' : u64B p') (hx : 0 ≤ x ∧ x < 4294967296) (hy : 0 ≤ y ∧ y < 4294967296) :
    Calls Try.prog 5 #[vv r c b p, vv r' c' b' p', .int .u32 x, .int .u32 y] w fun e w' => e = .returned (.bool true) ∧ Below w.heap.size w w' := by
  obtain ⟨hx0, hx1⟩ := hx
  obtain ⟨hy0, hy1⟩ := hy
  have uc0 : 0 ≤ c := uc.1
  have uc0' : 0 ≤ c' := uc'.1
  obtain ⟨m, hm⟩ : ∃ m, x % 1073741824 = m := ⟨_, rfl⟩
  obtain ⟨n, hn⟩ : ∃ n, y % 1073741824 = n := ⟨_, rfl⟩
  have m0 : 0 ≤ m := by omega
  have m1 : m < 1073741824 := by omega
  have n0 : 0 ≤ n := by omega
  have n1 : n < 1073741824 := by omega
  go_enter Try.func5, Try.ntmps5
  go_wp2_with fail
  refine (awake_any _).mono ?_
  rintro e w1 ⟨rfl, hb1⟩
  have z1 := size_box w (.cells #[.int .u64 r, .int .u64 c, .int .u64 b, .int .u64 p] 31)
  have g0 := (blk_new 31 w r c b p).next (below_box _ (.cells #[.int .u64 r', .int .u64 c', .int .u64 b', .int .u64 p'] 31))
  have g1 := blk_new 31 (w.alloc (.cells #[.int .u64 r, .int .u64 c, .int .u64 b, .int .u64 p] 31)) r' c' b' p'
  rw [z1] at g1
  obtain ⟨ba, hba⟩ : ∃ x, x = w.heap.size := ⟨_, rfl⟩
  obtain ⟨bb, hbb⟩ : ∃ x, x = w.heap.size + 1 := ⟨_, rfl⟩
  rw [← hba] at g0
  rw [← hbb] at g1
  have kW : Blk 31 w1 ba ⟨r, c, b, p⟩ := g0.next hb1
  have mW : Blk 31 w1 bb ⟨r', c', b', p'⟩ := g1.next hb1
  have BW : Below w.heap.size w w1 := bw_trans (bw_alloc (below_box w (.cells #[.int .u64 r, .int .u64 c, .int .u64 b, .int .u64 p] 31)) (.cells #[.int .u64 r', .int .u64 c', .int .u64 b', .int .u64 p'] 31)) hb1
  clear z1 g0 g1 hb1
  rw [← hbb, ← hba]
  clear hbb hba
  have lk := kW.lt
  have lm := mW.lt
  obtain ⟨c0, c1, c2, c3⟩ := kW.cells
  obtain ⟨d0, d1, d2, d3⟩ := mW.cells
  by_cases hc : 1073741824 < c
  · go_wp2
    go_ret
    exact ⟨rfl, BW⟩
  by_cases hc' : 1073741824 < c'
  · go_wp2
    go_ret
    exact ⟨rfl, BW⟩
  have hs : c + m + n = c + (m + n) := by omega
  have R1 := Lib.hid (raise_lo (r := r) (c := c) (b := b) (p := p) (m := m) (by unfold topC; omega))
  have C0 := Lib.hid (fun w' => raise_w r c b p m (c + m) w' (Lib.hid (by rw [R1.out])) uc ⟨by omega, by omega⟩)
  have C1 := Lib.hid (fun w' => raise_w r (c + m) b p n (c + (m + n)) w' (Lib.hid (by rw [raise_lo (by unfold topC; omega), hs])) ⟨by omega, by omega⟩ ⟨by omega, by omega⟩)
  have C2 := Lib.hid (fun w' => raise_w r c b p (m + n) (c + (m + n)) w' (Lib.hid (by rw [raise_lo (by unfold topC; omega)])) uc ⟨by omega, by omega⟩)
  have C3 := Lib.hid (fun w' => raise_w r' c' b' p' m (c' + m) w' (Lib.hid (by rw [raise_lo (by unfold topC; omega)])) uc' ⟨by omega, by omega⟩)
  obtain ⟨Q, hQ⟩ : ∃ Q, cmpR ⟨r, c, b, p⟩ ⟨r', c', b', p'⟩ = Q := ⟨_, rfl⟩
  have hQ' : cmpR ⟨r, c + m, b, p⟩ ⟨r', c' + m, b', p'⟩ = Q := by
    have h := raise_cmp ⟨r, c, b, p⟩ ⟨r', c', b', p'⟩ m (by simp only [topC]; omega) (by simp only [topC]; omega)
    rw [raise_lo (by unfold topC; omega), raise_lo (by unfold topC; omega)] at h
    exact h.trans hQ
  have C4 := Lib.hid (fun w' => compare_w r (c + m) b p r' (c' + m) b' p' Q w' (Lib.hid hQ'))
  have C5 := Lib.hid (fun w' => compare_w r c b p r' c' b' p' Q w' (Lib.hid hQ))
  have C6 := Lib.hid (fun w' => raise_w r c b p 0 c w' (Lib.hid (by rw [raise_lo (by unfold topC; omega)]; simp)) uc ⟨by omega, by omega⟩)
  have C7 := Lib.hid (fun w' => raise_w r c b p 1099511627776 4294967295 w' (Lib.hid (by rw [raise_hi (by unfold topC; omega)])) uc ⟨by omega, by omega⟩)
  have e1 := run_vcEq r (c + (m + n)) b p r (c + (m + n)) b p
  have e2 := run_vcEq r c b p r c b p
  rw [show decide ((⟨r, c + (m + n), b, p⟩ : Vc) = ⟨r, c + (m + n), b, p⟩) = true by simp] at e1
  rw [show decide ((⟨r, c, b, p⟩ : Vc) = ⟨r, c, b, p⟩) = true by simp] at e2
  clear R1 hQ hQ' hs
  have hf : ∀ w, (Instr.field 31 (vv r 4294967295 b p) 1).run Try.prog w = .ok (.int .u64 4294967295) w := fun _ => by kernel_rfl
  have hmn : IntKind.u64.wrap (m + n) = m + n := by rw [IntKind.wrap_u64]; omega
  go_upto_region 6 with (fail)
  have S0 : (w1.cell? ⟨ba, 0, none⟩ = some (.int .u64 r) ∧ w1.cell? ⟨ba, 1, none⟩ = some (.int .u64 c) ∧ w1.cell? ⟨ba, 2, none⟩ = some (.int .u64 b) ∧ w1.cell? ⟨ba, 3, none⟩ = some (.int .u64 p)) ∧ (w1.cell? ⟨bb, 0, none⟩ = some (.int .u64 r') ∧ w1.cell? ⟨bb, 1, none⟩ = some (.int .u64 c') ∧ w1.cell? ⟨bb, 2, none⟩ = some (.int .u64 b') ∧ w1.cell? ⟨bb, 3, none⟩ = some (.int .u64 p')) := ⟨⟨c0, c1, c2, c3⟩, ⟨d0, d1, d2, d3⟩⟩
  go_region_held3 (fun w' => (w'.cell? ⟨ba, 0, none⟩ = some (.int .u64 r) ∧ w'.cell? ⟨ba, 1, none⟩ = some (.int .u64 c) ∧ w'.cell? ⟨ba, 2, none⟩ = some (.int .u64 b) ∧ w'.cell? ⟨ba, 3, none⟩ = some (.int .u64 p)) ∧ (w'.cell? ⟨bb, 0, none⟩ = some (.int .u64 r') ∧ w'.cell? ⟨bb, 1, none⟩ = some (.int .u64 c') ∧ w'.cell? ⟨bb, 2, none⟩ = some (.int .u64 b') ∧ w'.cell? ⟨bb, 3, none⟩ = some (.int .u64 p'))) (first | exact S0 | exact T0 | exact T1 | exact T2 | exact T3 | exact T4 | exact T5 | exact T6 | exact T7 | exact T8) (first | (go_at_call 12; (with_reducible refine ((C0.out) _).mono ?_); rintro e y0 ⟨rfl, hb0⟩; have D0 := ((Below.refl w1.heap.size w1).drew).trans hb0; have T0 : (y0.cell? ⟨ba, 0, none⟩ = some (.int .u64 r) ∧ y0.cell? ⟨ba, 1, none⟩ = some (.int .u64 c) ∧ y0.cell? ⟨ba, 2, none⟩ = some (.int .u64 b) ∧ y0.cell? ⟨ba, 3, none⟩ = some (.int .u64 p)) ∧ (y0.cell? ⟨bb, 0, none⟩ = some (.int .u64 r') ∧ y0.cell? ⟨bb, 1, none⟩ = some (.int .u64 c') ∧ y0.cell? ⟨bb, 2, none⟩ = some (.int .u64 b') ∧ y0.cell? ⟨bb, 3, none⟩ = some (.int .u64 p')) := ⟨(kW.below D0 lk).cells, (mW.below D0 lm).cells⟩) | (go_at_call 12; (with_reducible refine ((C1.out) _).mono ?_); rintro e y1 ⟨rfl, hb1⟩; have D1 := bw_trans D0 hb1; have T1 : (y1.cell? ⟨ba, 0, none⟩ = some (.int .u64 r) ∧ y1.cell? ⟨ba, 1, none⟩ = some (.int .u64 c) ∧ y1.cell? ⟨ba, 2, none⟩ = some (.int .u64 b) ∧ y1.cell? ⟨ba, 3, none⟩ = some (.int .u64 p)) ∧ (y1.cell? ⟨bb, 0, none⟩ = some (.int .u64 r') ∧ y1.cell? ⟨bb, 1, none⟩ = some (.int .u64 c') ∧ y1.cell? ⟨bb, 2, none⟩ = some (.int .u64 b') ∧ y1.cell? ⟨bb, 3, none⟩ = some (.int .u64 p')) := ⟨(kW.below D1 lk).cells, (mW.below D1 lm).cells⟩) | (go_at_call 12; (with_reducible refine ((C2.out) _).mono ?_); rintro e y2 ⟨rfl, hb2⟩; have D2 := bw_trans D1 hb2; have T2 : (y2.cell? ⟨ba, 0, none⟩ = some (.int .u64 r) ∧ y2.cell? ⟨ba, 1, none⟩ = some (.int .u64 c) ∧ y2.cell? ⟨ba, 2, none⟩ = some (.int .u64 b) ∧ y2.cell? ⟨ba, 3, none⟩ = some (.int .u64 p)) ∧ (y2.cell? ⟨bb, 0, none⟩ = some (.int .u64 r') ∧ y2.cell? ⟨bb, 1, none⟩ = some (.int .u64 c') ∧ y2.cell? ⟨bb, 2, none⟩ = some (.int .u64 b') ∧ y2.cell? ⟨bb, 3, none⟩ = some (.int .u64 p')) := ⟨(kW.below D2 lk).cells, (mW.below D2 lm).cells⟩) | (go_at_call 12; (with_reducible refine ((C0.out) _).mono ?_); rintro e y3 ⟨rfl, hb3⟩; have D3 := bw_trans D2 hb3; have T3 : (y3.cell? ⟨ba, 0, none⟩ = some (.int .u64 r) ∧ y3.cell? ⟨ba, 1, none⟩ = some (.int .u64 c) ∧ y3.cell? ⟨ba, 2, none⟩ = some (.int .u64 b) ∧ y3.cell? ⟨ba, 3, none⟩ = some (.int .u64 p)) ∧ (y3.cell? ⟨bb, 0, none⟩ = some (.int .u64 r') ∧ y3.cell? ⟨bb, 1, none⟩ = some (.int .u64 c') ∧ y3.cell? ⟨bb, 2, none⟩ = some (.int .u64 b') ∧ y3.cell? ⟨bb, 3, none⟩ = some (.int .u64 p')) := ⟨(kW.below D3 lk).cells, (mW.below D3 lm).cells⟩) | (go_at_call 12; (with_reducible refine ((C3.out) _).mono ?_); rintro e y4 ⟨rfl, hb4⟩; have D4 := bw_trans D3 hb4; have T4 : (y4.cell? ⟨ba, 0, none⟩ = some (.int .u64 r) ∧ y4.cell? ⟨ba, 1, none⟩ = some (.int .u64 c) ∧ y4.cell? ⟨ba, 2, none⟩ = some (.int .u64 b) ∧ y4.cell? ⟨ba, 3, none⟩ = some (.int .u64 p)) ∧ (y4.cell? ⟨bb, 0, none⟩ = some (.int .u64 r') ∧ y4.cell? ⟨bb, 1, none⟩ = some (.int .u64 c') ∧ y4.cell? ⟨bb, 2, none⟩ = some (.int .u64 b') ∧ y4.cell? ⟨bb, 3, none⟩ = some (.int .u64 p')) := ⟨(kW.below D4 lk).cells, (mW.below D4 lm).cells⟩) | (go_at_call 9; (with_reducible refine ((C4.out) _).mono ?_); rintro e y5 ⟨rfl, hb5⟩; have D5 := bw_trans D4 hb5; have T5 : (y5.cell? ⟨ba, 0, none⟩ = some (.int .u64 r) ∧ y5.cell? ⟨ba, 1, none⟩ = some (.int .u64 c) ∧ y5.cell? ⟨ba, 2, none⟩ = some (.int .u64 b) ∧ y5.cell? ⟨ba, 3, none⟩ = some (.int .u64 p)) ∧ (y5.cell? ⟨bb, 0, none⟩ = some (.int .u64 r') ∧ y5.cell? ⟨bb, 1, none⟩ = some (.int .u64 c') ∧ y5.cell? ⟨bb, 2, none⟩ = some (.int .u64 b') ∧ y5.cell? ⟨bb, 3, none⟩ = some (.int .u64 p')) := ⟨(kW.below D5 lk).cells, (mW.below D5 lm).cells⟩) | (go_at_call 9; (with_reducible refine ((C5.out) _).mono ?_); rintro e y6 ⟨rfl, hb6⟩; have D6 := bw_trans D5 hb6; have T6 : (y6.cell? ⟨ba, 0, none⟩ = some (.int .u64 r) ∧ y6.cell? ⟨ba, 1, none⟩ = some (.int .u64 c) ∧ y6.cell? ⟨ba, 2, none⟩ = some (.int .u64 b) ∧ y6.cell? ⟨ba, 3, none⟩ = some (.int .u64 p)) ∧ (y6.cell? ⟨bb, 0, none⟩ = some (.int .u64 r') ∧ y6.cell? ⟨bb, 1, none⟩ = some (.int .u64 c') ∧ y6.cell? ⟨bb, 2, none⟩ = some (.int .u64 b') ∧ y6.cell? ⟨bb, 3, none⟩ = some (.int .u64 p')) := ⟨(kW.below D6 lk).cells, (mW.below D6 lm).cells⟩) | (go_at_call 12; (with_reducible refine ((C6.out) _).mono ?_); rintro e y7 ⟨rfl, hb7⟩; have D7 := bw_trans D6 hb7; have T7 : (y7.cell? ⟨ba, 0, none⟩ = some (.int .u64 r) ∧ y7.cell? ⟨ba, 1, none⟩ = some (.int .u64 c) ∧ y7.cell? ⟨ba, 2, none⟩ = some (.int .u64 b) ∧ y7.cell? ⟨ba, 3, none⟩ = some (.int .u64 p)) ∧ (y7.cell? ⟨bb, 0, none⟩ = some (.int .u64 r') ∧ y7.cell? ⟨bb, 1, none⟩ = some (.int .u64 c') ∧ y7.cell? ⟨bb, 2, none⟩ = some (.int .u64 b') ∧ y7.cell? ⟨bb, 3, none⟩ = some (.int .u64 p')) := ⟨(kW.below D7 lk).cells, (mW.below D7 lm).cells⟩) | (go_at_call 12; (with_reducible refine ((C7.out) _).mono ?_); rintro e y8 ⟨rfl, hb8⟩; have D8 := bw_trans D7 hb8; have T8 : (y8.cell? ⟨ba, 0, none⟩ = some (.int .u64 r) ∧ y8.cell? ⟨ba, 1, none⟩ = some (.int .u64 c) ∧ y8.cell? ⟨ba, 2, none⟩ = some (.int .u64 b) ∧ y8.cell? ⟨ba, 3, none⟩ = some (.int .u64 p)) ∧ (y8.cell? ⟨bb, 0, none⟩ = some (.int .u64 r') ∧ y8.cell? ⟨bb, 1, none⟩ = some (.int .u64 c') ∧ y8.cell? ⟨bb, 2, none⟩ = some (.int .u64 b') ∧ y8.cell? ⟨bb, 3, none⟩ = some (.int .u64 p')) := ⟨(kW.below D8 lk).cells, (mW.below D8 lm).cells⟩))
  all_goals go_wp2_with fail
  all_goals go_ret
  all_goals exact ⟨rfl, bw_trans BW D8⟩
end Go.Proofs.Ytiehocggdmadaaa
