/-
  The library's sort at uint64: breakPatternsOrdered, of a part of 13 to 16 numbers (printed by gen_sog.py).
-/
import Derived.Test.YtldobcfejldbiaaGreatDoorMbq
namespace Go.Proofs.YtldobcfejldbiaaGreatDoor
set_option linter.unusedVariables false
set_option linter.unusedSimpArgs false
open Go.RowKit Go.Sort Sm

theorem mask_to (R : Int) (k m : Nat) (hk : k < 64) (hm : m = 2 ^ k - 1) (h : 0 ≤ R ∧ R < 18446744073709551616) : ∃ O : Nat, bits .and .u64 R (m : Int) = (O : Int) ∧ O ≤ m := by
  have h1 := u64_mask R k hk ⟨h.1, h.2⟩
  rw [← hm] at h1
  have hp : 0 < 2 ^ k := Nat.two_pow_pos k
  refine ⟨(R % ((2 ^ k : Nat) : Int)).toNat, ?_, ?_⟩
  · rw [h1]
    have := Int.emod_nonneg R (b := ((2 ^ k : Nat) : Int)) (by omega)
    omega
  · have := Int.emod_nonneg R (b := ((2 ^ k : Nat) : Int)) (by omega)
    have h2 := Int.emod_lt_of_pos R (b := ((2 ^ k : Nat) : Int)) (by omega)
    omega
theorem set2_heap (w : World) {g s : Nat} (h : g ≠ s) (i j : Nat) (u v : Value) : ((w.setCell ⟨g, i, none⟩ u).setCell ⟨g, j, none⟩ v).heap[s]? = w.heap[s]? :=
  (Below.heap_setCell _ ⟨g, j, none⟩ v s (fun e => h e.symm)).trans (Below.heap_setCell _ ⟨g, i, none⟩ u s (fun e => h e.symm))
theorem perm_swp {a b i j : Nat} {d e : Array Int} (h : PermIn a b d e) (hb : b ≤ d.size) (h1 : a ≤ i ∧ i < b) (h2 : a ≤ j ∧ j < b) : PermIn a b d (swp e i j) :=
  permIn_trans d e _ a b h (swp_permIn e a b i j h1.1 h1.2 h2.1 h2.2 (by rw [h.1]; exact hb))


set_option maxRecDepth 20000 in
set_option maxHeartbeats 4000000 in
theorem break13_w (g cap n a : Nat) (d : Array Int) (w : World) (h : SH w g d) (hn : d.size = n) (hb : a + 13 ≤ n) (hn1 : n ≤ 1000) :
    Calls Tryz.prog 178 #[.slice (some ⟨g, 0, none⟩) n cap, .int .i64 ((a : Nat) : Int), .int .i64 ((a + 13 : Nat) : Int)] w fun e w' =>
      e = .returned (.tuple #[]) ∧ ∃ d', PermIn a (a + 13) d d' ∧ SH w' g d' ∧ Kq g w w' := by
  have H := Lib.hid h
  have HN := Lib.hid hn
  have hg := h.lt (by omega)
  have B0 := Lib.hid (below_box w (.cells #[.int .u64 13] 242))
  have N0 := Lib.hid (show NX (w.alloc (.cells #[.int .u64 13] 242)) w.heap.size 13 from heap_alloc_new w _)
  have D0 := Lib.hid (H.out.next B0.out)
  have CP := Lib.hid (fun w' => power2_w 13 (by omega) w')
  have ha : (a : Int) ≤ 1000 := by omega
  have hLi : ((a + 13 : Nat) : Int) - (a : Int) = 13 := by omega
  obtain ⟨b, hbb⟩ : ∃ b : Nat, a + 13 = b := ⟨_, rfl⟩
  obtain ⟨s, hs⟩ : ∃ s, w.heap.size = s := ⟨_, rfl⟩
  rw [hbb] at hLi ⊢
  have hb1 : b ≤ a + 13 := by omega
  have hb2 : a + 13 ≤ b := by omega
  have hsg : g ≠ s := by omega
  clear h hn hbb
  go_enter Tryz.func178, Tryz.ntmps178
  go_wp2_with (go_at_call 205; refine (CP.out _).mono ?_; rintro e w' ⟨rfl, rfl⟩)
  rw [hs] at N0
  go_loopw [9] (fun v wr => ∃ (t : Nat) (e : Array Int) (R : Int), v = .int .i64 ((a + 5 + t : Nat) : Int) ∧ t ≤ 3 ∧ PermIn a b d e ∧ SH wr g e ∧ NX wr s R ∧ Kq g w wr) (fun v _ => a + 8 - (intOf v).toNat)
  case atStart => exact ⟨0, d, 13, by first | rfl | (congr 1; omega), by omega, permIn_refl d a b, D0.out, N0.out, Kq.of B0.out⟩
  case round =>
    obtain ⟨t, e, R, rfl, ht, hp, hse, hnx, hk⟩ := hrel
    have HP := Lib.hid hp
    have HS := Lib.hid hse
    have HX := Lib.hid hnx
    have HK := Lib.hid hk
    have hes : e.size = n := hp.1.trans HN.out
    clear hp hse hnx hk
    by_cases h3 : t < 3
    · have h3i : ((a + 5 + t : Nat) : Int) ≤ (a : Int) + 7 := by omega
      go_wp2_with fail
      refine (next_w s R wr HX.out).mono ?_
      rintro e1 w1 ⟨R1, rfl, hR1, hn1', hk1⟩
      have HX1 := Lib.hid hn1'
      have HS1 := Lib.hid (HS.out.kq hk1 hsg (by omega))
      have HK1 := Lib.hid (show Kq g w w1 from ⟨hk1.os.trans HK.out.os, hk1.tape.trans HK.out.tape, hk1.output.trans HK.out.output, Nat.le_trans HK.out.size hk1.size, fun i hi hne => (hk1.block i (Nat.lt_of_lt_of_le hi HK.out.size) (by omega)).trans (HK.out.block i hi hne)⟩)
      obtain ⟨O, hO, hO1⟩ := mask_to R1 4 15 (by omega) (by decide) hR1
      have hO' : bits .and .u64 R1 15 = (O : Int) := hO
      have hOi : (O : Int) ≤ 15 := by omega
      clear hn1' hk1 hO HS HX HK
      obtain ⟨G, hG⟩ : ∃ G : Nat → Int, ∀ t, G t = e[t]! := ⟨fun t => e[t]!, fun _ => rfl⟩
      have FIN : ∀ (j q : Nat) (W : World), j < b → a ≤ j → SH W g (swp e (a + 5 + t) j) → Kq g w W → W.heap[s]? = w1.heap[s]? → (∃ (t' : Nat) (e' : Array Int) (R' : Int), Value.int .i64 (((a + 5 + t : Nat) : Int) + 1) = .int .i64 ((a + 5 + t' : Nat) : Int) ∧ t' ≤ 3 ∧ PermIn a b d e' ∧ SH (W.drewN q) g e' ∧ NX (W.drewN q) s R' ∧ Kq g w (W.drewN q)) :=
        fun j q W hj1 hj2 h1 h2 h3' => ⟨t + 1, swp e (a + 5 + t) j, R1, by first | rfl | congr 1 | (congr 1; omega), by omega, perm_swp HP.out (by have := HN.out; omega) ⟨by omega, by omega⟩ ⟨hj2, hj1⟩, h1.drewN q, NX.drewN (show NX W s R1 from h3'.trans HX1.out) q, h2.drewN q⟩
      have HF := Lib.hid FIN
      have c_i := HS1.out.cell (i := a + 5 + t) (by omega)
      have f_i := HS1.out.free (i := a + 5 + t) (by omega)
      rw [← hG] at c_i
      have b_i : ((a + 5 + t : Nat) : Int) < n := by omega
      have e_i : (0 : Int) ≤ ((a + 5 + t : Nat) : Int) := by omega
      obtain ⟨i, hi⟩ : ∃ i : Nat, a + 5 + t = i := ⟨_, rfl⟩
      rw [hi] at c_i f_i b_i e_i HF h3i ⊢
      have HI := Lib.hid hi
      have HI2 := Lib.hid (show i < a + 8 ∧ a + 5 ≤ i by omega)
      have hi1 : i < n := by omega
      clear FIN hi
      by_cases hOL : O < 13
      · have hOLi : (O : Int) < 13 := by omega
        have hsw := HS1.out.swp (i := i) (j := a + O) (by omega) (by omega)
        have c_j := HS1.out.cell (i := a + O) (by omega)
        have f_j := HS1.out.free (i := a + O) (by omega)
        rw [← hG, ← hG] at hsw
        rw [← hG] at c_j
        have b_j : (a : Int) + (O : Int) < n := by omega
        have HW := Lib.hid hsw
        clear hsw hG
        go_wp2_with fail
        by_cases huv : i = a + O
        · go_region
          all_goals go_wp2_with fail
          all_goals (refine ⟨?_, by have h9 := HI.out; have h8 := HI2.out; simp [intOf]; omega⟩; rw [huv] at HF HW; have hz := HF.out (a + O) 1 _ (by omega) (by omega) HW.out ((HK1.out.set _ _).set _ _) (set2_heap _ hsg _ _ _ _); rw [Int.natCast_add] at hz; exact hz)
        · go_region
          all_goals go_wp2_with fail
          all_goals exact ⟨HF.out (a + O) _ _ (by omega) (by omega) HW.out ((HK1.out.set _ _).set _ _) (set2_heap _ hsg _ _ _ _), by have h9 := HI.out; have h8 := HI2.out; simp [intOf]; omega⟩
      · have hOLi : ¬ (O : Int) < 13 := by omega
        obtain ⟨j, hj⟩ : ∃ j : Nat, O = j + 13 := ⟨O - 13, by omega⟩
        have hji : (O : Int) - 13 = (j : Int) := by omega
        have hj1 : j < 13 := by omega
        have hsw := HS1.out.swp (i := i) (j := a + j) (by omega) (by omega)
        have c_j := HS1.out.cell (i := a + j) (by omega)
        have f_j := HS1.out.free (i := a + j) (by omega)
        rw [← hG, ← hG] at hsw
        rw [← hG] at c_j
        have b_j : (a : Int) + (j : Int) < n := by omega
        have HW := Lib.hid hsw
        clear hsw hG
        go_wp2_with fail
        by_cases huv : i = a + j
        · go_region
          all_goals go_wp2_with fail
          all_goals (refine ⟨?_, by have h9 := HI.out; have h8 := HI2.out; simp [intOf]; omega⟩; rw [huv] at HF HW; have hz := HF.out (a + j) 1 _ (by omega) (by omega) HW.out ((HK1.out.set _ _).set _ _) (set2_heap _ hsg _ _ _ _); rw [Int.natCast_add] at hz; exact hz)
        · go_region
          all_goals go_wp2_with fail
          all_goals exact ⟨HF.out (a + j) _ _ (by omega) (by omega) HW.out ((HK1.out.set _ _).set _ _) (set2_heap _ hsg _ _ _ _), by have h9 := HI.out; have h8 := HI2.out; simp [intOf]; omega⟩
    · obtain rfl : t = 3 := by omega
      have h3i : ¬ ((a + 5 + 3 : Nat) : Int) ≤ (a : Int) + 7 := by omega
      go_wp2_with fail
      go_end0
      exact ⟨rfl, e, HP.out, HS.out, HK.out⟩


set_option maxRecDepth 20000 in
set_option maxHeartbeats 4000000 in
theorem break14_w (g cap n a : Nat) (d : Array Int) (w : World) (h : SH w g d) (hn : d.size = n) (hb : a + 14 ≤ n) (hn1 : n ≤ 1000) :
    Calls Tryz.prog 178 #[.slice (some ⟨g, 0, none⟩) n cap, .int .i64 ((a : Nat) : Int), .int .i64 ((a + 14 : Nat) : Int)] w fun e w' =>
      e = .returned (.tuple #[]) ∧ ∃ d', PermIn a (a + 14) d d' ∧ SH w' g d' ∧ Kq g w w' := by
  have H := Lib.hid h
  have HN := Lib.hid hn
  have hg := h.lt (by omega)
  have B0 := Lib.hid (below_box w (.cells #[.int .u64 14] 242))
  have N0 := Lib.hid (show NX (w.alloc (.cells #[.int .u64 14] 242)) w.heap.size 14 from heap_alloc_new w _)
  have D0 := Lib.hid (H.out.next B0.out)
  have CP := Lib.hid (fun w' => power2_w 14 (by omega) w')
  have ha : (a : Int) ≤ 1000 := by omega
  have hLi : ((a + 14 : Nat) : Int) - (a : Int) = 14 := by omega
  obtain ⟨b, hbb⟩ : ∃ b : Nat, a + 14 = b := ⟨_, rfl⟩
  obtain ⟨s, hs⟩ : ∃ s, w.heap.size = s := ⟨_, rfl⟩
  rw [hbb] at hLi ⊢
  have hb1 : b ≤ a + 14 := by omega
  have hb2 : a + 14 ≤ b := by omega
  have hsg : g ≠ s := by omega
  clear h hn hbb
  go_enter Tryz.func178, Tryz.ntmps178
  go_wp2_with (go_at_call 205; refine (CP.out _).mono ?_; rintro e w' ⟨rfl, rfl⟩)
  rw [hs] at N0
  go_loopw [9] (fun v wr => ∃ (t : Nat) (e : Array Int) (R : Int), v = .int .i64 ((a + 5 + t : Nat) : Int) ∧ t ≤ 3 ∧ PermIn a b d e ∧ SH wr g e ∧ NX wr s R ∧ Kq g w wr) (fun v _ => a + 8 - (intOf v).toNat)
  case atStart => exact ⟨0, d, 14, by first | rfl | (congr 1; omega), by omega, permIn_refl d a b, D0.out, N0.out, Kq.of B0.out⟩
  case round =>
    obtain ⟨t, e, R, rfl, ht, hp, hse, hnx, hk⟩ := hrel
    have HP := Lib.hid hp
    have HS := Lib.hid hse
    have HX := Lib.hid hnx
    have HK := Lib.hid hk
    have hes : e.size = n := hp.1.trans HN.out
    clear hp hse hnx hk
    by_cases h3 : t < 3
    · have h3i : ((a + 5 + t : Nat) : Int) ≤ (a : Int) + 7 := by omega
      go_wp2_with fail
      refine (next_w s R wr HX.out).mono ?_
      rintro e1 w1 ⟨R1, rfl, hR1, hn1', hk1⟩
      have HX1 := Lib.hid hn1'
      have HS1 := Lib.hid (HS.out.kq hk1 hsg (by omega))
      have HK1 := Lib.hid (show Kq g w w1 from ⟨hk1.os.trans HK.out.os, hk1.tape.trans HK.out.tape, hk1.output.trans HK.out.output, Nat.le_trans HK.out.size hk1.size, fun i hi hne => (hk1.block i (Nat.lt_of_lt_of_le hi HK.out.size) (by omega)).trans (HK.out.block i hi hne)⟩)
      obtain ⟨O, hO, hO1⟩ := mask_to R1 4 15 (by omega) (by decide) hR1
      have hO' : bits .and .u64 R1 15 = (O : Int) := hO
      have hOi : (O : Int) ≤ 15 := by omega
      clear hn1' hk1 hO HS HX HK
      obtain ⟨G, hG⟩ : ∃ G : Nat → Int, ∀ t, G t = e[t]! := ⟨fun t => e[t]!, fun _ => rfl⟩
      have FIN : ∀ (j q : Nat) (W : World), j < b → a ≤ j → SH W g (swp e (a + 5 + t) j) → Kq g w W → W.heap[s]? = w1.heap[s]? → (∃ (t' : Nat) (e' : Array Int) (R' : Int), Value.int .i64 (((a + 5 + t : Nat) : Int) + 1) = .int .i64 ((a + 5 + t' : Nat) : Int) ∧ t' ≤ 3 ∧ PermIn a b d e' ∧ SH (W.drewN q) g e' ∧ NX (W.drewN q) s R' ∧ Kq g w (W.drewN q)) :=
        fun j q W hj1 hj2 h1 h2 h3' => ⟨t + 1, swp e (a + 5 + t) j, R1, by first | rfl | congr 1 | (congr 1; omega), by omega, perm_swp HP.out (by have := HN.out; omega) ⟨by omega, by omega⟩ ⟨hj2, hj1⟩, h1.drewN q, NX.drewN (show NX W s R1 from h3'.trans HX1.out) q, h2.drewN q⟩
      have HF := Lib.hid FIN
      have c_i := HS1.out.cell (i := a + 5 + t) (by omega)
      have f_i := HS1.out.free (i := a + 5 + t) (by omega)
      rw [← hG] at c_i
      have b_i : ((a + 5 + t : Nat) : Int) < n := by omega
      have e_i : (0 : Int) ≤ ((a + 5 + t : Nat) : Int) := by omega
      obtain ⟨i, hi⟩ : ∃ i : Nat, a + 5 + t = i := ⟨_, rfl⟩
      rw [hi] at c_i f_i b_i e_i HF h3i ⊢
      have HI := Lib.hid hi
      have HI2 := Lib.hid (show i < a + 8 ∧ a + 5 ≤ i by omega)
      have hi1 : i < n := by omega
      clear FIN hi
      by_cases hOL : O < 14
      · have hOLi : (O : Int) < 14 := by omega
        have hsw := HS1.out.swp (i := i) (j := a + O) (by omega) (by omega)
        have c_j := HS1.out.cell (i := a + O) (by omega)
        have f_j := HS1.out.free (i := a + O) (by omega)
        rw [← hG, ← hG] at hsw
        rw [← hG] at c_j
        have b_j : (a : Int) + (O : Int) < n := by omega
        have HW := Lib.hid hsw
        clear hsw hG
        go_wp2_with fail
        by_cases huv : i = a + O
        · go_region
          all_goals go_wp2_with fail
          all_goals (refine ⟨?_, by have h9 := HI.out; have h8 := HI2.out; simp [intOf]; omega⟩; rw [huv] at HF HW; have hz := HF.out (a + O) 1 _ (by omega) (by omega) HW.out ((HK1.out.set _ _).set _ _) (set2_heap _ hsg _ _ _ _); rw [Int.natCast_add] at hz; exact hz)
        · go_region
          all_goals go_wp2_with fail
          all_goals exact ⟨HF.out (a + O) _ _ (by omega) (by omega) HW.out ((HK1.out.set _ _).set _ _) (set2_heap _ hsg _ _ _ _), by have h9 := HI.out; have h8 := HI2.out; simp [intOf]; omega⟩
      · have hOLi : ¬ (O : Int) < 14 := by omega
        obtain ⟨j, hj⟩ : ∃ j : Nat, O = j + 14 := ⟨O - 14, by omega⟩
        have hji : (O : Int) - 14 = (j : Int) := by omega
        have hj1 : j < 14 := by omega
        have hsw := HS1.out.swp (i := i) (j := a + j) (by omega) (by omega)
        have c_j := HS1.out.cell (i := a + j) (by omega)
        have f_j := HS1.out.free (i := a + j) (by omega)
        rw [← hG, ← hG] at hsw
        rw [← hG] at c_j
        have b_j : (a : Int) + (j : Int) < n := by omega
        have HW := Lib.hid hsw
        clear hsw hG
        go_wp2_with fail
        by_cases huv : i = a + j
        · go_region
          all_goals go_wp2_with fail
          all_goals (refine ⟨?_, by have h9 := HI.out; have h8 := HI2.out; simp [intOf]; omega⟩; rw [huv] at HF HW; have hz := HF.out (a + j) 1 _ (by omega) (by omega) HW.out ((HK1.out.set _ _).set _ _) (set2_heap _ hsg _ _ _ _); rw [Int.natCast_add] at hz; exact hz)
        · go_region
          all_goals go_wp2_with fail
          all_goals exact ⟨HF.out (a + j) _ _ (by omega) (by omega) HW.out ((HK1.out.set _ _).set _ _) (set2_heap _ hsg _ _ _ _), by have h9 := HI.out; have h8 := HI2.out; simp [intOf]; omega⟩
    · obtain rfl : t = 3 := by omega
      have h3i : ¬ ((a + 5 + 3 : Nat) : Int) ≤ (a : Int) + 7 := by omega
      go_wp2_with fail
      go_end0
      exact ⟨rfl, e, HP.out, HS.out, HK.out⟩


set_option maxRecDepth 20000 in
set_option maxHeartbeats 4000000 in
theorem break15_w (g cap n a : Nat) (d : Array Int) (w : World) (h : SH w g d) (hn : d.size = n) (hb : a + 15 ≤ n) (hn1 : n ≤ 1000) :
    Calls Tryz.prog 178 #[.slice (some ⟨g, 0, none⟩) n cap, .int .i64 ((a : Nat) : Int), .int .i64 ((a + 15 : Nat) : Int)] w fun e w' =>
      e = .returned (.tuple #[]) ∧ ∃ d', PermIn a (a + 15) d d' ∧ SH w' g d' ∧ Kq g w w' := by
  have H := Lib.hid h
  have HN := Lib.hid hn
  have hg := h.lt (by omega)
  have B0 := Lib.hid (below_box w (.cells #[.int .u64 15] 242))
  have N0 := Lib.hid (show NX (w.alloc (.cells #[.int .u64 15] 242)) w.heap.size 15 from heap_alloc_new w _)
  have D0 := Lib.hid (H.out.next B0.out)
  have CP := Lib.hid (fun w' => power2_w 15 (by omega) w')
  have ha : (a : Int) ≤ 1000 := by omega
  have hLi : ((a + 15 : Nat) : Int) - (a : Int) = 15 := by omega
  obtain ⟨b, hbb⟩ : ∃ b : Nat, a + 15 = b := ⟨_, rfl⟩
  obtain ⟨s, hs⟩ : ∃ s, w.heap.size = s := ⟨_, rfl⟩
  rw [hbb] at hLi ⊢
  have hb1 : b ≤ a + 15 := by omega
  have hb2 : a + 15 ≤ b := by omega
  have hsg : g ≠ s := by omega
  clear h hn hbb
  go_enter Tryz.func178, Tryz.ntmps178
  go_wp2_with (go_at_call 205; refine (CP.out _).mono ?_; rintro e w' ⟨rfl, rfl⟩)
  rw [hs] at N0
  go_loopw [9] (fun v wr => ∃ (t : Nat) (e : Array Int) (R : Int), v = .int .i64 ((a + 5 + t : Nat) : Int) ∧ t ≤ 3 ∧ PermIn a b d e ∧ SH wr g e ∧ NX wr s R ∧ Kq g w wr) (fun v _ => a + 8 - (intOf v).toNat)
  case atStart => exact ⟨0, d, 15, by first | rfl | (congr 1; omega), by omega, permIn_refl d a b, D0.out, N0.out, Kq.of B0.out⟩
  case round =>
    obtain ⟨t, e, R, rfl, ht, hp, hse, hnx, hk⟩ := hrel
    have HP := Lib.hid hp
    have HS := Lib.hid hse
    have HX := Lib.hid hnx
    have HK := Lib.hid hk
    have hes : e.size = n := hp.1.trans HN.out
    clear hp hse hnx hk
    by_cases h3 : t < 3
    · have h3i : ((a + 5 + t : Nat) : Int) ≤ (a : Int) + 7 := by omega
      go_wp2_with fail
      refine (next_w s R wr HX.out).mono ?_
      rintro e1 w1 ⟨R1, rfl, hR1, hn1', hk1⟩
      have HX1 := Lib.hid hn1'
      have HS1 := Lib.hid (HS.out.kq hk1 hsg (by omega))
      have HK1 := Lib.hid (show Kq g w w1 from ⟨hk1.os.trans HK.out.os, hk1.tape.trans HK.out.tape, hk1.output.trans HK.out.output, Nat.le_trans HK.out.size hk1.size, fun i hi hne => (hk1.block i (Nat.lt_of_lt_of_le hi HK.out.size) (by omega)).trans (HK.out.block i hi hne)⟩)
      obtain ⟨O, hO, hO1⟩ := mask_to R1 4 15 (by omega) (by decide) hR1
      have hO' : bits .and .u64 R1 15 = (O : Int) := hO
      have hOi : (O : Int) ≤ 15 := by omega
      clear hn1' hk1 hO HS HX HK
      obtain ⟨G, hG⟩ : ∃ G : Nat → Int, ∀ t, G t = e[t]! := ⟨fun t => e[t]!, fun _ => rfl⟩
      have FIN : ∀ (j q : Nat) (W : World), j < b → a ≤ j → SH W g (swp e (a + 5 + t) j) → Kq g w W → W.heap[s]? = w1.heap[s]? → (∃ (t' : Nat) (e' : Array Int) (R' : Int), Value.int .i64 (((a + 5 + t : Nat) : Int) + 1) = .int .i64 ((a + 5 + t' : Nat) : Int) ∧ t' ≤ 3 ∧ PermIn a b d e' ∧ SH (W.drewN q) g e' ∧ NX (W.drewN q) s R' ∧ Kq g w (W.drewN q)) :=
        fun j q W hj1 hj2 h1 h2 h3' => ⟨t + 1, swp e (a + 5 + t) j, R1, by first | rfl | congr 1 | (congr 1; omega), by omega, perm_swp HP.out (by have := HN.out; omega) ⟨by omega, by omega⟩ ⟨hj2, hj1⟩, h1.drewN q, NX.drewN (show NX W s R1 from h3'.trans HX1.out) q, h2.drewN q⟩
      have HF := Lib.hid FIN
      have c_i := HS1.out.cell (i := a + 5 + t) (by omega)
      have f_i := HS1.out.free (i := a + 5 + t) (by omega)
      rw [← hG] at c_i
      have b_i : ((a + 5 + t : Nat) : Int) < n := by omega
      have e_i : (0 : Int) ≤ ((a + 5 + t : Nat) : Int) := by omega
      obtain ⟨i, hi⟩ : ∃ i : Nat, a + 5 + t = i := ⟨_, rfl⟩
      rw [hi] at c_i f_i b_i e_i HF h3i ⊢
      have HI := Lib.hid hi
      have HI2 := Lib.hid (show i < a + 8 ∧ a + 5 ≤ i by omega)
      have hi1 : i < n := by omega
      clear FIN hi
      by_cases hOL : O < 15
      · have hOLi : (O : Int) < 15 := by omega
        have hsw := HS1.out.swp (i := i) (j := a + O) (by omega) (by omega)
        have c_j := HS1.out.cell (i := a + O) (by omega)
        have f_j := HS1.out.free (i := a + O) (by omega)
        rw [← hG, ← hG] at hsw
        rw [← hG] at c_j
        have b_j : (a : Int) + (O : Int) < n := by omega
        have HW := Lib.hid hsw
        clear hsw hG
        go_wp2_with fail
        by_cases huv : i = a + O
        · go_region
          all_goals go_wp2_with fail
          all_goals (refine ⟨?_, by have h9 := HI.out; have h8 := HI2.out; simp [intOf]; omega⟩; rw [huv] at HF HW; have hz := HF.out (a + O) 1 _ (by omega) (by omega) HW.out ((HK1.out.set _ _).set _ _) (set2_heap _ hsg _ _ _ _); rw [Int.natCast_add] at hz; exact hz)
        · go_region
          all_goals go_wp2_with fail
          all_goals exact ⟨HF.out (a + O) _ _ (by omega) (by omega) HW.out ((HK1.out.set _ _).set _ _) (set2_heap _ hsg _ _ _ _), by have h9 := HI.out; have h8 := HI2.out; simp [intOf]; omega⟩
      · have hOLi : ¬ (O : Int) < 15 := by omega
        obtain ⟨j, hj⟩ : ∃ j : Nat, O = j + 15 := ⟨O - 15, by omega⟩
        have hji : (O : Int) - 15 = (j : Int) := by omega
        have hj1 : j < 15 := by omega
        have hsw := HS1.out.swp (i := i) (j := a + j) (by omega) (by omega)
        have c_j := HS1.out.cell (i := a + j) (by omega)
        have f_j := HS1.out.free (i := a + j) (by omega)
        rw [← hG, ← hG] at hsw
        rw [← hG] at c_j
        have b_j : (a : Int) + (j : Int) < n := by omega
        have HW := Lib.hid hsw
        clear hsw hG
        go_wp2_with fail
        by_cases huv : i = a + j
        · go_region
          all_goals go_wp2_with fail
          all_goals (refine ⟨?_, by have h9 := HI.out; have h8 := HI2.out; simp [intOf]; omega⟩; rw [huv] at HF HW; have hz := HF.out (a + j) 1 _ (by omega) (by omega) HW.out ((HK1.out.set _ _).set _ _) (set2_heap _ hsg _ _ _ _); rw [Int.natCast_add] at hz; exact hz)
        · go_region
          all_goals go_wp2_with fail
          all_goals exact ⟨HF.out (a + j) _ _ (by omega) (by omega) HW.out ((HK1.out.set _ _).set _ _) (set2_heap _ hsg _ _ _ _), by have h9 := HI.out; have h8 := HI2.out; simp [intOf]; omega⟩
    · obtain rfl : t = 3 := by omega
      have h3i : ¬ ((a + 5 + 3 : Nat) : Int) ≤ (a : Int) + 7 := by omega
      go_wp2_with fail
      go_end0
      exact ⟨rfl, e, HP.out, HS.out, HK.out⟩


set_option maxRecDepth 20000 in
set_option maxHeartbeats 4000000 in
theorem break16_w (g cap n a : Nat) (d : Array Int) (w : World) (h : SH w g d) (hn : d.size = n) (hb : a + 16 ≤ n) (hn1 : n ≤ 1000) :
    Calls Tryz.prog 178 #[.slice (some ⟨g, 0, none⟩) n cap, .int .i64 ((a : Nat) : Int), .int .i64 ((a + 16 : Nat) : Int)] w fun e w' =>
      e = .returned (.tuple #[]) ∧ ∃ d', PermIn a (a + 16) d d' ∧ SH w' g d' ∧ Kq g w w' := by
  have H := Lib.hid h
  have HN := Lib.hid hn
  have hg := h.lt (by omega)
  have B0 := Lib.hid (below_box w (.cells #[.int .u64 16] 242))
  have N0 := Lib.hid (show NX (w.alloc (.cells #[.int .u64 16] 242)) w.heap.size 16 from heap_alloc_new w _)
  have D0 := Lib.hid (H.out.next B0.out)
  have CP := Lib.hid (fun w' => power2_w 16 (by omega) w')
  have ha : (a : Int) ≤ 1000 := by omega
  have hLi : ((a + 16 : Nat) : Int) - (a : Int) = 16 := by omega
  obtain ⟨b, hbb⟩ : ∃ b : Nat, a + 16 = b := ⟨_, rfl⟩
  obtain ⟨s, hs⟩ : ∃ s, w.heap.size = s := ⟨_, rfl⟩
  rw [hbb] at hLi ⊢
  have hb1 : b ≤ a + 16 := by omega
  have hb2 : a + 16 ≤ b := by omega
  have hsg : g ≠ s := by omega
  clear h hn hbb
  go_enter Tryz.func178, Tryz.ntmps178
  go_wp2_with (go_at_call 205; refine (CP.out _).mono ?_; rintro e w' ⟨rfl, rfl⟩)
  rw [hs] at N0
  go_loopw [9] (fun v wr => ∃ (t : Nat) (e : Array Int) (R : Int), v = .int .i64 ((a + 7 + t : Nat) : Int) ∧ t ≤ 3 ∧ PermIn a b d e ∧ SH wr g e ∧ NX wr s R ∧ Kq g w wr) (fun v _ => a + 10 - (intOf v).toNat)
  case atStart => exact ⟨0, d, 16, by first | rfl | (congr 1; omega), by omega, permIn_refl d a b, D0.out, N0.out, Kq.of B0.out⟩
  case round =>
    obtain ⟨t, e, R, rfl, ht, hp, hse, hnx, hk⟩ := hrel
    have HP := Lib.hid hp
    have HS := Lib.hid hse
    have HX := Lib.hid hnx
    have HK := Lib.hid hk
    have hes : e.size = n := hp.1.trans HN.out
    clear hp hse hnx hk
    by_cases h3 : t < 3
    · have h3i : ((a + 7 + t : Nat) : Int) ≤ (a : Int) + 9 := by omega
      go_wp2_with fail
      refine (next_w s R wr HX.out).mono ?_
      rintro e1 w1 ⟨R1, rfl, hR1, hn1', hk1⟩
      have HX1 := Lib.hid hn1'
      have HS1 := Lib.hid (HS.out.kq hk1 hsg (by omega))
      have HK1 := Lib.hid (show Kq g w w1 from ⟨hk1.os.trans HK.out.os, hk1.tape.trans HK.out.tape, hk1.output.trans HK.out.output, Nat.le_trans HK.out.size hk1.size, fun i hi hne => (hk1.block i (Nat.lt_of_lt_of_le hi HK.out.size) (by omega)).trans (HK.out.block i hi hne)⟩)
      obtain ⟨O, hO, hO1⟩ := mask_to R1 5 31 (by omega) (by decide) hR1
      have hO' : bits .and .u64 R1 31 = (O : Int) := hO
      have hOi : (O : Int) ≤ 31 := by omega
      clear hn1' hk1 hO HS HX HK
      obtain ⟨G, hG⟩ : ∃ G : Nat → Int, ∀ t, G t = e[t]! := ⟨fun t => e[t]!, fun _ => rfl⟩
      have FIN : ∀ (j q : Nat) (W : World), j < b → a ≤ j → SH W g (swp e (a + 7 + t) j) → Kq g w W → W.heap[s]? = w1.heap[s]? → (∃ (t' : Nat) (e' : Array Int) (R' : Int), Value.int .i64 (((a + 7 + t : Nat) : Int) + 1) = .int .i64 ((a + 7 + t' : Nat) : Int) ∧ t' ≤ 3 ∧ PermIn a b d e' ∧ SH (W.drewN q) g e' ∧ NX (W.drewN q) s R' ∧ Kq g w (W.drewN q)) :=
        fun j q W hj1 hj2 h1 h2 h3' => ⟨t + 1, swp e (a + 7 + t) j, R1, by first | rfl | congr 1 | (congr 1; omega), by omega, perm_swp HP.out (by have := HN.out; omega) ⟨by omega, by omega⟩ ⟨hj2, hj1⟩, h1.drewN q, NX.drewN (show NX W s R1 from h3'.trans HX1.out) q, h2.drewN q⟩
      have HF := Lib.hid FIN
      have c_i := HS1.out.cell (i := a + 7 + t) (by omega)
      have f_i := HS1.out.free (i := a + 7 + t) (by omega)
      rw [← hG] at c_i
      have b_i : ((a + 7 + t : Nat) : Int) < n := by omega
      have e_i : (0 : Int) ≤ ((a + 7 + t : Nat) : Int) := by omega
      obtain ⟨i, hi⟩ : ∃ i : Nat, a + 7 + t = i := ⟨_, rfl⟩
      rw [hi] at c_i f_i b_i e_i HF h3i ⊢
      have HI := Lib.hid hi
      have HI2 := Lib.hid (show i < a + 10 ∧ a + 7 ≤ i by omega)
      have hi1 : i < n := by omega
      clear FIN hi
      by_cases hOL : O < 16
      · have hOLi : (O : Int) < 16 := by omega
        have hsw := HS1.out.swp (i := i) (j := a + O) (by omega) (by omega)
        have c_j := HS1.out.cell (i := a + O) (by omega)
        have f_j := HS1.out.free (i := a + O) (by omega)
        rw [← hG, ← hG] at hsw
        rw [← hG] at c_j
        have b_j : (a : Int) + (O : Int) < n := by omega
        have HW := Lib.hid hsw
        clear hsw hG
        go_wp2_with fail
        by_cases huv : i = a + O
        · go_region
          all_goals go_wp2_with fail
          all_goals (refine ⟨?_, by have h9 := HI.out; have h8 := HI2.out; simp [intOf]; omega⟩; rw [huv] at HF HW; have hz := HF.out (a + O) 1 _ (by omega) (by omega) HW.out ((HK1.out.set _ _).set _ _) (set2_heap _ hsg _ _ _ _); rw [Int.natCast_add] at hz; exact hz)
        · go_region
          all_goals go_wp2_with fail
          all_goals exact ⟨HF.out (a + O) _ _ (by omega) (by omega) HW.out ((HK1.out.set _ _).set _ _) (set2_heap _ hsg _ _ _ _), by have h9 := HI.out; have h8 := HI2.out; simp [intOf]; omega⟩
      · have hOLi : ¬ (O : Int) < 16 := by omega
        obtain ⟨j, hj⟩ : ∃ j : Nat, O = j + 16 := ⟨O - 16, by omega⟩
        have hji : (O : Int) - 16 = (j : Int) := by omega
        have hj1 : j < 16 := by omega
        have hsw := HS1.out.swp (i := i) (j := a + j) (by omega) (by omega)
        have c_j := HS1.out.cell (i := a + j) (by omega)
        have f_j := HS1.out.free (i := a + j) (by omega)
        rw [← hG, ← hG] at hsw
        rw [← hG] at c_j
        have b_j : (a : Int) + (j : Int) < n := by omega
        have HW := Lib.hid hsw
        clear hsw hG
        go_wp2_with fail
        by_cases huv : i = a + j
        · go_region
          all_goals go_wp2_with fail
          all_goals (refine ⟨?_, by have h9 := HI.out; have h8 := HI2.out; simp [intOf]; omega⟩; rw [huv] at HF HW; have hz := HF.out (a + j) 1 _ (by omega) (by omega) HW.out ((HK1.out.set _ _).set _ _) (set2_heap _ hsg _ _ _ _); rw [Int.natCast_add] at hz; exact hz)
        · go_region
          all_goals go_wp2_with fail
          all_goals exact ⟨HF.out (a + j) _ _ (by omega) (by omega) HW.out ((HK1.out.set _ _).set _ _) (set2_heap _ hsg _ _ _ _), by have h9 := HI.out; have h8 := HI2.out; simp [intOf]; omega⟩
    · obtain rfl : t = 3 := by omega
      have h3i : ¬ ((a + 7 + 3 : Nat) : Int) ≤ (a : Int) + 9 := by omega
      go_wp2_with fail
      go_end0
      exact ⟨rfl, e, HP.out, HS.out, HK.out⟩

end Go.Proofs.YtldobcfejldbiaaGreatDoor
