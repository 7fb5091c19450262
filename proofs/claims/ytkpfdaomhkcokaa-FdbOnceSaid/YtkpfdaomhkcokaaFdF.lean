/-
  Layer 7: slices.MinFunc over a row of entries; makeRoom.
-/
import Derived.Test.YtkpfdaomhkcokaaFdE
namespace Go.Proofs.Ytkpfdaomhkcokaa
set_option linter.unusedVariables false
set_option linter.unusedSimpArgs false
open Go.RowKit Dm

/-- Of the first k the first one that was heard longest ago. -/
structure MinAt (l : List En) (k mi : Nat) (x : En) : Prop where
  lt : mi < k
  at_ : l[mi]? = some x
  least : ∀ j y, j < k → l[j]? = some y → x.heard < y.heard ∨ (x.heard = y.heard ∧ mi ≤ j)
theorem min_step_yes {l : List En} {k mi : Nat} {x y : En} (h : MinAt l k mi x) (hy : l[k]? = some y) (hlt : y.heard < x.heard) : MinAt l (k + 1) k y := by
  refine ⟨by omega, hy, fun j z hj hz => ?_⟩
  by_cases e : j = k
  · subst e; rw [hy] at hz; cases hz; exact .inr ⟨rfl, Nat.le_refl _⟩
  · rcases h.least j z (by omega) hz with h1 | ⟨h1, _⟩ <;> exact .inl (by omega)
theorem min_step_no {l : List En} {k mi : Nat} {x y : En} (h : MinAt l k mi x) (hy : l[k]? = some y) (hlt : ¬ y.heard < x.heard) : MinAt l (k + 1) mi x := by
  have hl := h.lt
  refine ⟨by omega, h.at_, fun j z hj hz => ?_⟩
  by_cases e : j = k
  · subst e; rw [hy] at hz; cases hz
    by_cases e2 : x.heard = y.heard
    · exact .inr ⟨e2, by omega⟩
    · exact .inl (by omega)
  · exact h.least j z (by omega) hz
theorem size5 (w : World) (v : Int) (m : ByteArray) (p h : Int) (f : Bool) : (w.alloc (.cells #[.int .i64 v, .string m, .int .i64 p, .int .i64 h, .bool f] 41)).heap.size = w.heap.size + 1 := by simp
theorem EBlk.at5 {w : World} {b : Nat} {v : Int} {m : ByteArray} {p h : Int} {f : Bool} (k : EBlk w b ⟨v, m, p, h, f⟩) : At5 w b 0 v m p h f := k.cells
theorem eblk_set {w : World} {b : Nat} {x : En} (h : EBlk w b x) (y : En) : EBlk (w.setCells b 0 (cellsOf y)) b y := by
  obtain ⟨v, m, p, hh, f⟩ := y
  obtain ⟨v', m', p', hh', f'⟩ := x
  unfold EBlk at h ⊢
  have s1 := fun (w : World) (cs : Array Value) (i : Nat) (u : Value) (hb : w.heap[b]? = some (.cells cs 41 (0, 0))) => (by
    obtain ⟨hlt, hk⟩ := Array.getElem?_eq_some_iff.1 hb
    show (w.heap.modify b _)[b]? = some (.cells (cs.setIfInBounds i u) 41 (0, 0))
    rw [Array.getElem?_eq_getElem (by rw [Array.size_modify]; exact hlt), Array.getElem_modify_self, hk]
    rfl : (w.setCell ⟨b, i, none⟩ u).heap[b]? = some (.cells (cs.setIfInBounds i u) 41 (0, 0)))
  have h0 := s1 _ _ 0 (.int .i64 v) h
  have h1 := s1 _ _ 1 (.string m) h0
  have h2 := s1 _ _ 2 (.int .i64 p) h1
  have h3 := s1 _ _ 3 (.int .i64 hh) h2
  have h4 := s1 _ _ 4 (.bool f) h3
  exact h4
theorem EBlk.other {w : World} {b c : Nat} {x : En} (h : EBlk w b x) (hne : b ≠ c) (vs : List Value) : ∀ p, EBlk (w.setCells c p vs) b x := by
  intro p
  induction vs generalizing p w with
  | nil => exact h
  | cons v r ih =>
    rw [World.setCells]
    refine ih ?_ (p + 1)
    exact (Below.heap_setCell w ⟨c, p, none⟩ v b hne).trans h

/-- Behind k rounds. -/
def MInv (l : List En) (n b5 : Nat) (w : World) (i : Value) (wr : World) : Prop :=
  ∃ (k mi : Nat) (x : En), k ≤ n ∧ i = .int .i64 (k : Nat) ∧ MinAt l k mi x ∧ EBlk wr b5 x ∧ (∃ z, EBlk wr w.heap.size z) ∧ Below w.heap.size w wr

set_option maxHeartbeats 2000000 in
theorem minFunc_w (g o cap : Nat) (l : List En) (w : World) (h : RowW w g o l) (hl : l.length ≤ 1000) (h0 : 0 < l.length) :
    Calls Try.prog 53 #[.slice (some ⟨g, o, none⟩) l.length cap, .func (.func 54) #[] #[]] w fun e w' =>
      ∃ mi x, e = .returned (ev x) ∧ MinAt l l.length mi x ∧ Below w.heap.size w w' := by
  obtain ⟨n, hn⟩ : ∃ n, l.length = n := ⟨_, rfl⟩
  have HM := Lib.hid hn
  rw [hn] at hl h0 ⊢
  have hlt := h.lt
  obtain ⟨⟨v, m, p, hh, f⟩, hx⟩ := at_some (l := l) (k := 0) (by omega)
  obtain ⟨⟨q0, q1, q2, q3, q4⟩, _⟩ := h.at_ 0 _ hx
  simp only [Nat.zero_mul, Nat.add_zero] at q0 q1 q2 q3 q4
  have HX := Lib.hid hx
  have HA := Lib.hid h
  clear h hx hn
  have hd : decide ((n : Int) < 1) = false := decide_eq_false (by omega)
  go_enter Try.func53, Try.ntmps53
  go_wp2_with fail
  obtain ⟨W, hW⟩ : ∃ W, W = (w.alloc (.cells #[.int .i64 0, .string ⟨#[]⟩, .int .i64 0, .int .i64 0, .bool false] 41)).alloc (.cells #[.int .i64 v, .string m, .int .i64 p, .int .i64 hh, .bool f] 41) := ⟨_, rfl⟩
  have BW : Below w.heap.size w W := by rw [hW]; exact bw_alloc (below_box _ _) _
  have k5 : EBlk W (w.heap.size + 1) ⟨v, m, p, hh, f⟩ := by rw [hW, ← size5 w 0 ⟨#[]⟩ 0 0 false]; exact eblk_new _ _ _ _ _ _
  have k4 : EBlk W w.heap.size ⟨0, ⟨#[]⟩, 0, 0, false⟩ := by rw [hW]; exact (eblk_new w 0 ⟨#[]⟩ 0 0 false).next (below_box _ _)
  rw [← hW]
  clear hW q0 q1 q2 q3 q4
  obtain ⟨b5, hb5⟩ : ∃ b5, w.heap.size + 1 = b5 := ⟨_, rfl⟩
  rw [hb5] at k5 ⊢
  go_loopw [6] (fun i wr => MInv l n b5 w i wr) (fun i _ => n - (intOf i).toNat)
  case atStart =>
    refine ⟨1, 0, _, by omega, rfl, ⟨by omega, HX.out, fun j y hj hy => ?_⟩, k5, ⟨_, k4⟩, BW⟩
    obtain rfl : j = 0 := by omega
    rw [HX.out] at hy; cases hy; exact .inr ⟨rfl, Nat.le_refl _⟩
  case round =>
    obtain ⟨k, mi, ⟨v', m', p', hh', f'⟩, hk, rfl, hMi, kx, ⟨z4, kz⟩, hB⟩ := hrel
    have hne : b5 ≠ w.heap.size := by omega
    by_cases hkn : k < n
    · have hm := HM.out
      obtain ⟨⟨vy, my, py, hy, fy⟩, hyx⟩ := at_some (l := l) (k := k) (by omega)
      have hR := HA.out.next hB
      obtain ⟨Y5, _⟩ := hR.at_ k _ hyx
      simp only at Y5
      have hgr := hR.lt
      have HI := Lib.hid hMi
      have HY := Lib.hid hyx
      have HB := Lib.hid hB
      have hwz := hB.size
      clear hyx hMi hR hB hm
      have lx := kx.lt
      have S0 : ((wr.cell? ⟨g, o + k * 5, none⟩ = some (.int .i64 vy) ∧ wr.cell? ⟨g, o + k * 5 + 1, none⟩ = some (.string my) ∧ wr.cell? ⟨g, o + k * 5 + 2, none⟩ = some (.int .i64 py) ∧ wr.cell? ⟨g, o + k * 5 + 3, none⟩ = some (.int .i64 hy) ∧ wr.cell? ⟨g, o + k * 5 + 4, none⟩ = some (.bool fy)) ∧ (wr.cell? ⟨b5, 0, none⟩ = some (.int .i64 v') ∧ wr.cell? ⟨b5, 1, none⟩ = some (.string m') ∧ wr.cell? ⟨b5, 2, none⟩ = some (.int .i64 p') ∧ wr.cell? ⟨b5, 3, none⟩ = some (.int .i64 hh') ∧ wr.cell? ⟨b5, 4, none⟩ = some (.bool f'))) := ⟨Y5, kx.cells⟩
      have hmn : (k : Int) < (n : Int) := by omega
      obtain ⟨X, hX⟩ : ∃ X, cfH ⟨vy, my, py, hy, fy⟩ ⟨v', m', p', hh', f'⟩ = X := ⟨_, rfl⟩
      have HC := Lib.hid (fun w' => by have := older_any ⟨vy, my, py, hy, fy⟩ ⟨v', m', p', hh', f'⟩ w'; rw [hX] at this; exact this)
      go_upto_region 7 with (fail)
      by_cases hz : hy < hh'
      · have hXz : decide (X < 0) = true := by rw [← hX]; unfold cfH cmpI; simp [hz]
        clear hX
        go_region_held3 (fun w' => ((w'.cell? ⟨g, o + k * 5, none⟩ = some (.int .i64 vy) ∧ w'.cell? ⟨g, o + k * 5 + 1, none⟩ = some (.string my) ∧ w'.cell? ⟨g, o + k * 5 + 2, none⟩ = some (.int .i64 py) ∧ w'.cell? ⟨g, o + k * 5 + 3, none⟩ = some (.int .i64 hy) ∧ w'.cell? ⟨g, o + k * 5 + 4, none⟩ = some (.bool fy)) ∧ (w'.cell? ⟨b5, 0, none⟩ = some (.int .i64 v') ∧ w'.cell? ⟨b5, 1, none⟩ = some (.string m') ∧ w'.cell? ⟨b5, 2, none⟩ = some (.int .i64 p') ∧ w'.cell? ⟨b5, 3, none⟩ = some (.int .i64 hh') ∧ w'.cell? ⟨b5, 4, none⟩ = some (.bool f')))) (first | exact S0 | exact T0) (first | (go_at_call 54; (with_reducible refine (HC.out _).mono ?_); rintro e y0 ⟨rfl, g0⟩; have G0 := ((Grown.refl wr).drew).trans g0; have T0 : ((y0.cell? ⟨g, o + k * 5, none⟩ = some (.int .i64 vy) ∧ y0.cell? ⟨g, o + k * 5 + 1, none⟩ = some (.string my) ∧ y0.cell? ⟨g, o + k * 5 + 2, none⟩ = some (.int .i64 py) ∧ y0.cell? ⟨g, o + k * 5 + 3, none⟩ = some (.int .i64 hy) ∧ y0.cell? ⟨g, o + k * 5 + 4, none⟩ = some (.bool fy)) ∧ (y0.cell? ⟨b5, 0, none⟩ = some (.int .i64 v') ∧ y0.cell? ⟨b5, 1, none⟩ = some (.string m') ∧ y0.cell? ⟨b5, 2, none⟩ = some (.int .i64 p') ∧ y0.cell? ⟨b5, 3, none⟩ = some (.int .i64 hh') ∧ y0.cell? ⟨b5, 4, none⟩ = some (.bool f'))) := ⟨Y5.below G0.below hgr, (kx.next G0.below).cells⟩; have kx0 := kx.next G0.below; have T1 := T0; obtain ⟨⟨t0, t1, t2, t3, t4⟩, t5, t6, t7, t8, t9⟩ := T1; have u0 := kx0.free 0; have u1 := kx0.free 1; have u2 := kx0.free 2; have u3 := kx0.free 3; have u4 := kx0.free 4))
        all_goals go_wp2_with fail
        have e5 : ((((y0.setCell ⟨b5, 0, none⟩ (.int .i64 vy)).setCell ⟨b5, 1, none⟩ (.string my)).setCell ⟨b5, 2, none⟩ (.int .i64 py)).setCell ⟨b5, 3, none⟩ (.int .i64 hy)).setCell ⟨b5, 4, none⟩ (.bool fy) = y0.setCells b5 0 (cellsOf ⟨vy, my, py, hy, fy⟩) := rfl
        rw [e5]
        have hB2 : Below w.heap.size w y0 := HB.out.trans (G0.below.mono hwz)
        refine ⟨⟨k + 1, k, _, by omega, by go_num, min_step_yes HI.out HY.out hz, eblk_set kx0 _, ⟨_, (kz.next G0.below).other (by omega) _ _⟩, below_setCells b5 (by omega) _ _ _ hB2⟩, by simp [intOf]; omega⟩
      · have hXz : decide (X < 0) = false := by rw [← hX]; unfold cfH cmpI; simp only [hz, if_false]; split <;> rfl
        clear hX
        go_region_held3 (fun w' => ((w'.cell? ⟨g, o + k * 5, none⟩ = some (.int .i64 vy) ∧ w'.cell? ⟨g, o + k * 5 + 1, none⟩ = some (.string my) ∧ w'.cell? ⟨g, o + k * 5 + 2, none⟩ = some (.int .i64 py) ∧ w'.cell? ⟨g, o + k * 5 + 3, none⟩ = some (.int .i64 hy) ∧ w'.cell? ⟨g, o + k * 5 + 4, none⟩ = some (.bool fy)) ∧ (w'.cell? ⟨b5, 0, none⟩ = some (.int .i64 v') ∧ w'.cell? ⟨b5, 1, none⟩ = some (.string m') ∧ w'.cell? ⟨b5, 2, none⟩ = some (.int .i64 p') ∧ w'.cell? ⟨b5, 3, none⟩ = some (.int .i64 hh') ∧ w'.cell? ⟨b5, 4, none⟩ = some (.bool f')))) (first | exact S0 | exact T0) (first | (go_at_call 54; (with_reducible refine (HC.out _).mono ?_); rintro e y0 ⟨rfl, g0⟩; have G0 := ((Grown.refl wr).drew).trans g0; have T0 : ((y0.cell? ⟨g, o + k * 5, none⟩ = some (.int .i64 vy) ∧ y0.cell? ⟨g, o + k * 5 + 1, none⟩ = some (.string my) ∧ y0.cell? ⟨g, o + k * 5 + 2, none⟩ = some (.int .i64 py) ∧ y0.cell? ⟨g, o + k * 5 + 3, none⟩ = some (.int .i64 hy) ∧ y0.cell? ⟨g, o + k * 5 + 4, none⟩ = some (.bool fy)) ∧ (y0.cell? ⟨b5, 0, none⟩ = some (.int .i64 v') ∧ y0.cell? ⟨b5, 1, none⟩ = some (.string m') ∧ y0.cell? ⟨b5, 2, none⟩ = some (.int .i64 p') ∧ y0.cell? ⟨b5, 3, none⟩ = some (.int .i64 hh') ∧ y0.cell? ⟨b5, 4, none⟩ = some (.bool f'))) := ⟨Y5.below G0.below hgr, (kx.next G0.below).cells⟩; have kx0 := kx.next G0.below; have T1 := T0; obtain ⟨⟨t0, t1, t2, t3, t4⟩, t5, t6, t7, t8, t9⟩ := T1; have u0 := kx0.free 0; have u1 := kx0.free 1; have u2 := kx0.free 2; have u3 := kx0.free 3; have u4 := kx0.free 4))
        all_goals go_wp2_with fail
        refine ⟨⟨k + 1, mi, _, by omega, by go_num, min_step_no HI.out HY.out (show ¬ hy < hh' by omega), kx0, ⟨_, kz.next G0.below⟩, HB.out.trans (G0.below.mono hwz)⟩, by simp [intOf]; omega⟩
    · obtain rfl : k = n := by omega
      obtain ⟨x0, x1, x2, x3, x4⟩ := kx.cells
      obtain ⟨vz, mz, pz, hz, fz⟩ := z4
      obtain ⟨z0, z1, z2, z3, z4⟩ := kz.cells
      have f0 := kz.free 0
      have f1 := kz.free 1
      have f2 := kz.free 2
      have f3 := kz.free 3
      have f4 := kz.free 4
      go_wp2_with fail
      have e5 : ((((wr.setCell ⟨w.heap.size, 0, none⟩ (.int .i64 v')).setCell ⟨w.heap.size, 1, none⟩ (.string m')).setCell ⟨w.heap.size, 2, none⟩ (.int .i64 p')).setCell ⟨w.heap.size, 3, none⟩ (.int .i64 hh')).setCell ⟨w.heap.size, 4, none⟩ (.bool f') = wr.setCells w.heap.size 0 (cellsOf ⟨v', m', p', hh', f'⟩) := rfl
      rw [e5]
      have kf := eblk_set kz ⟨v', m', p', hh', f'⟩
      have hB2 := below_setCells w.heap.size (Nat.le_refl _) (cellsOf ⟨v', m', p', hh', f'⟩) 0 _ hB
      obtain ⟨Wf, hWf⟩ : ∃ Wf, Wf = wr.setCells w.heap.size 0 (cellsOf ⟨v', m', p', hh', f'⟩) := ⟨_, rfl⟩
      rw [← hWf] at kf hB2 ⊢
      clear hWf e5
      obtain ⟨c0, c1, c2, c3, c4⟩ := kf.cells
      exact bodyPost_ret (v := ev ⟨v', m', p', hh', f'⟩) (by simp [results, Try.results53, go_sem, c0, c1, c2, c3, c4]) rfl ⟨mi, _, rfl, hMi, hB2⟩
end Go.Proofs.Ytkpfdaomhkcokaa
