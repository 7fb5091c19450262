/-
  Walks of layer 5: Best.
-/
import Derived.Test.YtiehocggdmadaaaVcA
namespace Go.Proofs.Ytiehocggdmadaaa
set_option linter.unusedVariables false
set_option linter.unusedSimpArgs false
open Go.RowKit Vm

/-- A vector's four cells at a place. -/
def BoxAt (w : World) (x o : Nat) (v : Vc) : Prop :=
  w.cell? ⟨x, o, none⟩ = some (.int .u64 v.root) ∧ w.cell? ⟨x, o + 1, none⟩ = some (.int .u64 v.cost) ∧ w.cell? ⟨x, o + 2, none⟩ = some (.int .u64 v.bridge) ∧ w.cell? ⟨x, o + 3, none⟩ = some (.int .u64 v.port)
/-- A row of vectors, as it lies in memory. -/
structure IsVecs (w : World) (x off len : Nat) (l : List Vc) : Prop where
  lt : x < w.heap.size
  length : l.length = len
  at_ : ∀ k v, l[k]? = some v → BoxAt w x (off + k * 4) v
theorem BoxAt.below {w w' : World} {x o B : Nat} {v : Vc} (h : BoxAt w x o v) (hb : Below B w w') (hB : x < B) : BoxAt w' x o v := by
  obtain ⟨h0, h1, h2, h3⟩ := h
  exact ⟨(hb.cell (p := ⟨x, o, none⟩) hB).trans h0, (hb.cell (p := ⟨x, o + 1, none⟩) hB).trans h1, (hb.cell (p := ⟨x, o + 2, none⟩) hB).trans h2, (hb.cell (p := ⟨x, o + 3, none⟩) hB).trans h3⟩
theorem IsVecs.below {w w' : World} {x off len B : Nat} {l : List Vc} (h : IsVecs w x off len l) (hb : Below B w w') (hB : x < B) (hz : B ≤ w'.heap.size) : IsVecs w' x off len l :=
  ⟨Nat.lt_of_lt_of_le hB hz, h.length, fun k v hv => (h.at_ k v hv).below hb hB⟩
theorem IsVecs.next {w w' : World} {x off len : Nat} {l : List Vc} (h : IsVecs w x off len l) (hb : Below w.heap.size w w') : IsVecs w' x off len l := h.below hb h.lt hb.size

theorem below_drewN {B : Nat} {a w : World} (h : Below B a w) (n : Nat) : Below B a (w.drewN n) := ⟨h.os, h.tape, h.output, h.size, h.block⟩
def bestI (l : List Vc) (k : Nat) : Int := if k = 0 then -1 else bestN l k
theorem best_step {l : List Vc} {k : Nat} {u v : Vc} (hk : 0 < k) (hv : l[bestN l k]? = some v) (hu : l[k]? = some u) : bestI l (k + 1) = if cmpR u v < 0 then (k : Int) else bestI l k := by
  have e : bestI l k = (bestN l k : Int) := by unfold bestI; rw [if_neg (by omega)]
  have e' : bestI l (k + 1) = (bestN l (k + 1) : Int) := by unfold bestI; rw [if_neg (by omega)]
  rw [e, e', bestN.eq_def]
  simp only [hv, hu]
  split <;> rfl
theorem best_first {l : List Vc} (h : 0 < l.length) : bestI l 1 = 0 := by
  have e : bestN l 1 = 0 := by
    unfold bestN
    simp only [bestN]
    obtain ⟨v, hv⟩ : ∃ v, l[0]? = some v := at_some h
    rw [hv]
    simp [cmp_self]
  unfold bestI
  rw [if_neg (by omega), e]
  rfl
/-- Behind k rounds. -/
def BInv (l : List Vc) (len : Nat) (w : World) (b i : Value) (wr : World) : Prop :=
  ∃ k, k ≤ len ∧ i = .int .i64 (k : Nat) ∧ b = .int .i64 (bestI l k) ∧ Below w.heap.size w wr

set_option maxHeartbeats 1000000 in
theorem best_some (x off len cap : Nat) (l : List Vc) (w : World) (h : IsVecs w x off len l) (hl : len ≤ 1000) :
    Calls Try.prog 11 #[.slice (some ⟨x, off, none⟩) len cap] w fun e w' => e = .returned (.int .i64 (bestI l len)) ∧ Below w.heap.size w w' := by
  have hlt := h.lt
  have hlen := h.length
  have HA := Lib.hid h.at_
  clear h
  go_enter Try.func11, Try.ntmps11
  go_wp2_with fail
  go_loopw [3, 8] (fun b i wr => BInv l len w b i wr) (fun _ i _ => len - (intOf i).toNat)
  case atStart => exact ⟨0, Nat.zero_le _, rfl, rfl, Below.refl _ _⟩
  case round =>
    obtain ⟨k, hk, rfl, rfl, B⟩ := hrel
    by_cases hkl : k < len
    · obtain ⟨⟨r, c, b, p⟩, hu⟩ : ∃ u, l[k]? = some u := at_some (by omega)
      obtain ⟨q0, q1, q2, q3⟩ := (HA.out k _ hu).below B hlt
      simp only at q0 q1 q2 q3
      have hxr : x < wr.heap.size := Nat.lt_of_lt_of_le hlt B.size
      by_cases hk0 : k = 0
      · subst hk0
        have e0 : bestI l 0 = -1 := rfl
        have e1 := best_first (l := l) (by omega)
        rw [e0]
        rw [Nat.zero_mul, Nat.add_zero] at q0 q1 q2 q3
        go_upto_region 5 with (fail)
        go_quiet (fail)
        go_wp2
        exact ⟨⟨1, by omega, rfl, by rw [e1]; rfl, below_drewN (bw_alloc B _) _⟩, by simp [intOf]; omega⟩
      · obtain ⟨m, hm⟩ : ∃ m, bestN l k = m := ⟨_, rfl⟩
        have hF := (bestN_first (l := l) k (by omega) (by omega)).lt
        rw [hm] at hF
        obtain ⟨⟨r', c', b', p'⟩, hv⟩ : ∃ v, l[m]? = some v := at_some (by omega)
        have e0 : bestI l k = m := by unfold bestI; rw [if_neg hk0, hm]
        have e1 := best_step (Nat.pos_of_ne_zero hk0) (by rw [hm]; exact hv) hu
        rw [e0] at e1 ⊢
        have hV := (HA.out m _ hv).below B hlt
        clear hu hv
        go_upto_region 5 with (fail)
        obtain ⟨nb, hnb⟩ : ∃ nb, nb = wr.heap.size := ⟨_, rfl⟩
        obtain ⟨W, hW⟩ : ∃ W, W = wr.alloc (.cells #[.int .u64 r, .int .u64 c, .int .u64 b, .int .u64 p] 31) := ⟨_, rfl⟩
        have kW : Blk 31 W nb ⟨r, c, b, p⟩ := by rw [hW, hnb]; exact blk_new 31 wr r c b p
        replace hV : BoxAt W x (off + m * 4) ⟨r', c', b', p'⟩ := by rw [hW]; exact hV.below (below_box wr _) hxr
        have BW : Below w.heap.size w W := by rw [hW]; exact bw_alloc B _
        have lx : x < W.heap.size := Nat.lt_of_lt_of_le hlt BW.size
        have lk := kW.lt
        have hm0 : decide ((m : Int) < 0) = false := by simp
        have hmb : (m : Int) < (len : Int) := by omega
        rw [← hW, ← hnb]
        clear hW hnb q0 q1 q2 q3
        have S0 : ((W.cell? ⟨nb, 0, none⟩ = some (.int .u64 r) ∧ W.cell? ⟨nb, 1, none⟩ = some (.int .u64 c) ∧ W.cell? ⟨nb, 2, none⟩ = some (.int .u64 b) ∧ W.cell? ⟨nb, 3, none⟩ = some (.int .u64 p)) ∧ (W.cell? ⟨x, off + m * 4, none⟩ = some (.int .u64 r') ∧ W.cell? ⟨x, off + m * 4 + 1, none⟩ = some (.int .u64 c') ∧ W.cell? ⟨x, off + m * 4 + 2, none⟩ = some (.int .u64 b') ∧ W.cell? ⟨x, off + m * 4 + 3, none⟩ = some (.int .u64 p'))) := ⟨kW.cells, hV⟩
        cases hz : decide (cmpR ⟨r, c, b, p⟩ ⟨r', c', b', p'⟩ < 0) with
        | true =>
          have C0 := Lib.hid (fun w' => better_w r c b p r' c' b' p' true w' (Lib.hid hz))
          have e2 : bestI l (k + 1) = (k : Int) := by rw [e1]; simp at hz; rw [if_pos (by omega)]
          clear hz e1
          go_region_held3 (fun w' => ((w'.cell? ⟨nb, 0, none⟩ = some (.int .u64 r) ∧ w'.cell? ⟨nb, 1, none⟩ = some (.int .u64 c) ∧ w'.cell? ⟨nb, 2, none⟩ = some (.int .u64 b) ∧ w'.cell? ⟨nb, 3, none⟩ = some (.int .u64 p)) ∧ (w'.cell? ⟨x, off + m * 4, none⟩ = some (.int .u64 r') ∧ w'.cell? ⟨x, off + m * 4 + 1, none⟩ = some (.int .u64 c') ∧ w'.cell? ⟨x, off + m * 4 + 2, none⟩ = some (.int .u64 b') ∧ w'.cell? ⟨x, off + m * 4 + 3, none⟩ = some (.int .u64 p')))) (first | exact S0 | exact T0) (first | (go_at_call 19; (with_reducible refine (C0.out _).mono ?_); rintro e y0 ⟨rfl, hb0⟩; have D0 := ((Below.refl W.heap.size W).drew).trans hb0; have T0 : ((y0.cell? ⟨nb, 0, none⟩ = some (.int .u64 r) ∧ y0.cell? ⟨nb, 1, none⟩ = some (.int .u64 c) ∧ y0.cell? ⟨nb, 2, none⟩ = some (.int .u64 b) ∧ y0.cell? ⟨nb, 3, none⟩ = some (.int .u64 p)) ∧ (y0.cell? ⟨x, off + m * 4, none⟩ = some (.int .u64 r') ∧ y0.cell? ⟨x, off + m * 4 + 1, none⟩ = some (.int .u64 c') ∧ y0.cell? ⟨x, off + m * 4 + 2, none⟩ = some (.int .u64 b') ∧ y0.cell? ⟨x, off + m * 4 + 3, none⟩ = some (.int .u64 p'))) := ⟨(kW.below D0 lk).cells, hV.below D0 lx⟩))
          all_goals go_wp2_with fail
          all_goals refine ⟨⟨k + 1, by omega, by go_num, by rw [e2], bw_trans BW D0⟩, by simp [intOf]; omega⟩
        | false =>
          have C0 := Lib.hid (fun w' => better_w r c b p r' c' b' p' false w' (Lib.hid hz))
          have e2 : bestI l (k + 1) = (m : Int) := by rw [e1]; simp at hz; rw [if_neg (by omega)]
          clear hz e1
          go_region_held3 (fun w' => ((w'.cell? ⟨nb, 0, none⟩ = some (.int .u64 r) ∧ w'.cell? ⟨nb, 1, none⟩ = some (.int .u64 c) ∧ w'.cell? ⟨nb, 2, none⟩ = some (.int .u64 b) ∧ w'.cell? ⟨nb, 3, none⟩ = some (.int .u64 p)) ∧ (w'.cell? ⟨x, off + m * 4, none⟩ = some (.int .u64 r') ∧ w'.cell? ⟨x, off + m * 4 + 1, none⟩ = some (.int .u64 c') ∧ w'.cell? ⟨x, off + m * 4 + 2, none⟩ = some (.int .u64 b') ∧ w'.cell? ⟨x, off + m * 4 + 3, none⟩ = some (.int .u64 p')))) (first | exact S0 | exact T0) (first | (go_at_call 19; (with_reducible refine (C0.out _).mono ?_); rintro e y0 ⟨rfl, hb0⟩; have D0 := ((Below.refl W.heap.size W).drew).trans hb0; have T0 : ((y0.cell? ⟨nb, 0, none⟩ = some (.int .u64 r) ∧ y0.cell? ⟨nb, 1, none⟩ = some (.int .u64 c) ∧ y0.cell? ⟨nb, 2, none⟩ = some (.int .u64 b) ∧ y0.cell? ⟨nb, 3, none⟩ = some (.int .u64 p)) ∧ (y0.cell? ⟨x, off + m * 4, none⟩ = some (.int .u64 r') ∧ y0.cell? ⟨x, off + m * 4 + 1, none⟩ = some (.int .u64 c') ∧ y0.cell? ⟨x, off + m * 4 + 2, none⟩ = some (.int .u64 b') ∧ y0.cell? ⟨x, off + m * 4 + 3, none⟩ = some (.int .u64 p'))) := ⟨(kW.below D0 lk).cells, hV.below D0 lx⟩))
          all_goals go_wp2_with fail
          all_goals refine ⟨⟨k + 1, by omega, by go_num, by rw [e2], bw_trans BW D0⟩, by simp [intOf]; omega⟩
    · obtain rfl : k = len := by omega
      go_wp2
      go_ret
      exact ⟨rfl, B⟩

set_option maxHeartbeats 400000 in
theorem best_none (a : Option Addr) (cap : Nat) (w : World) :
    Calls Try.prog 11 #[.slice a 0 cap] w fun e w' => e = .returned (.int .i64 (-1)) ∧ Below w.heap.size w w' := by
  go_enter Try.func11, Try.ntmps11
  go_wp2_with fail
  refine wp_loop_rounds 1 ?_
  rw [rounds_succ]
  go_wp2
  go_ret
  exact ⟨rfl, Below.refl _ _⟩
end Go.Proofs.Ytiehocggdmadaaa
