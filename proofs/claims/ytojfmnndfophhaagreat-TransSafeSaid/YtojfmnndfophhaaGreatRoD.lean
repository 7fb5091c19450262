/-
  Layer 8: role, the document's Way, slices.IndexFunc and ContainsFunc with Right's closure.
-/
import Derived.Test.YtojfmnndfophhaaGreatRoC
namespace Go.Proofs.YtojfmnndfophhaaGreat
set_option linter.unusedVariables false
set_option linter.unusedSimpArgs false
open Go.RowKit Vm Rm

theorem role_other {br : Int} {v : Vc} {b : Bool} {p : Inf} (h : infB p = true) (h0 : ¬ p.source = 0) (h3 : ¬ p.source = 3) : roleR br v b p = 2 := by
  have := inf_source h
  exact role_mid h0 (by omega)

set_option maxHeartbeats 1000000 in
theorem role_w (i c s r k b p vr vc br : Int) (isP : Bool) (R : Int) (w : World) (hR : Hid (roleR br ⟨vr, vc, 0, 0⟩ isP ⟨i, c, s, ⟨r, k, b, p⟩⟩ = R)) (hI : infB ⟨i, c, s, ⟨r, k, b, p⟩⟩ = true) (hb : u64B b) (hbr : u64B br) :
    Calls Tryz.prog 44 #[iv i c s r k b p, vv vr vc br i, .bool isP] w fun e w' => e = .returned (.int .i64 R) ∧ Below w.heap.size w w' := by
  by_cases h0 : s = 0
  · have e : R = 0 := by rw [← hR.out]; exact role_0 h0
    subst e h0
    clear hR hI
    go_enter Tryz.func44, Tryz.ntmps44
    go_wp2
    go_ret
    exact ⟨rfl, bw_alloc (below_box _ _) _⟩
  by_cases h3 : s = 3
  case neg =>
    have e : R = 2 := by rw [← hR.out]; exact role_other hI h0 h3
    have z0 : (s == 0) = false := beq_eq_false_iff_ne.2 h0
    have z3 : (s == 3) = false := beq_eq_false_iff_ne.2 h3
    subst e
    clear hR hI
    go_enter Tryz.func44, Tryz.ntmps44
    go_wp2
    go_ret
    exact ⟨rfl, bw_alloc (below_box _ _) _⟩
  subst h3
  clear h0 hI
  cases isP with
  | true =>
    have e : R = 1 := by rw [← hR.out]; exact role_root rfl
    subst e
    clear hR
    go_enter Tryz.func44, Tryz.ntmps44
    go_wp2
    go_ret
    exact ⟨rfl, bw_alloc (below_box _ _) _⟩
  | false =>
    obtain ⟨X, hX⟩ : ∃ X, cmpR ⟨vr, vc, br, i⟩ ⟨r, k, b, p⟩ = X := ⟨_, rfl⟩
    obtain ⟨O, hO⟩ : ∃ O, decide (b % 281474976710656 = br % 281474976710656) = O := ⟨_, rfl⟩
    have HX := Lib.hid hX
    have CO := Lib.hid (fun w' => same_w b br O w' hb hbr (Lib.hid hO))
    by_cases hn : X < 0
    · have e : R = 2 := by rw [← hR.out]; exact role_desig rfl (by show cmpR ⟨vr, vc, br, i⟩ ⟨r, k, b, p⟩ < 0; rw [hX]; exact hn)
      subst e
      clear hR hX hO CO
      go_enter Tryz.func44, Tryz.ntmps44
      go_wp2_with (go_at_call 95; (with_reducible refine (compare_w vr vc br i r k b p X _ HX).mono ?_); rintro e w1 ⟨rfl, hb1⟩)
      go_ret
      exact ⟨rfl, bw_trans (bw_alloc (below_box w _) _) hb1⟩
    · cases O with
      | true =>
        have e : R = 4 := by rw [← hR.out]; exact role_backup rfl (by show ¬ cmpR ⟨vr, vc, br, i⟩ ⟨r, k, b, p⟩ < 0; rw [hX]; exact hn) hO
        subst e
        clear hR hX hO
        go_enter Tryz.func44, Tryz.ntmps44
        go_wp2_with fail
        (with_reducible refine (compare_w vr vc br i r k b p X _ HX).mono ?_)
        rintro e w1 ⟨rfl, hb1⟩
        have K := ((iblk_new 81 w i c 3 r k b p).next (below_box _ (.cells #[.int .u64 vr, .int .u64 vc, .int .u64 br, .int .u64 i] 32))).next hb1
        have V := (blk_new 32 (w.alloc (.cells #[.int .u64 i, .int .u64 c, .int .i64 3, .int .u64 r, .int .u64 k, .int .u64 b, .int .u64 p] 81)) vr vc br i).next hb1
        rw [size_box] at V
        have B1 := bw_trans (bw_alloc (below_box w _) _) hb1
        obtain ⟨q0, q1, q2, q3, q4, q5, q6⟩ := K.cells
        obtain ⟨v0, v1, v2, v3⟩ := V.cells
        clear hb1 K V
        go_wp2_with (go_at_call 96; (with_reducible refine (CO.out _).mono ?_); rintro e w2 ⟨rfl, hb2⟩)
        go_ret
        exact ⟨rfl, bw_trans B1 hb2⟩
      | false =>
        have e : R = 3 := by rw [← hR.out]; exact role_alt rfl (by show ¬ cmpR ⟨vr, vc, br, i⟩ ⟨r, k, b, p⟩ < 0; rw [hX]; exact hn) hO
        subst e
        clear hR hX hO
        go_enter Tryz.func44, Tryz.ntmps44
        go_wp2_with fail
        (with_reducible refine (compare_w vr vc br i r k b p X _ HX).mono ?_)
        rintro e w1 ⟨rfl, hb1⟩
        have K := ((iblk_new 81 w i c 3 r k b p).next (below_box _ (.cells #[.int .u64 vr, .int .u64 vc, .int .u64 br, .int .u64 i] 32))).next hb1
        have V := (blk_new 32 (w.alloc (.cells #[.int .u64 i, .int .u64 c, .int .i64 3, .int .u64 r, .int .u64 k, .int .u64 b, .int .u64 p] 81)) vr vc br i).next hb1
        rw [size_box] at V
        have B1 := bw_trans (bw_alloc (below_box w _) _) hb1
        obtain ⟨q0, q1, q2, q3, q4, q5, q6⟩ := K.cells
        obtain ⟨v0, v1, v2, v3⟩ := V.cells
        clear hb1 K V
        go_wp2_with (go_at_call 96; (with_reducible refine (CO.out _).mono ?_); rintro e w2 ⟨rfl, hb2⟩)
        go_ret
        exact ⟨rfl, bw_trans B1 hb2⟩

/-! ### The document's Way -/
theorem way_no {br : Int} {p : Inf} (h : wayR br p = none) : ¬ p.source = 3 ∨ (p.source = 3 ∧ ownB p.vec br = true) := by
  unfold wayR at h
  split at h
  · cases h
  · rename_i hn
    by_cases h3 : p.source = 3
    · right
      refine ⟨h3, ?_⟩
      cases ho : ownB p.vec br with
      | true => rfl
      | false => exact absurd ⟨h3, ho⟩ hn
    · exact .inl h3

/-! ### Is an Id told twice? -/
def clashB (l : List Inf) (i : Int) : Bool := l.any (fun x => decide (x.id = i))
theorem clash_no {l : List Inf} {i : Int} (h : ∀ j x, j < l.length → l[j]? = some x → ¬ x.id = i) : clashB l i = false := by
  unfold clashB
  rw [List.any_eq_false]
  intro x hx
  obtain ⟨j, hj⟩ := List.getElem?_of_mem hx
  simp [h j x (List.getElem?_eq_some_iff.1 hj).1 hj]
theorem clash_yes {l : List Inf} {i : Int} {j : Nat} {x : Inf} (h : l[j]? = some x) (hi : x.id = i) : clashB l i = true := by
  unfold clashB
  rw [List.any_eq_true]
  exact ⟨x, List.mem_of_getElem? h, by simp [hi]⟩
theorem clash_at {l : List Inf} {i : Int} {j : Nat} {x : Inf} (h : clashB l i = false) (hx : l[j]? = some x) : ¬ x.id = i := by
  intro e
  rw [clash_yes hx e] at h
  cases h
theorem take_at {l : List Inf} {k j : Nat} (h : j < k) : (l.take k)[j]? = l[j]? := List.getElem?_take_of_lt h
theorem take_next' {l : List Inf} {k : Nat} {x : Inf} (h : l[k]? = some x) : l.take (k + 1) = l.take k ++ [x] := by rw [List.take_add_one, h]; rfl
theorem right_next {l : List Inf} {k : Nat} {p : Inf} (h : l[k]? = some p) (hk : k < 16) : rightR (l.take (k + 1)) = (rightR (l.take k) && infB p && !clashB (l.take k) p.id) := by
  have hlen : (l.take k).length ≤ k := by rw [List.length_take]; omega
  rw [take_next' h]
  unfold rightR clashB
  rw [Bool.eq_iff_iff]
  simp only [Bool.and_eq_true, decide_eq_true_eq, List.all_append, List.all_cons, List.all_nil, Bool.and_true, List.length_append, List.length_cons, List.length_nil, Bool.not_eq_true', List.any_eq_false, List.pairwise_append, List.mem_singleton, List.pairwise_cons, List.Pairwise.nil]
  constructor
  · rintro ⟨⟨h1, h2, h3⟩, h4, -, h5⟩
    exact ⟨⟨⟨⟨by omega, h2⟩, h4⟩, h3⟩, fun x hx => h5 x hx p rfl⟩
  · rintro ⟨⟨⟨⟨h1, h2⟩, h4⟩, h3⟩, h5⟩
    exact ⟨⟨by omega, h2, h3⟩, h4, by simp, fun x hx y hy => by subst hy; exact h5 x hx⟩
theorem right_prefix {l : List Inf} (h : rightR l = true) (k : Nat) : rightR (l.take k) = true := by
  unfold rightR at h ⊢
  simp only [Bool.and_eq_true, decide_eq_true_eq, List.all_eq_true] at h ⊢
  exact ⟨⟨by rw [List.length_take]; omega, fun x hx => h.1.2 x (List.mem_of_mem_take hx)⟩, h.2.sublist (List.take_sublist k l)⟩
theorem right_not {l : List Inf} {k : Nat} (h : rightR (l.take k) = false) : rightR l = false := by
  cases hr : rightR l with
  | false => rfl
  | true => rw [right_prefix hr k] at h; cases h
theorem right_zero (l : List Inf) : rightR (l.take 0) = true := by
  rw [List.take_zero]; rfl
theorem IRow.take {w : World} {a : Option Addr} {l : List Inf} (h : IRow w a l) (k : Nat) : IRow w a (l.take k) :=
  ⟨fun j x hx => by
    have hj := (List.getElem?_eq_some_iff.1 hx).1
    rw [List.length_take] at hj
    rw [take_at (by omega)] at hx
    exact h.at_ j x hx, fun x hx => h.rng x (List.mem_of_mem_take hx)⟩

/-- Behind k rounds: none of the first k has this Id. -/
def SInv (l : List Inf) (n : Nat) (i : Int) (w : World) (v : Value) (wr : World) : Prop :=
  ∃ k : Nat, k ≤ n ∧ v = .int .i64 (k : Nat) ∧ (∀ j x, j < k → l[j]? = some x → ¬ x.id = i) ∧ Below w.heap.size w wr

set_option maxHeartbeats 1000000 in
theorem index_w (a : Option Addr) (cap cs : Nat) (l : List Inf) (i : Int) (R : Bool) (w : World) (h : IRow w a l) (hl : l.length ≤ 1000) (hc : w.cell? ⟨cs, 0, none⟩ = some (.int .u64 i)) (hcs : cs < w.heap.size) (hR : Hid (clashB l i = R)) :
    Calls Tryz.prog 99 #[.slice a l.length cap, .func (.func 89) #[] #[.pointer (some ⟨cs, 0, none⟩)]] w fun e w' =>
      ∃ r : Int, e = .returned (.int .i64 r) ∧ (R = true → 0 ≤ r) ∧ (R = false → r = -1) ∧ Below w.heap.size w w' := by
  obtain ⟨n, hn⟩ : ∃ n, l.length = n := ⟨_, rfl⟩
  have HN := Lib.hid hn
  rw [hn] at hl ⊢
  have HA := Lib.hid h
  clear h hn
  go_enter Tryz.func99, Tryz.ntmps99
  go_wp2_with fail
  go_loopw [8] (fun v wr => SInv l n i w v wr) (fun v _ => n - (intOf v).toNat)
  case atStart => exact ⟨0, Nat.zero_le _, rfl, fun j x h => by omega, Below.refl _ _⟩
  case round =>
    obtain ⟨k, hk, rfl, hno, hG⟩ := hrel
    by_cases hkl : k < n
    · obtain ⟨⟨xi, xc, xs, ⟨r, q, b, p⟩⟩, hx⟩ := at_some (l := l) (k := k) (by rw [HN.out]; exact hkl)
      obtain ⟨g, o, rfl, hgr, q0, q1, q2, q3, q4, q5, q6⟩ := (HA.out.next hG).at_ k _ hx
      simp only at q0 q1 q2 q3 q4 q5 q6
      have hcr : wr.cell? ⟨cs, 0, none⟩ = some (.int .u64 i) := (hG.cell (p := ⟨cs, 0, none⟩) hcs).trans hc
      have HNO := Lib.hid hno
      have HX := Lib.hid hx
      clear hno hx
      have HF := ident_w 0 xi xc xs r q b p i cs wr hcr (Nat.lt_of_lt_of_le hcs hG.size)
      obtain ⟨D, hD⟩ : ∃ D, decide (xi = i) = D := ⟨_, rfl⟩
      rw [hD] at HF
      cases D with
      | true =>
        have hy : R = true := by rw [← hR.out]; exact clash_yes HX.out (of_decide_eq_true hD)
        clear hD
        go_wp2_with (go_at_call 89; refine HF.mono ?_; clear HF; rintro e w1 ⟨rfl, hG1⟩)
        go_ret
        exact ⟨(k : Nat), rfl, fun _ => by omega, fun e => (by rw [hy] at e; cases e), bw_trans hG hG1⟩
      | false =>
        have hne := of_decide_eq_false hD
        have HD := Lib.hid hne
        clear hD hne
        go_wp2_with (go_at_call 89; refine HF.mono ?_; clear HF; rintro e w1 ⟨rfl, hG1⟩)
        refine ⟨⟨k + 1, by omega, by go_num, fun j y hj hy => ?_, bw_trans hG hG1⟩, by simp [intOf]; omega⟩
        by_cases e : j = k
        · subst e; rw [HX.out] at hy; cases hy; exact HD.out
        · exact HNO.out j y (by omega) hy
    · obtain rfl : k = n := by omega
      have hy : R = false := by rw [← hR.out]; exact clash_no (fun j x hj hx => hno j x (by rw [HN.out] at hj; exact hj) hx)
      go_wp2
      go_ret
      exact ⟨-1, rfl, fun e => (by rw [hy] at e; cases e), fun _ => rfl, hG⟩

set_option maxHeartbeats 1000000 in
theorem contains_w (a : Option Addr) (cap cs : Nat) (l : List Inf) (i : Int) (R : Bool) (w : World) (h : IRow w a l) (hl : l.length ≤ 1000) (hc : w.cell? ⟨cs, 0, none⟩ = some (.int .u64 i)) (hcs : cs < w.heap.size) (hR : Hid (clashB l i = R)) :
    Calls Tryz.prog 91 #[.slice a l.length cap, .func (.func 89) #[] #[.pointer (some ⟨cs, 0, none⟩)]] w fun e w' => e = .returned (.bool R) ∧ Below w.heap.size w w' := by
  have HF := index_w a cap cs l i R w h hl hc hcs hR
  clear h hl hc hcs hR
  go_enter Tryz.func91, Tryz.ntmps91
  cases R with
  | true =>
    go_wp2_with (go_at_call 99; refine HF.mono ?_; clear HF; rintro e w1 ⟨r, rfl, h1, h2, hG1⟩; replace h1 := h1 rfl; clear h2)
    go_ret
    exact ⟨rfl, hG1⟩
  | false =>
    go_wp2_with (go_at_call 99; refine HF.mono ?_; clear HF; rintro e w1 ⟨r, rfl, h1, h2, hG1⟩; replace h2 := h2 rfl; clear h1; subst h2)
    go_ret
    exact ⟨rfl, hG1⟩
end Go.Proofs.YtojfmnndfophhaaGreat
