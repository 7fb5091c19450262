/-
  Layer 9: the document's Hear.
-/
import Derived.Test.YtanciemiinbgmaaMiN
import Derived.Deep.CutBlock
namespace Go.Proofs.Ytanciemiinbgmaa
set_option linter.unusedVariables false
set_option linter.unusedSimpArgs false
open Go.RowKit Go.Maps Pm Mm

def cellsH : List He → List Value
  | [] => []
  | x :: l => .int .i64 x.vlan :: .int .i64 x.till :: cellsH l
theorem cellsH_len (l : List He) : (cellsH l).length = l.length * 2 := by
  induction l with
  | nil => rfl
  | cons x l ih => simp only [cellsH, List.length_cons, ih]; omega
theorem cellsH_app (l m : List He) : cellsH (l ++ m) = cellsH l ++ cellsH m := by
  induction l with
  | nil => rfl
  | cons x l ih => simp only [List.cons_append, cellsH, ih]
theorem cellsH_at {l : List He} {k : Nat} {x : He} (h : l[k]? = some x) : (cellsH l)[k * 2]? = some (.int .i64 x.vlan) ∧ (cellsH l)[k * 2 + 1]? = some (.int .i64 x.till) := by
  induction l generalizing k with
  | nil => simp at h
  | cons y l ih =>
    cases k with
    | zero =>
      simp at h
      subst h
      exact ⟨rfl, rfl⟩
    | succ k =>
      have := ih (k := k) (by simpa using h)
      have e1 : (k + 1) * 2 = k * 2 + 1 + 1 := by omega
      rw [e1]
      simp only [cellsH, List.getElem?_cons_succ]
      exact this
theorem infoH : (Try.prog.info? 79).map (fun i => (i.zero, i.size, i.bytes)) = some (some (.agg #[.int .i64 0, .int .i64 0]), 2, 16) := by kernel_rfl
/-- A row of what was heard that the call has made. -/
theorem hrow_owned {w : World} {base n : Nat} {v : Value} {l : List He} (h : w.ownsRow base 79 2 v n (cellsH l)) (hl : l.length = n) :
    ∃ la lc, v = .slice la n lc ∧ HRow w la l ∧ (la = none → lc = 0) ∧ ∀ x, la = some x → base ≤ x.block ∧ x.block < w.heap.size := by
  rcases h.2 with ⟨rfl, h0⟩ | ⟨g, cap, cur, rfl, hbg, hg, hnc, hcm, hcs, htake⟩
  · subst h0
    obtain rfl : l = [] := List.eq_nil_of_length_eq_zero hl
    exact ⟨none, 0, rfl, ⟨fun k x hx => by simp at hx⟩, fun _ => rfl, fun x e => by cases e⟩
  · have hgl : g < w.heap.size := (Array.getElem?_eq_some_iff.1 hg).1
    refine ⟨some ⟨g, 0, none⟩, cap, rfl, ⟨fun k x hx => ⟨g, 0, rfl, hgl, ?_, ?_⟩⟩, fun e => (by cases e), fun x e => (by cases e; exact ⟨hbg, hgl⟩)⟩
    all_goals (
      have hkl : k < l.length := (List.getElem?_eq_some_iff.1 hx).1
      obtain ⟨e0, e1⟩ := cellsH_at hx)
    · have h1 : (cur.toList.take (n * 2))[k * 2]? = (cellsH l)[k * 2]? := by rw [htake]
      rw [List.getElem?_take_of_lt (by omega), Array.getElem?_toList, e0] at h1
      simp only [World.cell?, hg, Option.isSome_none, Bool.false_eq_true, if_false]
      rw [show (0 + k * 2 : Nat) = k * 2 by omega]
      exact h1
    · have h1 : (cur.toList.take (n * 2))[k * 2 + 1]? = (cellsH l)[k * 2 + 1]? := by rw [htake]
      rw [List.getElem?_take_of_lt (by omega), Array.getElem?_toList, e1] at h1
      simp only [World.cell?, hg, Option.isSome_none, Bool.false_eq_true, if_false]
      rw [show (0 + k * 2 + 1 : Nat) = k * 2 + 1 by omega]
      exact h1
theorem hrow_same {w w' : World} {la : Option Addr} {l : List He} (h : HRow w la l) (hs : w.heap.size ≤ w'.heap.size) (hk : ∀ x, la = some x → w'.heap[x.block]? = w.heap[x.block]?) : HRow w' la l :=
  ⟨fun k x hx => by
    obtain ⟨g, off, e, hg, h0, h1⟩ := h.at_ k x hx
    have := hk _ e
    simp only at this
    refine ⟨g, off, e, Nat.lt_of_lt_of_le hg hs, ?_, ?_⟩
    · simp only [World.cell?] at h0 ⊢
      rw [this]; exact h0
    · simp only [World.cell?] at h1 ⊢
      rw [this]; exact h1⟩
theorem hrow_none {w : World} {l : List He} (h : HRow w none l) : l = [] := by
  rcases Nat.eq_zero_or_pos l.length with e | e
  · exact List.eq_nil_of_length_eq_zero e
  · obtain ⟨x, hx⟩ := at_some (l := l) (k := 0) e
    obtain ⟨g, off, e', _⟩ := h.at_ 0 x hx
    cases e'
theorem hrow_cells {w : World} {ad : Addr} {l : List He} (h : HRow w (some ad) l) : ∀ j u, (cellsH l)[j]? = some u → w.cell? (ad.add j) = some u := by
  intro j u hj
  have hjl : j < (cellsH l).length := (List.getElem?_eq_some_iff.1 hj).1
  rw [cellsH_len] at hjl
  obtain ⟨x, hx⟩ := at_some (l := l) (k := j / 2) (by omega)
  obtain ⟨g, off, e, hg, h0, h1⟩ := h.at_ (j / 2) x hx
  obtain ⟨e0, e1⟩ := cellsH_at hx
  cases e
  rw [Addr.add_lit]
  rcases Nat.mod_two_eq_zero_or_one j with hm | hm
  · rw [show j = j / 2 * 2 by omega] at hj ⊢
    rw [e0] at hj
    cases hj
    exact h0
  · rw [show j = j / 2 * 2 + 1 by omega] at hj ⊢
    rw [e1] at hj
    cases hj
    rw [← Nat.add_assoc]
    exact h1
theorem cellsH_one {l : List He} {u : Value} (h : u ∈ cellsH l) : u.oneCell' = true := by
  induction l with
  | nil => cases h
  | cons x l ih =>
    rcases List.mem_cons.1 h with rfl | h
    · rfl
    · rcases List.mem_cons.1 h with rfl | h
      · rfl
      · exact ih h
theorem has_is {P : Program} {f : FuncId} {vs : Array Value} {w : World} {c c' : Bool} (h : Calls P f vs w fun e w' => e = .returned (.bool c) ∧ Below w.heap.size w w') (hc : c = c') : Calls P f vs w fun e w' => e = .returned (.bool c') ∧ Below w.heap.size w w' := hc ▸ h

/-! ### Refused -/
set_option maxRecDepth 20000 in
set_option maxHeartbeats 1000000 in
theorem rhear_range (g : Gd) (a : Option Addr) (len cap : Nat) (la : Option Addr) (lc : Nat) (r d t : Int) (w : World) (hn : ¬ (vlanB r = true ∧ vlanB d = true ∧ timeB t = true)) :
    Calls Try.prog 8 #[dv (dOf g a len cap la lc), .int .i64 r, .int .i64 d, .int .i64 t] w fun e w' => e = .returned (.tuple #[dv (dOf g a len cap la lc), .int .i64 1]) ∧ Below w.heap.size w w' := by
  obtain ⟨s, hs⟩ : ∃ s, dOf g a len cap la lc = s := ⟨_, rfl⟩
  rw [hs]
  obtain ⟨t0, n, a, len, cap, hello, now, la, ll, lc, many, first, told⟩ := s
  clear hs
  obtain ⟨k0, k1, kb⟩ := two_is w ⟨t0, n, a, len, cap, hello, now, la, ll, lc, many, first, told⟩
  obtain ⟨W, hW⟩ : ∃ W, W = twoW w ⟨t0, n, a, len, cap, hello, now, la, ll, lc, many, first, told⟩ := ⟨_, rfl⟩
  rw [← hW] at k0 k1 kb
  unfold twoW at hW
  have HW := Lib.hid hW
  clear hW
  have KB := Lib.hid kb
  obtain ⟨nb, hnb⟩ : ∃ nb, nb = w.heap.size := ⟨_, rfl⟩
  rw [← hnb] at k0 k1
  have HN := Lib.hid hnb
  obtain ⟨c0, c1, c2, c3, c4, c5, c6, c7, c8⟩ := k0.cells
  obtain ⟨d0, d1, d2, d3, d4, d5, d6, d7, d8⟩ := k1.cells
  have g0 := k1.free 0
  have g1 := k1.free 1
  have g2 := k1.free 2
  have g3 := k1.free 3
  have g4 := k1.free 4
  have g5 := k1.free 5
  have g6 := k1.free 6
  have g7 := k1.free 7
  have g8 := k1.free 8
  have HB := Lib.hid (put9_below kb (show w.heap.size ≤ nb + 1 by omega) ⟨t0, n, a, len, cap, hello, now, la, ll, lc, many, first, told⟩)
  clear k0 k1 kb hnb
  unfold put9 at HB
  simp only [zeroD] at d0 d1 d2 d3 d4 d5 d6 d7 d8
  cases hr : vlanB r with
  | false =>
    have HR := Lib.hid hr
    clear hr hn
    go_enter Try.func8, Try.ntmps8
    go_wp2_with fail
    rw [← HW.out, ← HN.out]
    (with_reducible refine (rvlan_any r _).mono ?_); rintro e w' ⟨rfl, rfl⟩; rw [HR.out]
    go_wp2
    exact bodyPost_ret (v := .tuple #[dv ⟨t0, n, a, len, cap, hello, now, la, ll, lc, many, first, told⟩, .int .i64 1]) (by simp [results, Try.results8, go_sem, c0, c1, c2, c3, c4, c5, c6, c7, c8, d0, d1, d2, d3, d4, d5, d6, d7, d8]) rfl ⟨rfl, HB.out⟩
  | true =>
    cases hd : vlanB d with
    | false =>
      have HR := Lib.hid hr
      have HD := Lib.hid hd
      clear hr hd hn
      go_enter Try.func8, Try.ntmps8
      go_wp2_with fail
      rw [← HW.out, ← HN.out]
      (with_reducible refine (rvlan_any r _).mono ?_); rintro e w' ⟨rfl, rfl⟩; rw [HR.out]
      go_wp2_with (go_at_call 23; refine (rvlan_any d _).mono ?_; rintro e w' ⟨rfl, rfl⟩; rw [HD.out])
      exact bodyPost_ret (v := .tuple #[dv ⟨t0, n, a, len, cap, hello, now, la, ll, lc, many, first, told⟩, .int .i64 1]) (by simp [results, Try.results8, go_sem, c0, c1, c2, c3, c4, c5, c6, c7, c8, d0, d1, d2, d3, d4, d5, d6, d7, d8]) rfl ⟨rfl, HB.out⟩
    | true =>
      have ht : timeB t = false := by
        cases ht : timeB t with
        | false => rfl
        | true => exact absurd ⟨hr, hd, ht⟩ hn
      have HR := Lib.hid hr
      have HD := Lib.hid hd
      have HT := Lib.hid ht
      clear hr hd hn ht
      go_enter Try.func8, Try.ntmps8
      go_wp2_with fail
      rw [← HW.out, ← HN.out]
      (with_reducible refine (rvlan_any r _).mono ?_); rintro e w' ⟨rfl, rfl⟩; rw [HR.out]
      go_wp2_with (first
        | (go_at_call 23; refine (rvlan_any d _).mono ?_; rintro e w' ⟨rfl, rfl⟩; rw [HD.out])
        | (go_at_call 24; refine (rtime_any t _).mono ?_; rintro e w' ⟨rfl, rfl⟩; rw [HT.out]))
      exact bodyPost_ret (v := .tuple #[dv ⟨t0, n, a, len, cap, hello, now, la, ll, lc, many, first, told⟩, .int .i64 1]) (by simp [results, Try.results8, go_sem, c0, c1, c2, c3, c4, c5, c6, c7, c8, d0, d1, d2, d3, d4, d5, d6, d7, d8]) rfl ⟨rfl, HB.out⟩
end Go.Proofs.Ytanciemiinbgmaa
