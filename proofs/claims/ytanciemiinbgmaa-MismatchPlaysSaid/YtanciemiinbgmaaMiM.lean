/-
  Layer 9: the document's guard in memory; its vlan, time, At, Blocked, Same.
-/
import Derived.Test.YtanciemiinbgmaaMiJ
import Derived.Laws.AppendOwnNone
namespace Go.Proofs.Ytanciemiinbgmaa
set_option linter.unusedVariables false
set_option linter.unusedSimpArgs false
open Go.RowKit Go.Maps Pm Mm

/-- The document's guard, cell by cell. -/
structure Ds where
  t : Bool
  n : Int
  a : Option Addr
  len : Nat
  cap : Nat
  hello : Int
  now : Int
  la : Option Addr
  ll : Nat
  lc : Nat
  many : Int
  first : Int
  told : Int
abbrev dv (s : Ds) : Value := .agg #[.bool s.t, .int .i64 s.n, .slice s.a s.len s.cap, .int .i64 s.hello, .int .i64 s.now, .slice s.la s.ll s.lc, .int .i64 s.many, .int .i64 s.first, .int .i64 s.told]
def DBlk (w : World) (b : Nat) (s : Ds) : Prop :=
  w.heap[b]? = some (.cells #[.bool s.t, .int .i64 s.n, .slice s.a s.len s.cap, .int .i64 s.hello, .int .i64 s.now, .slice s.la s.ll s.lc, .int .i64 s.many, .int .i64 s.first, .int .i64 s.told] 30 (0, 0))
theorem DBlk.lt {w : World} {b : Nat} {s : Ds} (h : DBlk w b s) : b < w.heap.size := (Array.getElem?_eq_some_iff.1 h).1
theorem DBlk.same {w w' : World} {b : Nat} {s : Ds} (h : DBlk w b s) (hb : w'.heap[b]? = w.heap[b]?) : DBlk w' b s := hb.trans h
theorem DBlk.next {w w' : World} {b : Nat} {s : Ds} (h : DBlk w b s) (hb : Below w.heap.size w w') : DBlk w' b s := h.same (hb.block b h.lt)
theorem DBlk.cells {w : World} {b : Nat} {s : Ds} (h : DBlk w b s) :
    w.cell? ⟨b, 0, none⟩ = some (.bool s.t) ∧ w.cell? ⟨b, 1, none⟩ = some (.int .i64 s.n) ∧ w.cell? ⟨b, 2, none⟩ = some (.slice s.a s.len s.cap) ∧ w.cell? ⟨b, 3, none⟩ = some (.int .i64 s.hello) ∧
      w.cell? ⟨b, 4, none⟩ = some (.int .i64 s.now) ∧ w.cell? ⟨b, 5, none⟩ = some (.slice s.la s.ll s.lc) ∧ w.cell? ⟨b, 6, none⟩ = some (.int .i64 s.many) ∧ w.cell? ⟨b, 7, none⟩ = some (.int .i64 s.first) ∧ w.cell? ⟨b, 8, none⟩ = some (.int .i64 s.told) := by
  unfold DBlk at h
  refine ⟨?_, ?_, ?_, ?_, ?_, ?_, ?_, ?_, ?_⟩ <;> simp [World.cell?, h]
theorem DBlk.free {w : World} {b : Nat} {s : Ds} (h : DBlk w b s) (j : Nat) : w.frozen? ⟨b, j, none⟩ = false := by
  unfold DBlk at h
  simp [World.frozen?, h]
theorem dblk_new (w : World) (s : Ds) : DBlk (w.alloc (.cells #[.bool s.t, .int .i64 s.n, .slice s.a s.len s.cap, .int .i64 s.hello, .int .i64 s.now, .slice s.la s.ll s.lc, .int .i64 s.many, .int .i64 s.first, .int .i64 s.told] 30)) w.heap.size s := heap_alloc_new w _
def zeroD : Ds := ⟨false, 0, none, 0, 0, 0, 0, none, 0, 0, 0, 0, 0⟩
/-- Nine cells, stored one behind the other. -/
def put9 (w : World) (b : Nat) (s : Ds) : World :=
  ((((((((w.setCell ⟨b, 0, none⟩ (.bool s.t)).setCell ⟨b, 1, none⟩ (.int .i64 s.n)).setCell ⟨b, 2, none⟩ (.slice s.a s.len s.cap)).setCell ⟨b, 3, none⟩ (.int .i64 s.hello)).setCell ⟨b, 4, none⟩ (.int .i64 s.now)).setCell ⟨b, 5, none⟩ (.slice s.la s.ll s.lc)).setCell ⟨b, 6, none⟩ (.int .i64 s.many)).setCell ⟨b, 7, none⟩ (.int .i64 s.first)).setCell ⟨b, 8, none⟩ (.int .i64 s.told)
theorem put9_blk {w : World} {b : Nat} {s0 : Ds} (h : DBlk w b s0) (s : Ds) : DBlk (put9 w b s) b s := by
  unfold DBlk at h ⊢
  unfold put9
  have h0 := blk_set (i := 0) (x := .bool s.t) (cs' := #[.bool s.t, .int .i64 s0.n, .slice s0.a s0.len s0.cap, .int .i64 s0.hello, .int .i64 s0.now, .slice s0.la s0.ll s0.lc, .int .i64 s0.many, .int .i64 s0.first, .int .i64 s0.told]) h rfl
  have h1 := blk_set (i := 1) (x := .int .i64 s.n) (cs' := #[.bool s.t, .int .i64 s.n, .slice s0.a s0.len s0.cap, .int .i64 s0.hello, .int .i64 s0.now, .slice s0.la s0.ll s0.lc, .int .i64 s0.many, .int .i64 s0.first, .int .i64 s0.told]) h0 rfl
  have h2 := blk_set (i := 2) (x := .slice s.a s.len s.cap) (cs' := #[.bool s.t, .int .i64 s.n, .slice s.a s.len s.cap, .int .i64 s0.hello, .int .i64 s0.now, .slice s0.la s0.ll s0.lc, .int .i64 s0.many, .int .i64 s0.first, .int .i64 s0.told]) h1 rfl
  have h3 := blk_set (i := 3) (x := .int .i64 s.hello) (cs' := #[.bool s.t, .int .i64 s.n, .slice s.a s.len s.cap, .int .i64 s.hello, .int .i64 s0.now, .slice s0.la s0.ll s0.lc, .int .i64 s0.many, .int .i64 s0.first, .int .i64 s0.told]) h2 rfl
  have h4 := blk_set (i := 4) (x := .int .i64 s.now) (cs' := #[.bool s.t, .int .i64 s.n, .slice s.a s.len s.cap, .int .i64 s.hello, .int .i64 s.now, .slice s0.la s0.ll s0.lc, .int .i64 s0.many, .int .i64 s0.first, .int .i64 s0.told]) h3 rfl
  have h5 := blk_set (i := 5) (x := .slice s.la s.ll s.lc) (cs' := #[.bool s.t, .int .i64 s.n, .slice s.a s.len s.cap, .int .i64 s.hello, .int .i64 s.now, .slice s.la s.ll s.lc, .int .i64 s0.many, .int .i64 s0.first, .int .i64 s0.told]) h4 rfl
  have h6 := blk_set (i := 6) (x := .int .i64 s.many) (cs' := #[.bool s.t, .int .i64 s.n, .slice s.a s.len s.cap, .int .i64 s.hello, .int .i64 s.now, .slice s.la s.ll s.lc, .int .i64 s.many, .int .i64 s0.first, .int .i64 s0.told]) h5 rfl
  have h7 := blk_set (i := 7) (x := .int .i64 s.first) (cs' := #[.bool s.t, .int .i64 s.n, .slice s.a s.len s.cap, .int .i64 s.hello, .int .i64 s.now, .slice s.la s.ll s.lc, .int .i64 s.many, .int .i64 s.first, .int .i64 s0.told]) h6 rfl
  exact blk_set h7 rfl
theorem put9_below {B b : Nat} {a w : World} (h : Below B a w) (hb : B ≤ b) (s : Ds) : Below B a (put9 w b s) :=
  ((((((((h.setCell (p := ⟨b, 0, none⟩) hb _).setCell (p := ⟨b, 1, none⟩) hb _).setCell (p := ⟨b, 2, none⟩) hb _).setCell (p := ⟨b, 3, none⟩) hb _).setCell (p := ⟨b, 4, none⟩) hb _).setCell (p := ⟨b, 5, none⟩) hb _).setCell (p := ⟨b, 6, none⟩) hb _).setCell (p := ⟨b, 7, none⟩) hb _).setCell (p := ⟨b, 8, none⟩) hb _
theorem put9_other (w : World) (b i : Nat) (s : Ds) (h : i ≠ b) : (put9 w b s).heap[i]? = w.heap[i]? := by
  unfold put9
  simp only [Below.heap_setCell _ ⟨b, _, none⟩ _ i h]

/-- A row of what was heard. -/
structure HRow (w : World) (la : Option Addr) (l : List He) : Prop where
  at_ : ∀ k x, l[k]? = some x → ∃ g off : Nat, la = some ⟨g, off, none⟩ ∧ g < w.heap.size ∧ w.cell? ⟨g, off + k * 2, none⟩ = some (.int .i64 x.vlan) ∧ w.cell? ⟨g, off + k * 2 + 1, none⟩ = some (.int .i64 x.till)
theorem HRow.next {w w' : World} {la : Option Addr} {l : List He} (h : HRow w la l) (hb : Below w.heap.size w w') : HRow w' la l :=
  ⟨fun k x hx => by
    obtain ⟨g, off, e, hg, h0, h1⟩ := h.at_ k x hx
    exact ⟨g, off, e, Nat.lt_of_lt_of_le hg hb.size, (hb.cell (p := ⟨g, off + k * 2, none⟩) hg).trans h0, (hb.cell (p := ⟨g, off + k * 2 + 1, none⟩) hg).trans h1⟩⟩
/-- What a guard of the document's points at. -/
structure DMem (w : World) (g : Gd) (a : Option Addr) (len : Nat) (la : Option Addr) (lc : Nat) : Prop where
  row : IsRow w a len g.po.allowed
  hrow : HRow w la g.l
  none : la = none → lc = 0
  few : g.l.length ≤ 1000
theorem DMem.next {w w' : World} {g : Gd} {a : Option Addr} {len lc : Nat} {la : Option Addr} (h : DMem w g a len la lc) (hb : Below w.heap.size w w') : DMem w' g a len la lc := ⟨h.row.next hb, h.hrow.next hb, h.none, h.few⟩
abbrev dOf (g : Gd) (a : Option Addr) (len cap : Nat) (la : Option Addr) (lc : Nat) : Ds := ⟨g.po.trunk, g.po.native, a, len, cap, g.hello, g.now, la, g.l.length, lc, g.many, g.first, g.told⟩

set_option maxHeartbeats 400000 in
theorem rvlan_any (n : Int) (w : World) :
    Calls Try.prog 23 #[.int .i64 n] w fun e w' => e = .returned (.bool (vlanB n)) ∧ w = w' := by
  go_enter Try.func23, Try.ntmps23
  go_wp2
  all_goals go_ret
  all_goals refine ⟨ret_bool ?_, rfl⟩
  all_goals (unfold vlanB; rw [Bool.eq_iff_iff]; simp; omega)
set_option maxHeartbeats 400000 in
theorem rtime_any (n : Int) (w : World) :
    Calls Try.prog 24 #[.int .i64 n] w fun e w' => e = .returned (.bool (timeB n)) ∧ w = w' := by
  go_enter Try.func24, Try.ntmps24
  go_wp2
  all_goals go_ret
  all_goals refine ⟨ret_bool ?_, rfl⟩
  all_goals (unfold timeB; rw [Bool.eq_iff_iff]; simp; omega)

/-- Two blocks of guards, one behind the other, the second one empty. -/
def twoW (w : World) (s : Ds) : World :=
  (w.alloc (.cells #[.bool s.t, .int .i64 s.n, .slice s.a s.len s.cap, .int .i64 s.hello, .int .i64 s.now, .slice s.la s.ll s.lc, .int .i64 s.many, .int .i64 s.first, .int .i64 s.told] 30)).alloc (.cells #[.bool false, .int .i64 0, .slice none 0 0, .int .i64 0, .int .i64 0, .slice none 0 0, .int .i64 0, .int .i64 0, .int .i64 0] 30)
theorem two_is (w : World) (s : Ds) : DBlk (twoW w s) w.heap.size s ∧ DBlk (twoW w s) (w.heap.size + 1) zeroD ∧ Below w.heap.size w (twoW w s) := by
  have k0 := dblk_new w s
  have k1 := dblk_new (w.alloc (.cells #[.bool s.t, .int .i64 s.n, .slice s.a s.len s.cap, .int .i64 s.hello, .int .i64 s.now, .slice s.la s.ll s.lc, .int .i64 s.many, .int .i64 s.first, .int .i64 s.told] 30)) zeroD
  rw [size_box] at k1
  exact ⟨k0.next (below_box _ _), k1, bw_alloc (below_box _ _) _⟩

set_option maxRecDepth 20000 in
set_option maxHeartbeats 2000000 in
theorem at_any (t0 : Bool) (n : Int) (a : Option Addr) (len cap : Nat) (hello now : Int) (la : Option Addr) (ll lc : Nat) (many first told t X : Int) (w : World) (hX : Hid ((if timeB t = true ∧ now < t then t else now) = X)) :
    Calls Try.prog 10 #[dv ⟨t0, n, a, len, cap, hello, now, la, ll, lc, many, first, told⟩, .int .i64 t] w fun e w' => e = .returned (dv ⟨t0, n, a, len, cap, hello, X, la, ll, lc, many, first, told⟩) ∧ Below w.heap.size w w' := by
  obtain ⟨k0, k1, kb⟩ := two_is w ⟨t0, n, a, len, cap, hello, now, la, ll, lc, many, first, told⟩
  obtain ⟨W, hW⟩ : ∃ W, W = twoW w ⟨t0, n, a, len, cap, hello, now, la, ll, lc, many, first, told⟩ := ⟨_, rfl⟩
  rw [← hW] at k0 k1 kb
  unfold twoW at hW
  have HW := Lib.hid hW
  clear hW
  have KB := Lib.hid kb
  obtain ⟨nb, hnb⟩ : ∃ nb, nb = w.heap.size := ⟨_, rfl⟩
  rw [← hnb] at k0 k1
  have HN := Lib.hid hnb
  obtain ⟨c0, c1, c2, c3, c4, c5, c6, c7, c8⟩ := k0.cells
  obtain ⟨d0, d1, d2, d3, d4, d5, d6, d7, d8⟩ := k1.cells
  have f4 := k0.free 4
  have g0 := k1.free 0
  have g1 := k1.free 1
  have g2 := k1.free 2
  have g3 := k1.free 3
  have g4 := k1.free 4
  have g5 := k1.free 5
  have g6 := k1.free 6
  have g7 := k1.free 7
  have g8 := k1.free 8
  have HB := Lib.hid (put9_below kb (show w.heap.size ≤ nb + 1 by omega) ⟨t0, n, a, len, cap, hello, X, la, ll, lc, many, first, told⟩)
  have HB2 := Lib.hid (put9_below (kb.setCell (p := ⟨nb, 4, none⟩) (show w.heap.size ≤ nb by omega) (.int .i64 t)) (show w.heap.size ≤ nb + 1 by omega) ⟨t0, n, a, len, cap, hello, X, la, ll, lc, many, first, told⟩)
  clear k0 k1 kb hnb
  unfold put9 at HB HB2
  simp only [zeroD] at d0 d1 d2 d3 d4 d5 d6 d7 d8
  cases ht : timeB t with
  | false =>
    have HT := Lib.hid ht
    have e : now = X := by have := hX.out; rw [if_neg (fun h => by rw [ht] at h; cases h.1)] at this; exact this
    subst e
    clear ht hX
    go_enter Try.func10, Try.ntmps10
    go_wp2_with fail
    rw [← HW.out, ← HN.out]
    (with_reducible refine (rtime_any t _).mono ?_); rintro e w' ⟨rfl, rfl⟩; rw [HT.out]
    go_wp2
    exact bodyPost_ret (v := dv ⟨t0, n, a, len, cap, hello, now, la, ll, lc, many, first, told⟩) (by simp [results, Try.results10, go_sem, c0, c1, c2, c3, c4, c5, c6, c7, c8, d0, d1, d2, d3, d4, d5, d6, d7, d8]) rfl ⟨rfl, HB.out⟩
  | true =>
    have HT := Lib.hid ht
    by_cases hlt : now < t
    · have e : t = X := by have := hX.out; rw [if_pos ⟨ht, hlt⟩] at this; exact this
      subst e
      clear ht hX
      have hd : decide (t > now) = true := decide_eq_true hlt
      go_enter Try.func10, Try.ntmps10
      go_wp2_with fail
      rw [← HW.out, ← HN.out]
      (with_reducible refine (rtime_any t _).mono ?_); rintro e w' ⟨rfl, rfl⟩; rw [HT.out]
      go_wp2
      exact bodyPost_ret (v := dv ⟨t0, n, a, len, cap, hello, t, la, ll, lc, many, first, told⟩) (by simp [results, Try.results10, go_sem, c0, c1, c2, c3, c4, c5, c6, c7, c8, d0, d1, d2, d3, d4, d5, d6, d7, d8]) rfl ⟨rfl, HB2.out⟩
    · have e : now = X := by have := hX.out; rw [if_neg (fun h => hlt h.2)] at this; exact this
      subst e
      clear ht hX
      have hd : decide (t > now) = false := decide_eq_false hlt
      go_enter Try.func10, Try.ntmps10
      go_wp2_with fail
      rw [← HW.out, ← HN.out]
      (with_reducible refine (rtime_any t _).mono ?_); rintro e w' ⟨rfl, rfl⟩; rw [HT.out]
      go_wp2
      exact bodyPost_ret (v := dv ⟨t0, n, a, len, cap, hello, now, la, ll, lc, many, first, told⟩) (by simp [results, Try.results10, go_sem, c0, c1, c2, c3, c4, c5, c6, c7, c8, d0, d1, d2, d3, d4, d5, d6, d7, d8]) rfl ⟨rfl, HB.out⟩
theorem at_w (g : Gd) (a : Option Addr) (len cap : Nat) (la : Option Addr) (lc : Nat) (t : Int) (w : World) :
    Calls Try.prog 10 #[dv (dOf g a len cap la lc), .int .i64 t] w fun e w' => e = .returned (dv (dOf (atG g t) a len cap la lc)) ∧ Below w.heap.size w w' := by
  have h := at_any g.po.trunk g.po.native a len cap g.hello g.now la g.l.length lc g.many g.first g.told t _ w (Lib.hid rfl)
  have e : dOf (atG g t) a len cap la lc = ⟨g.po.trunk, g.po.native, a, len, cap, g.hello, (if timeB t = true ∧ g.now < t then t else g.now), la, g.l.length, lc, g.many, g.first, g.told⟩ := by
    unfold dOf
    rw [at_po, at_hello, at_now, at_l, at_many, at_first, at_told]
  rw [e]
  exact h
end Go.Proofs.Ytanciemiinbgmaa
