/-
  The laws of layer 9: MismatchPlays: ahead of the script.
-/
import Derived.Test.YtanciemiinbgmaaMiS
namespace Go.Proofs.Ytanciemiinbgmaa
set_option linter.unusedVariables false
set_option linter.unusedSimpArgs false
open Go.RowKit Go.Maps Pm Mm

/-- What lies in memory ahead of each act: both guards, the program's and the document's, of one state. -/
structure Both (w : World) (b mb nb : Nat) (a' : Option Addr) (cap' : Nat) (a : Option Addr) (len cap : Nat) (la : Option Addr) (lc : Nat) (g : Gd) : Prop where
  mine : IsG w b mb a' len cap' g
  blk : DBlk w nb (dOf g a len cap la lc)
  mem : DMem w g a len la lc
  away : ∀ x, la = some x → x.block ≠ b ∧ x.block ≠ mb ∧ x.block ≠ nb
  awayB : ∀ x, a' = some x → x.block ≠ nb
  n1 : nb ≠ b
  n2 : nb ≠ mb
theorem Both.next {w w' : World} {b mb nb : Nat} {a' : Option Addr} {cap' : Nat} {a : Option Addr} {len cap : Nat} {la : Option Addr} {lc : Nat} {g : Gd} (h : Both w b mb nb a' cap' a len cap la lc g) (hb : Below w.heap.size w w') : Both w' b mb nb a' cap' a len cap la lc g :=
  ⟨h.mine.next hb, h.blk.next hb, h.mem.next hb, h.away, h.awayB, h.n1, h.n2⟩
theorem row_heap {w w' : World} {a : Option Addr} {len : Nat} {l : List Int} (h : IsRow w a len l) (hs : w.heap.size ≤ w'.heap.size) (hk : ∀ x, a = some x → w'.heap[x.block]? = w.heap[x.block]?) : IsRow w' a len l :=
  ⟨h.length, h.bound, fun k n hn => by
    obtain ⟨x, off, e, hx, hc⟩ := h.at_ k n hn
    have := hk _ e
    simp only at this
    refine ⟨x, off, e, Nat.lt_of_lt_of_le hx hs, ?_⟩
    simp only [World.cell?] at hc ⊢
    rw [this]
    exact hc⟩
/-- The document's guard is another one. -/
theorem Both.turned {w w' : World} {b mb nb : Nat} {a' : Option Addr} {cap' : Nat} {a : Option Addr} {len cap : Nat} {la la' : Option Addr} {lc lc' : Nat} {g g' : Gd}
    (h : Both w b mb nb a' cap' a len cap la lc g) (hb : Below w.heap.size w w') (hm : DMem w' g' a len la' lc') (hn : ∀ x, la' = some x → la = some x ∨ w.heap.size ≤ x.block) :
    (∀ x, la' = some x → x.block ≠ b ∧ x.block ≠ mb ∧ x.block ≠ nb) := fun x e => by
  rcases hn x e with h1 | h1
  · exact h.away x h1
  · have l1 := h.mine.lt
    have l2 := h.mine.mlt
    have l3 := h.blk.lt
    exact ⟨by omega, by omega, by omega⟩
/-- Behind an act: the program's guard has turned, then the document's cells were stored. -/
theorem Both.behind {w y z : World} {b mb nb : Nat} {a' : Option Addr} {cap' : Nat} {a : Option Addr} {len cap : Nat} {la la' : Option Addr} {lc lc' : Nat} {g g' : Gd}
    (h : Both w b mb nb a' cap' a len cap la lc g) (hm : DMem y g' a len la' lc') (hy : DBlk y nb (dOf g' a len cap la' lc')) (ha : ∀ x, la' = some x → x.block ≠ b ∧ x.block ≠ mb ∧ x.block ≠ nb)
    (hrz : IsRow z a len g'.po.allowed) (hz : IsG z b mb a' len cap' g') (hk : Kept2 b mb y z) : Both z b mb nb a' cap' a len cap la' lc' g' := by
  refine ⟨hz, hy.same (hk.block nb hy.lt h.n1 h.n2), ⟨hrz, ?_, hm.none, hm.few⟩, ha, h.awayB, h.n1, h.n2⟩
  · refine ⟨fun k x hx => ?_⟩
    obtain ⟨q, off, e, hq, h0, h1⟩ := hm.hrow.at_ k x hx
    obtain ⟨e1, e2, _⟩ := ha _ e
    have hb := hk.block q hq e1 e2
    refine ⟨q, off, e, Nat.lt_of_lt_of_le hq hk.size, ?_, ?_⟩
    · simp only [World.cell?] at h0 ⊢
      rw [hb]; exact h0
    · simp only [World.cell?] at h1 ⊢
      rw [hb]; exact h1
/-- Behind the store into the document's block. -/
theorem dmem_put {w : World} {nb : Nat} {s : Ds} {g : Gd} {a : Option Addr} {len lc : Nat} {la : Option Addr} (h : DMem w g a len la lc) (h1 : ∀ x, la = some x → x.block ≠ nb) (h2 : IsRow (put9 w nb s) a len g.po.allowed) : DMem (put9 w nb s) g a len la lc :=
  ⟨h2, hrow_same h.hrow (Nat.le_of_eq (put9_size w nb s).symm) (fun x e => put9_other w nb x.block s (h1 x e)), h.none, h.few⟩
theorem isg_put {w : World} {b mb nb : Nat} {a' : Option Addr} {len cap' : Nat} {g : Gd} (h : IsG w b mb a' len cap' g) (s : Ds) (h1 : nb ≠ b) (h2 : nb ≠ mb) (h3 : ∀ x, a' = some x → x.block ≠ nb) : IsG (put9 w nb s) b mb a' len cap' g := by
  refine ⟨h.blk.same (put9_other w nb b s (Ne.symm h1)), row_heap h.row (Nat.le_of_eq (put9_size w nb s).symm) (fun x e => put9_other w nb x.block s (h3 x e)), h.away, ?_, h.ok⟩
  obtain ⟨f, m1, m2⟩ := h.map
  exact ⟨f, m1.same (put9_other w nb mb s (Ne.symm h2)), m2⟩

/-- Where each act begins. -/
structure Inv (w wr : World) (po : Po) (b mb nb : Nat) (a' : Option Addr) (cap' : Nat) (a : Option Addr) (len cap : Nat) (j : Nat) (la : Option Addr) (lc : Nat) (g : Gd) : Prop where
  both : Both wr b mb nb a' cap' a len cap la lc g
  below : Below w.heap.size w wr
  many : g.many ≤ j
  heard : g.l.length ≤ 2 * j
  po : g.po = po
theorem hear_many (g : Gd) (r d t : Int) : (hearG g r d t).1.many ≤ g.many + 1 ∧ (hearG g r d t).1.l.length ≤ g.l.length + 2 := by
  have k := hear_is g r d t
  obtain ⟨G, hG⟩ : ∃ G, (hearG g r d t).1 = G := ⟨_, rfl⟩
  obtain ⟨E, hE⟩ : ∃ E, (hearG g r d t).2 = E := ⟨_, rfl⟩
  rw [hG, hE] at k
  rw [hG]
  cases k with
  | range hn => omega
  | none h1 h2 h3 h4 => omega
  | same h1 h2 h3 h4 h5 h6 => rw [at_many, at_l]; omega
  | more h1 h2 h3 h4 h5 =>
    have h6 := addL_len (atG g t).po r d ((atG g t).now + 3 * (atG g t).hello)
    show (atG g t).many + 1 ≤ _ ∧ ((atG g t).l ++ _).length ≤ _
    rw [at_many, List.length_append, at_l] at *
    omega
theorem hear_po (g : Gd) (r d t : Int) : (hearG g r d t).1.po = g.po := by
  have k := hear_is g r d t
  obtain ⟨G, hG⟩ : ∃ G, (hearG g r d t).1 = G := ⟨_, rfl⟩
  obtain ⟨E, hE⟩ : ∃ E, (hearG g r d t).2 = E := ⟨_, rfl⟩
  rw [hG, hE] at k
  rw [hG]
  cases k with
  | range hn => rfl
  | none h1 h2 h3 h4 => rfl
  | same h1 h2 h3 h4 h5 h6 => rw [at_po]
  | more h1 h2 h3 h4 h5 =>
    show (atG g t).po = _
    rw [at_po]
theorem at_at (g : Gd) (t : Int) : atG (atG g t) t = atG g t := by
  by_cases h : timeB t = true ∧ g.now < t
  · have e : atG g t = { g with now := t } := by unfold atG; rw [if_pos h]
    rw [e]
    unfold atG
    rw [if_neg (fun c => by have h2 : t < t := c.2; omega)]
  · have e : atG g t = g := by unfold atG; rw [if_neg h]
    rw [e, e]
/-- An act's block. -/
def XBlk (w : World) (b : Nat) (x : Ac) : Prop := w.heap[b]? = some (.cells #[.bool x.ask, .int .i64 x.received, .int .i64 x.told, .int .i64 x.now] 37 (0, 0))
theorem XBlk.lt {w : World} {b : Nat} {x : Ac} (h : XBlk w b x) : b < w.heap.size := (Array.getElem?_eq_some_iff.1 h).1
theorem XBlk.same {w w' : World} {b : Nat} {x : Ac} (h : XBlk w b x) (hb : w'.heap[b]? = w.heap[b]?) : XBlk w' b x := hb.trans h
theorem XBlk.next {w w' : World} {b : Nat} {x : Ac} (h : XBlk w b x) (hb : Below w.heap.size w w') : XBlk w' b x := h.same (hb.block b h.lt)
theorem XBlk.cells {w : World} {b : Nat} {x : Ac} (h : XBlk w b x) : w.cell? ⟨b, 0, none⟩ = some (.bool x.ask) ∧ w.cell? ⟨b, 1, none⟩ = some (.int .i64 x.received) ∧ w.cell? ⟨b, 2, none⟩ = some (.int .i64 x.told) ∧ w.cell? ⟨b, 3, none⟩ = some (.int .i64 x.now) := by
  unfold XBlk at h
  refine ⟨?_, ?_, ?_, ?_⟩ <;> simp [World.cell?, h]
theorem xblk_new (w : World) (x : Ac) : XBlk (w.alloc (.cells #[.bool x.ask, .int .i64 x.received, .int .i64 x.told, .int .i64 x.now] 37)) w.heap.size x := heap_alloc_new w _
end Go.Proofs.Ytanciemiinbgmaa
