/-
  Layer 8: what is known of a port, as a value, a block and a row; own, sameAddress, rightPort, the closure of Right, Mine, the document's Raise.
-/
import Derived.Test.YtngdilmgbgdkcaaDoorRoA
import Derived.Test.YtngdilmgbgdkcaaDoorRoMath2
namespace Go.Proofs.YtngdilmgbgdkcaaDoor
set_option linter.unusedVariables false
set_option linter.unusedSimpArgs false
open Go.RowKit Vm Rm

theorem at_some {α : Type} {l : List α} {k : Nat} (h : k < l.length) : ∃ x, l[k]? = some x := ⟨l[k], List.getElem?_eq_getElem h⟩
theorem below_drewN {B : Nat} {a w : World} (h : Below B a w) (n : Nat) : Below B a (w.drewN n) := ⟨h.os, h.tape, h.output, h.size, h.block⟩
abbrev iv (i c s r k b p : Int) : Value := .agg #[.int .u64 i, .int .u64 c, .int .i64 s, .int .u64 r, .int .u64 k, .int .u64 b, .int .u64 p]
abbrev Rm.Inf.val (x : Inf) : Value := iv x.id x.cost x.source x.vec.root x.vec.cost x.vec.bridge x.vec.port
/-- The seven cells of what is known of a port. -/
def At7 (w : World) (g o : Nat) (i c s r k b p : Int) : Prop :=
  w.cell? ⟨g, o, none⟩ = some (.int .u64 i) ∧ w.cell? ⟨g, o + 1, none⟩ = some (.int .u64 c) ∧ w.cell? ⟨g, o + 2, none⟩ = some (.int .i64 s) ∧ w.cell? ⟨g, o + 3, none⟩ = some (.int .u64 r) ∧ w.cell? ⟨g, o + 4, none⟩ = some (.int .u64 k) ∧ w.cell? ⟨g, o + 5, none⟩ = some (.int .u64 b) ∧ w.cell? ⟨g, o + 6, none⟩ = some (.int .u64 p)
def AtI (w : World) (g o : Nat) (x : Inf) : Prop := At7 w g o x.id x.cost x.source x.vec.root x.vec.cost x.vec.bridge x.vec.port
theorem At7.below {w w' : World} {g o B : Nat} {i c s r k b p : Int} (h : At7 w g o i c s r k b p) (hb : Below B w w') (hB : g < B) : At7 w' g o i c s r k b p := by
  obtain ⟨k0, k1, k2, k3, k4, k5, k6⟩ := h
  exact ⟨(hb.cell (p := ⟨g, o, none⟩) hB).trans k0, (hb.cell (p := ⟨g, o + 1, none⟩) hB).trans k1, (hb.cell (p := ⟨g, o + 2, none⟩) hB).trans k2, (hb.cell (p := ⟨g, o + 3, none⟩) hB).trans k3, (hb.cell (p := ⟨g, o + 4, none⟩) hB).trans k4, (hb.cell (p := ⟨g, o + 5, none⟩) hB).trans k5, (hb.cell (p := ⟨g, o + 6, none⟩) hB).trans k6⟩
def inI64 (n : Int) : Prop := -9223372036854775808 ≤ n ∧ n ≤ 9223372036854775807
structure InfOk (x : Inf) : Prop where
  id : u64B x.id
  cost : u64B x.cost
  source : inI64 x.source
  vec : x.vec.ok
/-- A row of what is known of ports. -/
structure IRow (w : World) (a : Option Addr) (l : List Inf) : Prop where
  at_ : ∀ j x, l[j]? = some x → ∃ g o : Nat, a = some ⟨g, o, none⟩ ∧ g < w.heap.size ∧ AtI w g (o + j * 7) x
  rng : ∀ x ∈ l, InfOk x
theorem IRow.next {w w' : World} {a : Option Addr} {l : List Inf} (h : IRow w a l) (hb : Below w.heap.size w w') : IRow w' a l :=
  ⟨fun j x hx => by obtain ⟨g, o, e, hg, k⟩ := h.at_ j x hx; exact ⟨g, o, e, Nat.lt_of_lt_of_le hg hb.size, At7.below k hb hg⟩, h.rng⟩
theorem IRow.ok {w : World} {a : Option Addr} {l : List Inf} (h : IRow w a l) {j : Nat} {x : Inf} (hx : l[j]? = some x) : InfOk x := h.rng x (List.mem_of_getElem? hx)
/-- A block that holds what is known of a port. -/
def IBlk (T : TypeId) (w : World) (n : Nat) (i c s r k b p : Int) : Prop :=
  w.heap[n]? = some (.cells #[.int .u64 i, .int .u64 c, .int .i64 s, .int .u64 r, .int .u64 k, .int .u64 b, .int .u64 p] T (0, 0))
theorem IBlk.below {T : TypeId} {w w' : World} {n B : Nat} {i c s r k b p : Int} (h : IBlk T w n i c s r k b p) (hb : Below B w w') (hB : n < B) : IBlk T w' n i c s r k b p := (hb.block n hB).trans h
theorem IBlk.lt {T : TypeId} {w : World} {n : Nat} {i c s r k b p : Int} (h : IBlk T w n i c s r k b p) : n < w.heap.size := (Array.getElem?_eq_some_iff.1 h).1
theorem IBlk.next {T : TypeId} {w w' : World} {n : Nat} {i c s r k b p : Int} (h : IBlk T w n i c s r k b p) (hb : Below w.heap.size w w') : IBlk T w' n i c s r k b p := h.below hb h.lt
theorem iblk_new (T : TypeId) (w : World) (i c s r k b p : Int) : IBlk T (w.alloc (.cells #[.int .u64 i, .int .u64 c, .int .i64 s, .int .u64 r, .int .u64 k, .int .u64 b, .int .u64 p] T)) w.heap.size i c s r k b p := heap_alloc_new w _
theorem IBlk.cells {T : TypeId} {w : World} {n : Nat} {i c s r k b p : Int} (H : IBlk T w n i c s r k b p) :
    w.cell? ⟨n, 0, none⟩ = some (.int .u64 i) ∧ w.cell? ⟨n, 1, none⟩ = some (.int .u64 c) ∧ w.cell? ⟨n, 2, none⟩ = some (.int .i64 s) ∧ w.cell? ⟨n, 3, none⟩ = some (.int .u64 r) ∧ w.cell? ⟨n, 4, none⟩ = some (.int .u64 k) ∧ w.cell? ⟨n, 5, none⟩ = some (.int .u64 b) ∧ w.cell? ⟨n, 6, none⟩ = some (.int .u64 p) := by
  unfold IBlk at H
  refine ⟨?_, ?_, ?_, ?_, ?_, ?_, ?_⟩ <;> simp [World.cell?, H]
/-- A block of four, filled anew. -/
abbrev put4 (w : World) (n : Nat) (r c b p : Int) : World := (((w.setCell ⟨n, 0, none⟩ (.int .u64 r)).setCell ⟨n, 1, none⟩ (.int .u64 c)).setCell ⟨n, 2, none⟩ (.int .u64 b)).setCell ⟨n, 3, none⟩ (.int .u64 p)
theorem blk_set {w : World} {b i : Nat} {cs cs' : Array Value} {T : TypeId} {x : Value} (h : w.heap[b]? = some (.cells cs T (0, 0))) (hc : cs.setIfInBounds i x = cs') : (w.setCell ⟨b, i, none⟩ x).heap[b]? = some (.cells cs' T (0, 0)) := by
  rw [Joins.block_setCell h x, hc]
theorem Blk.set4 {T : TypeId} {w : World} {n : Nat} {x : Vc} (h : Blk T w n x) (r c b p : Int) : Blk T (put4 w n r c b p) n ⟨r, c, b, p⟩ := by
  unfold Blk at h ⊢
  exact blk_set (blk_set (blk_set (blk_set h rfl) rfl) rfl) rfl
theorem below_put4 {B : Nat} {a w : World} (h : Below B a w) {n : Nat} (hn : B ≤ n) (r c b p : Int) : Below B a (put4 w n r c b p) :=
  (((h.setCell (p := ⟨n, 0, none⟩) hn _).setCell (p := ⟨n, 1, none⟩) hn _).setCell (p := ⟨n, 2, none⟩) hn _).setCell (p := ⟨n, 3, none⟩) hn _
theorem run_vcEq (r c b p r' c' b' p' : Int) (w : World) :
    Sem.run Tryd.prog (binOp .eql 28 (vv r c b p) (vv r' c' b' p')) w = .ok (.bool (decide ((⟨r, c, b, p⟩ : Vc) = ⟨r', c', b', p'⟩))) w := by
  unfold vv
  go_simp
  repeat' split
  all_goals simp_all

theorem be_mod {x y : Int} (hx : u64B x) (hy : u64B y) : (Bm.be x.toNat 6 = Bm.be y.toNat 6) ↔ x % 281474976710656 = y % 281474976710656 := by
  obtain ⟨x0, x1⟩ := hx
  obtain ⟨y0, y1⟩ := hy
  constructor
  · intro h
    have a := Bm.num_be x.toNat 6
    have b := Bm.num_be y.toNat 6
    rw [h, b] at a
    omega
  · intro h
    have key : ∀ (k n m : Nat), n % 256 ^ k = m % 256 ^ k → Bm.be n k = Bm.be m k := by
      intro k
      induction k with
      | zero => intro n m _; rfl
      | succ k ih =>
        intro n m e
        have e1 : n % 256 ^ k = m % 256 ^ k := by
          have := congrArg (· % 256 ^ k) e
          simp only [Nat.pow_succ, Nat.mod_mul_right_mod] at this
          exact this
        have e2 : n / 256 ^ k % 256 = m / 256 ^ k % 256 := by
          have h1 := Nat.mod_mul_right_div_self n (256 ^ k) 256
          have h2 := Nat.mod_mul_right_div_self m (256 ^ k) 256
          rw [← h1, ← h2, ← Nat.pow_succ, e]
        simp only [Bm.be]
        rw [ih n m e1, e2]
    exact key 6 _ _ (by omega)

end Go.Proofs.YtngdilmgbgdkcaaDoor
