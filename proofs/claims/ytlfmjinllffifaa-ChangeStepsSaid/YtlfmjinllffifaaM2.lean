/-
  Walks of layer 5 that layer 8 reaches: cmp.Compare, parts, Compare, Raise, addressText, Split.
  Layer 8: what is known of a port, as a value, a block and a row; own, sameAddress, rightPort, the closure of Right, Mine, the document's Raise.
  Walks of layer 3: within, rightNumbers, Right, Size, Role.
  Layers 10 and 11: a port's 61 cells as one array; a port's block of memory, of type T.
  Layer 8: the document's Compare.
  Layer 8: role, the document's Way, slices.IndexFunc and ContainsFunc with Right's closure.
  Layer 8: Right of the package, and the document's.
  Layer 8: the scan over the ports: root's closure, eachWay, root.
  Layer 8: eachWay with root's closure; root.
  Layer 8: Select.
  Layer 8: Select, where the ports are right.
  Layer 8: rows of what is known of ports that a call makes; the law's of.
-/
import Derived.Test.YtlfmjinllffifaaRows
import Derived.Test.YtlfmjinllffifaaM1
import Derived.WalkKit
import Derived.WalkSpells
import Derived.WalkLawsBesides
import Derived.Lib.Hide
import Derived.Deep.Light
import Derived.Lib.AppendStr
import Derived.Laws.IdiomStrings
import Derived.Deep.QuietTactic
import Derived.BigQuiet
import Derived.Deep.RegionWith
import Derived.Deep.RegionHeld3
import Derived.Deep.DeepCutAuto
import Derived.Lib.SmallJoins
import Derived.LoopN
import Derived.Laws.Rows
import Derived.Laws.Tables
import Derived.Lib.SliceRun
import Derived.Deep.AppendLies
import Derived.Deep.RegionLaw
import Derived.Deep.CutBlock
namespace Go.Proofs.Ytlfmjinllffifaa
set_option linter.unusedVariables false
set_option linter.unusedSimpArgs false
open Go.RowKit Vm

theorem ret_bool {a b : Bool} (h : a = b) : Ending.returned (.bool a) = .returned (.bool b) := by rw [h]
theorem ret_int {k : IntKind} {a b : Int} (h : a = b) : Ending.returned (.int k a) = .returned (.int k b) := by rw [h]
theorem below_box (w : World) (o : Obj) : Below w.heap.size w (w.alloc o) := (Below.refl _ _).alloc (Nat.le_refl _) o
theorem size_box (w : World) (o : Obj) : (w.alloc o).heap.size = w.heap.size + 1 := by simp
theorem bw_trans {a b c : World} (h : Below a.heap.size a b) (k : Below b.heap.size b c) : Below a.heap.size a c := h.trans (k.mono h.size)
theorem bw_alloc {a b : World} (h : Below a.heap.size a b) (o : Obj) : Below a.heap.size a (b.alloc o) := h.alloc h.size o
abbrev vv (r c b p : Int) : Value := .agg #[.int .u64 r, .int .u64 c, .int .u64 b, .int .u64 p]
abbrev Vm.Vc.val (v : Vc) : Value := vv v.root v.cost v.bridge v.port
/-- Block b holds just these four numbers, as a block of type T, none of them frozen. -/
def Blk (T : TypeId) (w : World) (b : Nat) (x : Vc) : Prop :=
  w.heap[b]? = some (.cells #[.int .u64 x.root, .int .u64 x.cost, .int .u64 x.bridge, .int .u64 x.port] T (0, 0))
def Boxed (w : World) (b : Nat) (r c br p : Int) : Prop :=
  w.cell? ⟨b, 0, none⟩ = some (.int .u64 r) ∧ w.cell? ⟨b, 1, none⟩ = some (.int .u64 c) ∧ w.cell? ⟨b, 2, none⟩ = some (.int .u64 br) ∧ w.cell? ⟨b, 3, none⟩ = some (.int .u64 p)
theorem Blk.below {T : TypeId} {w w' : World} {b B : Nat} {x : Vc} (h : Blk T w b x) (hb : Below B w w') (hB : b < B) : Blk T w' b x := (hb.block b hB).trans h
theorem Blk.lt {T : TypeId} {w : World} {b : Nat} {x : Vc} (h : Blk T w b x) : b < w.heap.size := (Array.getElem?_eq_some_iff.1 h).1
theorem Blk.next {T : TypeId} {w w' : World} {b : Nat} {x : Vc} (h : Blk T w b x) (hb : Below w.heap.size w w') : Blk T w' b x := h.below hb h.lt
theorem blk_new (T : TypeId) (w : World) (r c b p : Int) : Blk T (w.alloc (.cells #[.int .u64 r, .int .u64 c, .int .u64 b, .int .u64 p] T)) w.heap.size ⟨r, c, b, p⟩ := heap_alloc_new w _
theorem Blk.cells {T : TypeId} {w : World} {b : Nat} {r c br p : Int} (H : Blk T w b ⟨r, c, br, p⟩) : Boxed w b r c br p := by
  unfold Blk at H
  refine ⟨?_, ?_, ?_, ?_⟩ <;> simp [World.cell?, H]
theorem Blk.free {T : TypeId} {w : World} {b : Nat} {x : Vc} (h : Blk T w b x) (j : Nat) : w.frozen? ⟨b, j, none⟩ = false := by
  unfold Blk at h
  simp [World.frozen?, h]
/-- The lowest bits of a number of 64 bits. -/
theorem u64_mask (n : Int) (k : Nat) (hk : k < 64) (h : u64B n) : bits .and .u64 n ((2 ^ k - 1 : Nat) : Int) = n % ((2 ^ k : Nat) : Int) := by
  obtain ⟨h0, h1⟩ := h
  obtain ⟨N, rfl⟩ := Int.eq_ofNat_of_zero_le h0
  have hp : 2 ^ k < 2 ^ 64 := Nat.pow_lt_pow_right (by omega) hk
  show IntKind.u64.wrap ((BitVec.ofInt 64 (N : Int) &&& BitVec.ofInt 64 ((2 ^ k - 1 : Nat) : Int)).toNat : Int) = _
  rw [BitVec.toNat_and, Bm.ofInt_any, Bm.ofInt_any, IntKind.wrap_u64]
  have e1 : ((N : Int) % 18446744073709551616).toNat = N := by omega
  have e2 : (((2 ^ k - 1 : Nat) : Int) % 18446744073709551616).toNat = 2 ^ k - 1 := by omega
  rw [e1, e2, Nat.and_two_pow_sub_one_eq_mod]
  have := Nat.mod_le N (2 ^ k)
  omega
theorem u64_sum (x y : Int) (k K : Nat) (hK : K = 2 ^ k) (hx : u64B x) (hd : x % (K : Int) = 0) (hy : 0 ≤ y ∧ y < (K : Int)) (hk : K ≤ 18446744073709551616) : bits .or .u64 x y = x + y := by
  obtain ⟨h0, h1⟩ := hx
  obtain ⟨X, rfl⟩ := Int.eq_ofNat_of_zero_le h0
  obtain ⟨Y, rfl⟩ := Int.eq_ofNat_of_zero_le hy.1
  have hY : Y < 2 ^ k := by omega
  have hX : X % 2 ^ k = 0 := by rw [← hK]; omega
  rw [Bm.u64_or_nat X Y (by omega) (by omega), nat_join k X Y hX hY]
  omega
theorem ret_pair {a b K E : Int} (h1 : a = K) (h2 : b = E) : Ending.returned (.tuple #[.int .u64 a, .int .i64 b]) = .returned (.tuple #[.int .u64 K, .int .i64 E]) := by rw [h1, h2]
theorem mask_48 (n : Int) (h : u64B n) : bits .and .u64 n 281474976710655 = n % 281474976710656 := u64_mask n 48 (by omega) h
theorem mask_12 (n : Int) (h : u64B n) : bits .and .u64 n 4095 = n % 4096 := u64_mask n 12 (by omega) h
theorem cmpN_rest (a b k : Int) : cmpN a b k = if cmpN a b 0 = 0 then k else cmpN a b 0 := by
  unfold cmpN
  repeat' split
  all_goals omega
theorem strCells_append (a b : ByteArray) : Lib.strCells (a ++ b) = Lib.strCells a ++ Lib.strCells b := by
  simp [Lib.strCells]
theorem byte_cell (N k : Nat) : Lib.strCells ⟨#[UInt8.ofNat (N / k % 256)]⟩ = [Value.int .u8 ((N : Int) / (k : Int) % 256)] := by
  simp only [Lib.strCells, List.map_cons, List.map_nil]
  congr 2
  rw [UInt8.toNat_ofNat']
  have : ((N / k % 256 : Nat) : Int) = (N : Int) / (k : Int) % 256 := by simp
  omega
theorem six_cells (N : Nat) : Lib.strCells (Bm.be N 6) = [Value.int .u8 ((N : Int) / 1099511627776 % 256), Value.int .u8 ((N : Int) / 4294967296 % 256), Value.int .u8 ((N : Int) / 16777216 % 256), Value.int .u8 ((N : Int) / 65536 % 256), Value.int .u8 ((N : Int) / 256 % 256), Value.int .u8 ((N : Int) % 256)] := by
  have h : Lib.strCells (Bm.be N 6) = Lib.strCells ⟨#[UInt8.ofNat (N / 256 ^ 5 % 256)]⟩ ++ (Lib.strCells ⟨#[UInt8.ofNat (N / 256 ^ 4 % 256)]⟩ ++ (Lib.strCells ⟨#[UInt8.ofNat (N / 256 ^ 3 % 256)]⟩ ++ (Lib.strCells ⟨#[UInt8.ofNat (N / 256 ^ 2 % 256)]⟩ ++ (Lib.strCells ⟨#[UInt8.ofNat (N / 256 ^ 1 % 256)]⟩ ++ (Lib.strCells ⟨#[UInt8.ofNat (N / 256 ^ 0 % 256)]⟩ ++ Lib.strCells ⟨#[]⟩))))) := by
    simp only [Bm.be, strCells_append]
  rw [h]
  simp only [byte_cell]
  simp [Lib.strCells]
end Go.Proofs.Ytlfmjinllffifaa

namespace Go.Proofs.Ytlfmjinllffifaa
set_option linter.unusedVariables false
set_option linter.unusedSimpArgs false
open Go.RowKit Vm Rm

theorem at_some {α : Type} {l : List α} {k : Nat} (h : k < l.length) : ∃ x, l[k]? = some x := ⟨l[k], List.getElem?_eq_getElem h⟩
theorem below_drewN {B : Nat} {a w : World} (h : Below B a w) (n : Nat) : Below B a (w.drewN n) := ⟨h.os, h.tape, h.output, h.size, h.block⟩
abbrev iv (i c s r k b p : Int) : Value := .agg #[.int .u64 i, .int .u64 c, .int .i64 s, .int .u64 r, .int .u64 k, .int .u64 b, .int .u64 p]
abbrev Rm.Inf.val (x : Inf) : Value := iv x.id x.cost x.source x.vec.root x.vec.cost x.vec.bridge x.vec.port
/-- The seven cells of what is known of a port. -/
def At7 (w : World) (g o : Nat) (i c s r k b p : Int) : Prop :=
  w.cell? ⟨g, o, none⟩ = some (.int .u64 i) ∧ w.cell? ⟨g, o + 1, none⟩ = some (.int .u64 c) ∧ w.cell? ⟨g, o + 2, none⟩ = some (.int .i64 s) ∧ w.cell? ⟨g, o + 3, none⟩ = some (.int .u64 r) ∧ w.cell? ⟨g, o + 4, none⟩ = some (.int .u64 k) ∧ w.cell? ⟨g, o + 5, none⟩ = some (.int .u64 b) ∧ w.cell? ⟨g, o + 6, none⟩ = some (.int .u64 p)
def AtI (w : World) (g o : Nat) (x : Inf) : Prop := At7 w g o x.id x.cost x.source x.vec.root x.vec.cost x.vec.bridge x.vec.port
theorem At7.below {w w' : World} {g o B : Nat} {i c s r k b p : Int} (h : At7 w g o i c s r k b p) (hb : Below B w w') (hB : g < B) : At7 w' g o i c s r k b p := by
  obtain ⟨k0, k1, k2, k3, k4, k5, k6⟩ := h
  exact ⟨(hb.cell (p := ⟨g, o, none⟩) hB).trans k0, (hb.cell (p := ⟨g, o + 1, none⟩) hB).trans k1, (hb.cell (p := ⟨g, o + 2, none⟩) hB).trans k2, (hb.cell (p := ⟨g, o + 3, none⟩) hB).trans k3, (hb.cell (p := ⟨g, o + 4, none⟩) hB).trans k4, (hb.cell (p := ⟨g, o + 5, none⟩) hB).trans k5, (hb.cell (p := ⟨g, o + 6, none⟩) hB).trans k6⟩
def inI64 (n : Int) : Prop := -9223372036854775808 ≤ n ∧ n ≤ 9223372036854775807
structure InfOk (x : Inf) : Prop where
  id : u64B x.id
  cost : u64B x.cost
  source : inI64 x.source
  vec : x.vec.ok
/-- A row of what is known of ports. -/
structure IRow (w : World) (a : Option Addr) (l : List Inf) : Prop where
  at_ : ∀ j x, l[j]? = some x → ∃ g o : Nat, a = some ⟨g, o, none⟩ ∧ g < w.heap.size ∧ AtI w g (o + j * 7) x
  rng : ∀ x ∈ l, InfOk x
theorem IRow.next {w w' : World} {a : Option Addr} {l : List Inf} (h : IRow w a l) (hb : Below w.heap.size w w') : IRow w' a l :=
  ⟨fun j x hx => by obtain ⟨g, o, e, hg, k⟩ := h.at_ j x hx; exact ⟨g, o, e, Nat.lt_of_lt_of_le hg hb.size, At7.below k hb hg⟩, h.rng⟩
theorem IRow.ok {w : World} {a : Option Addr} {l : List Inf} (h : IRow w a l) {j : Nat} {x : Inf} (hx : l[j]? = some x) : InfOk x := h.rng x (List.mem_of_getElem? hx)
/-- A block that holds what is known of a port. -/
def IBlk (T : TypeId) (w : World) (n : Nat) (i c s r k b p : Int) : Prop :=
  w.heap[n]? = some (.cells #[.int .u64 i, .int .u64 c, .int .i64 s, .int .u64 r, .int .u64 k, .int .u64 b, .int .u64 p] T (0, 0))
theorem IBlk.below {T : TypeId} {w w' : World} {n B : Nat} {i c s r k b p : Int} (h : IBlk T w n i c s r k b p) (hb : Below B w w') (hB : n < B) : IBlk T w' n i c s r k b p := (hb.block n hB).trans h
theorem IBlk.lt {T : TypeId} {w : World} {n : Nat} {i c s r k b p : Int} (h : IBlk T w n i c s r k b p) : n < w.heap.size := (Array.getElem?_eq_some_iff.1 h).1
theorem IBlk.next {T : TypeId} {w w' : World} {n : Nat} {i c s r k b p : Int} (h : IBlk T w n i c s r k b p) (hb : Below w.heap.size w w') : IBlk T w' n i c s r k b p := h.below hb h.lt
theorem iblk_new (T : TypeId) (w : World) (i c s r k b p : Int) : IBlk T (w.alloc (.cells #[.int .u64 i, .int .u64 c, .int .i64 s, .int .u64 r, .int .u64 k, .int .u64 b, .int .u64 p] T)) w.heap.size i c s r k b p := heap_alloc_new w _
theorem IBlk.cells {T : TypeId} {w : World} {n : Nat} {i c s r k b p : Int} (H : IBlk T w n i c s r k b p) :
    w.cell? ⟨n, 0, none⟩ = some (.int .u64 i) ∧ w.cell? ⟨n, 1, none⟩ = some (.int .u64 c) ∧ w.cell? ⟨n, 2, none⟩ = some (.int .i64 s) ∧ w.cell? ⟨n, 3, none⟩ = some (.int .u64 r) ∧ w.cell? ⟨n, 4, none⟩ = some (.int .u64 k) ∧ w.cell? ⟨n, 5, none⟩ = some (.int .u64 b) ∧ w.cell? ⟨n, 6, none⟩ = some (.int .u64 p) := by
  unfold IBlk at H
  refine ⟨?_, ?_, ?_, ?_, ?_, ?_, ?_⟩ <;> simp [World.cell?, H]
/-- A block of four, filled anew. -/
abbrev put4 (w : World) (n : Nat) (r c b p : Int) : World := (((w.setCell ⟨n, 0, none⟩ (.int .u64 r)).setCell ⟨n, 1, none⟩ (.int .u64 c)).setCell ⟨n, 2, none⟩ (.int .u64 b)).setCell ⟨n, 3, none⟩ (.int .u64 p)
theorem blk_set {w : World} {b i : Nat} {cs cs' : Array Value} {T : TypeId} {x : Value} (h : w.heap[b]? = some (.cells cs T (0, 0))) (hc : cs.setIfInBounds i x = cs') : (w.setCell ⟨b, i, none⟩ x).heap[b]? = some (.cells cs' T (0, 0)) := by
  rw [Joins.block_setCell h x, hc]
theorem Blk.set4 {T : TypeId} {w : World} {n : Nat} {x : Vc} (h : Blk T w n x) (r c b p : Int) : Blk T (put4 w n r c b p) n ⟨r, c, b, p⟩ := by
  unfold Blk at h ⊢
  exact blk_set (blk_set (blk_set (blk_set h rfl) rfl) rfl) rfl
theorem below_put4 {B : Nat} {a w : World} (h : Below B a w) {n : Nat} (hn : B ≤ n) (r c b p : Int) : Below B a (put4 w n r c b p) :=
  (((h.setCell (p := ⟨n, 0, none⟩) hn _).setCell (p := ⟨n, 1, none⟩) hn _).setCell (p := ⟨n, 2, none⟩) hn _).setCell (p := ⟨n, 3, none⟩) hn _
theorem run_vcEq (r c b p r' c' b' p' : Int) (w : World) :
    Sem.run Try.prog (binOp .eql 45 (vv r c b p) (vv r' c' b' p')) w = .ok (.bool (decide ((⟨r, c, b, p⟩ : Vc) = ⟨r', c', b', p'⟩))) w := by
  unfold vv
  go_simp
  repeat' split
  all_goals simp_all

theorem be_mod {x y : Int} (hx : u64B x) (hy : u64B y) : (Bm.be x.toNat 6 = Bm.be y.toNat 6) ↔ x % 281474976710656 = y % 281474976710656 := by
  obtain ⟨x0, x1⟩ := hx
  obtain ⟨y0, y1⟩ := hy
  constructor
  · intro h
    have a := Bm.num_be x.toNat 6
    have b := Bm.num_be y.toNat 6
    rw [h, b] at a
    omega
  · intro h
    have key : ∀ (k n m : Nat), n % 256 ^ k = m % 256 ^ k → Bm.be n k = Bm.be m k := by
      intro k
      induction k with
      | zero => intro n m _; rfl
      | succ k ih =>
        intro n m e
        have e1 : n % 256 ^ k = m % 256 ^ k := by
          have := congrArg (· % 256 ^ k) e
          simp only [Nat.pow_succ, Nat.mod_mul_right_mod] at this
          exact this
        have e2 : n / 256 ^ k % 256 = m / 256 ^ k % 256 := by
          have h1 := Nat.mod_mul_right_div_self n (256 ^ k) 256
          have h2 := Nat.mod_mul_right_div_self m (256 ^ k) 256
          rw [← h1, ← h2, ← Nat.pow_succ, e]
        simp only [Bm.be]
        rw [ih n m e1, e2]
    exact key 6 _ _ (by omega)

end Go.Proofs.Ytlfmjinllffifaa

namespace Go.Proofs.Ytlfmjinllffifaa
set_option linter.unusedVariables false
set_option linter.unusedSimpArgs false
open Go.RowKit Bm

/-- Block b holds just this BPDU's cells (of the program's type T), none of them frozen. -/
def BBlk (T : TypeId) (w : World) (b : Nat) (x : Bp) : Prop :=
  w.heap[b]? = some (.cells #[.int .i64 x.kind, .int .i64 x.flags, .int .u64 x.root, .int .u64 x.cost, .int .u64 x.bridge, .int .u64 x.port, .int .i64 x.age, .int .i64 x.max, .int .i64 x.hello, .int .i64 x.delay] T (0, 0))
def BBoxed (w : World) (b : Nat) (k f r c br p a m h d : Int) : Prop :=
  w.cell? ⟨b, 0, none⟩ = some (.int .i64 k) ∧ w.cell? ⟨b, 1, none⟩ = some (.int .i64 f) ∧ w.cell? ⟨b, 2, none⟩ = some (.int .u64 r) ∧ w.cell? ⟨b, 3, none⟩ = some (.int .u64 c) ∧ w.cell? ⟨b, 4, none⟩ = some (.int .u64 br) ∧ w.cell? ⟨b, 5, none⟩ = some (.int .u64 p) ∧ w.cell? ⟨b, 6, none⟩ = some (.int .i64 a) ∧ w.cell? ⟨b, 7, none⟩ = some (.int .i64 m) ∧ w.cell? ⟨b, 8, none⟩ = some (.int .i64 h) ∧ w.cell? ⟨b, 9, none⟩ = some (.int .i64 d)
theorem BBlk.below {T : TypeId} {w w' : World} {b B : Nat} {x : Bp} (h : BBlk T w b x) (hb : Below B w w') (hB : b < B) : BBlk T w' b x := (hb.block b hB).trans h
theorem BBlk.lt {T : TypeId} {w : World} {b : Nat} {x : Bp} (h : BBlk T w b x) : b < w.heap.size := (Array.getElem?_eq_some_iff.1 h).1
theorem BBlk.next {T : TypeId} {w w' : World} {b : Nat} {x : Bp} (h : BBlk T w b x) (hb : Below w.heap.size w w') : BBlk T w' b x := h.below hb h.lt
theorem bblk_new (T : TypeId) (w : World) (k f r c b p a m h d : Int) :
    BBlk T (w.alloc (.cells #[.int .i64 k, .int .i64 f, .int .u64 r, .int .u64 c, .int .u64 b, .int .u64 p, .int .i64 a, .int .i64 m, .int .i64 h, .int .i64 d] T)) w.heap.size ⟨k, f, r, c, b, p, a, m, h, d⟩ := heap_alloc_new w _
theorem BBlk.cells {T : TypeId} {w : World} {b : Nat} {k f r c br p a m h d : Int} (H : BBlk T w b ⟨k, f, r, c, br, p, a, m, h, d⟩) : BBoxed w b k f r c br p a m h d := by
  unfold BBlk at H
  refine ⟨?_, ?_, ?_, ?_, ?_, ?_, ?_, ?_, ?_, ?_⟩ <;> simp [World.cell?, H]
theorem BBlk.free {T : TypeId} {w : World} {b : Nat} {x : Bp} (h : BBlk T w b x) (j : Nat) : w.frozen? ⟨b, j, none⟩ = false := by
  unfold BBlk at h
  simp [World.frozen?, h]
theorem BBlk.other {T : TypeId} {w : World} {b : Nat} {x : Bp} (h : BBlk T w b x) {c : Nat} (i : Nat) (v : Value) (hne : b ≠ c) : BBlk T (w.setCell ⟨c, i, none⟩ v) b x :=
  (Below.heap_setCell w ⟨c, i, none⟩ v b hne).trans h

end Go.Proofs.Ytlfmjinllffifaa

namespace Go.Proofs.Ytlfmjinllffifaa
set_option linter.unusedVariables false
set_option linter.unusedSimpArgs false
open Go.RowKit Vm Rm Bm Im

def cellsT (p : Pt) : Array Value := #[.int .u64 p.id, .int .u64 p.cost, .bool p.on, .bool p.admin, .bool p.oper, .int .i64 p.source, .int .u64 p.vec.root, .int .u64 p.vec.cost, .int .u64 p.vec.bridge, .int .u64 p.vec.port, .int .i64 p.times.age, .int .i64 p.times.max, .int .i64 p.times.hello, .int .i64 p.times.delay, .int .u64 p.offer.root, .int .u64 p.offer.cost, .int .u64 p.offer.bridge, .int .u64 p.offer.port, .int .i64 p.given.age, .int .i64 p.given.max, .int .i64 p.given.hello, .int .i64 p.given.delay, .int .i64 p.role, .int .i64 p.selected, .bool p.ready, .bool p.update, .bool p.reselect, .bool p.learn, .bool p.learning, .bool p.forward, .bool p.forwarding, .bool p.agree, .bool p.agreed, .bool p.proposed, .bool p.proposing, .bool p.sync, .bool p.synced, .bool p.reroot, .bool p.disputed, .bool p.newInfo, .bool p.heardTc, .bool p.heardTcn, .bool p.heardAck, .bool p.tcAck, .bool p.tcProp, .bool p.flush, .bool p.sendRstp, .bool p.heardRstp, .bool p.heardStp, .bool p.check, .int .i64 p.fd, .int .i64 p.rr, .int .i64 p.rb, .int .i64 p.tc, .int .i64 p.edge, .int .i64 p.md, .int .i64 p.info, .int .i64 p.hello, .int .i64 p.txCount, .int .i64 p.change, .int .i64 p.migrate]
theorem cellsT_size (p : Pt) : (cellsT p).size = 61 := rfl
theorem cellsT_one (p : Pt) : (cellsT p).all (·.oneCell') = true := by simp [cellsT, Value.oneCell']
def PtBlk (T : TypeId) (w : World) (b : Nat) (p : Pt) : Prop := w.heap[b]? = some (.cells (cellsT p) T (0, 0))
section
variable {T : TypeId} {w w' : World} {b : Nat} {p : Pt}
theorem PtBlk.lt (h : PtBlk T w b p) : b < w.heap.size := (Array.getElem?_eq_some_iff.1 h).1
theorem PtBlk.same (h : PtBlk T w b p) (hb : w'.heap[b]? = w.heap[b]?) : PtBlk T w' b p := hb.trans h
theorem PtBlk.next (h : PtBlk T w b p) (hb : Below w.heap.size w w') : PtBlk T w' b p := h.same (hb.block b h.lt)
theorem ptblk_new (T : TypeId) (w : World) (p : Pt) : PtBlk T (w.alloc (.cells (cellsT p) T)) w.heap.size p := heap_alloc_new w _
theorem PtBlk.free (h : PtBlk T w b p) (j : Nat) : w.frozen? ⟨b, j, none⟩ = false := by
  unfold PtBlk at h
  simp [World.frozen?, h]
theorem PtBlk.row (h : PtBlk T w b p) (q : Pt) : PtBlk T (w.setRow b (cellsT q)) b q := setRow_heap w b _ _ T _ h
/-! Each field's cell; a field stored. -/
theorem PtBlk.c_id (h : PtBlk T w b p) : w.cell? ⟨b, 0, none⟩ = some (.int .u64 p.id) := (cell_of_row w b 0 (cellsT p) T _ h).trans rfl
theorem PtBlk.c_cost (h : PtBlk T w b p) : w.cell? ⟨b, 1, none⟩ = some (.int .u64 p.cost) := (cell_of_row w b 1 (cellsT p) T _ h).trans rfl
theorem PtBlk.c_on (h : PtBlk T w b p) : w.cell? ⟨b, 2, none⟩ = some (.bool p.on) := (cell_of_row w b 2 (cellsT p) T _ h).trans rfl
theorem PtBlk.c_admin (h : PtBlk T w b p) : w.cell? ⟨b, 3, none⟩ = some (.bool p.admin) := (cell_of_row w b 3 (cellsT p) T _ h).trans rfl
theorem PtBlk.c_oper (h : PtBlk T w b p) : w.cell? ⟨b, 4, none⟩ = some (.bool p.oper) := (cell_of_row w b 4 (cellsT p) T _ h).trans rfl
theorem PtBlk.c_source (h : PtBlk T w b p) : w.cell? ⟨b, 5, none⟩ = some (.int .i64 p.source) := (cell_of_row w b 5 (cellsT p) T _ h).trans rfl
theorem PtBlk.c_vec_root (h : PtBlk T w b p) : w.cell? ⟨b, 6, none⟩ = some (.int .u64 p.vec.root) := (cell_of_row w b 6 (cellsT p) T _ h).trans rfl
theorem PtBlk.c_vec_cost (h : PtBlk T w b p) : w.cell? ⟨b, 7, none⟩ = some (.int .u64 p.vec.cost) := (cell_of_row w b 7 (cellsT p) T _ h).trans rfl
theorem PtBlk.c_vec_bridge (h : PtBlk T w b p) : w.cell? ⟨b, 8, none⟩ = some (.int .u64 p.vec.bridge) := (cell_of_row w b 8 (cellsT p) T _ h).trans rfl
theorem PtBlk.c_vec_port (h : PtBlk T w b p) : w.cell? ⟨b, 9, none⟩ = some (.int .u64 p.vec.port) := (cell_of_row w b 9 (cellsT p) T _ h).trans rfl
theorem PtBlk.c_times_age (h : PtBlk T w b p) : w.cell? ⟨b, 10, none⟩ = some (.int .i64 p.times.age) := (cell_of_row w b 10 (cellsT p) T _ h).trans rfl
theorem PtBlk.c_times_max (h : PtBlk T w b p) : w.cell? ⟨b, 11, none⟩ = some (.int .i64 p.times.max) := (cell_of_row w b 11 (cellsT p) T _ h).trans rfl
theorem PtBlk.c_times_hello (h : PtBlk T w b p) : w.cell? ⟨b, 12, none⟩ = some (.int .i64 p.times.hello) := (cell_of_row w b 12 (cellsT p) T _ h).trans rfl
theorem PtBlk.c_times_delay (h : PtBlk T w b p) : w.cell? ⟨b, 13, none⟩ = some (.int .i64 p.times.delay) := (cell_of_row w b 13 (cellsT p) T _ h).trans rfl
theorem PtBlk.c_offer_root (h : PtBlk T w b p) : w.cell? ⟨b, 14, none⟩ = some (.int .u64 p.offer.root) := (cell_of_row w b 14 (cellsT p) T _ h).trans rfl
theorem PtBlk.c_offer_cost (h : PtBlk T w b p) : w.cell? ⟨b, 15, none⟩ = some (.int .u64 p.offer.cost) := (cell_of_row w b 15 (cellsT p) T _ h).trans rfl
theorem PtBlk.c_offer_bridge (h : PtBlk T w b p) : w.cell? ⟨b, 16, none⟩ = some (.int .u64 p.offer.bridge) := (cell_of_row w b 16 (cellsT p) T _ h).trans rfl
theorem PtBlk.c_offer_port (h : PtBlk T w b p) : w.cell? ⟨b, 17, none⟩ = some (.int .u64 p.offer.port) := (cell_of_row w b 17 (cellsT p) T _ h).trans rfl
theorem PtBlk.c_given_age (h : PtBlk T w b p) : w.cell? ⟨b, 18, none⟩ = some (.int .i64 p.given.age) := (cell_of_row w b 18 (cellsT p) T _ h).trans rfl
theorem PtBlk.c_given_max (h : PtBlk T w b p) : w.cell? ⟨b, 19, none⟩ = some (.int .i64 p.given.max) := (cell_of_row w b 19 (cellsT p) T _ h).trans rfl
theorem PtBlk.c_given_hello (h : PtBlk T w b p) : w.cell? ⟨b, 20, none⟩ = some (.int .i64 p.given.hello) := (cell_of_row w b 20 (cellsT p) T _ h).trans rfl
theorem PtBlk.c_given_delay (h : PtBlk T w b p) : w.cell? ⟨b, 21, none⟩ = some (.int .i64 p.given.delay) := (cell_of_row w b 21 (cellsT p) T _ h).trans rfl
theorem PtBlk.c_role (h : PtBlk T w b p) : w.cell? ⟨b, 22, none⟩ = some (.int .i64 p.role) := (cell_of_row w b 22 (cellsT p) T _ h).trans rfl
theorem PtBlk.c_selected (h : PtBlk T w b p) : w.cell? ⟨b, 23, none⟩ = some (.int .i64 p.selected) := (cell_of_row w b 23 (cellsT p) T _ h).trans rfl
theorem PtBlk.c_ready (h : PtBlk T w b p) : w.cell? ⟨b, 24, none⟩ = some (.bool p.ready) := (cell_of_row w b 24 (cellsT p) T _ h).trans rfl
theorem PtBlk.c_update (h : PtBlk T w b p) : w.cell? ⟨b, 25, none⟩ = some (.bool p.update) := (cell_of_row w b 25 (cellsT p) T _ h).trans rfl
theorem PtBlk.c_reselect (h : PtBlk T w b p) : w.cell? ⟨b, 26, none⟩ = some (.bool p.reselect) := (cell_of_row w b 26 (cellsT p) T _ h).trans rfl
theorem PtBlk.c_learn (h : PtBlk T w b p) : w.cell? ⟨b, 27, none⟩ = some (.bool p.learn) := (cell_of_row w b 27 (cellsT p) T _ h).trans rfl
theorem PtBlk.c_learning (h : PtBlk T w b p) : w.cell? ⟨b, 28, none⟩ = some (.bool p.learning) := (cell_of_row w b 28 (cellsT p) T _ h).trans rfl
theorem PtBlk.c_forward (h : PtBlk T w b p) : w.cell? ⟨b, 29, none⟩ = some (.bool p.forward) := (cell_of_row w b 29 (cellsT p) T _ h).trans rfl
theorem PtBlk.c_forwarding (h : PtBlk T w b p) : w.cell? ⟨b, 30, none⟩ = some (.bool p.forwarding) := (cell_of_row w b 30 (cellsT p) T _ h).trans rfl
theorem PtBlk.c_agree (h : PtBlk T w b p) : w.cell? ⟨b, 31, none⟩ = some (.bool p.agree) := (cell_of_row w b 31 (cellsT p) T _ h).trans rfl
theorem PtBlk.c_agreed (h : PtBlk T w b p) : w.cell? ⟨b, 32, none⟩ = some (.bool p.agreed) := (cell_of_row w b 32 (cellsT p) T _ h).trans rfl
theorem PtBlk.c_proposed (h : PtBlk T w b p) : w.cell? ⟨b, 33, none⟩ = some (.bool p.proposed) := (cell_of_row w b 33 (cellsT p) T _ h).trans rfl
theorem PtBlk.c_proposing (h : PtBlk T w b p) : w.cell? ⟨b, 34, none⟩ = some (.bool p.proposing) := (cell_of_row w b 34 (cellsT p) T _ h).trans rfl
theorem PtBlk.c_sync (h : PtBlk T w b p) : w.cell? ⟨b, 35, none⟩ = some (.bool p.sync) := (cell_of_row w b 35 (cellsT p) T _ h).trans rfl
theorem PtBlk.c_synced (h : PtBlk T w b p) : w.cell? ⟨b, 36, none⟩ = some (.bool p.synced) := (cell_of_row w b 36 (cellsT p) T _ h).trans rfl
theorem PtBlk.c_reroot (h : PtBlk T w b p) : w.cell? ⟨b, 37, none⟩ = some (.bool p.reroot) := (cell_of_row w b 37 (cellsT p) T _ h).trans rfl
theorem PtBlk.c_disputed (h : PtBlk T w b p) : w.cell? ⟨b, 38, none⟩ = some (.bool p.disputed) := (cell_of_row w b 38 (cellsT p) T _ h).trans rfl
theorem PtBlk.c_newInfo (h : PtBlk T w b p) : w.cell? ⟨b, 39, none⟩ = some (.bool p.newInfo) := (cell_of_row w b 39 (cellsT p) T _ h).trans rfl
theorem PtBlk.c_heardTc (h : PtBlk T w b p) : w.cell? ⟨b, 40, none⟩ = some (.bool p.heardTc) := (cell_of_row w b 40 (cellsT p) T _ h).trans rfl
theorem PtBlk.c_heardTcn (h : PtBlk T w b p) : w.cell? ⟨b, 41, none⟩ = some (.bool p.heardTcn) := (cell_of_row w b 41 (cellsT p) T _ h).trans rfl
theorem PtBlk.c_heardAck (h : PtBlk T w b p) : w.cell? ⟨b, 42, none⟩ = some (.bool p.heardAck) := (cell_of_row w b 42 (cellsT p) T _ h).trans rfl
theorem PtBlk.c_tcAck (h : PtBlk T w b p) : w.cell? ⟨b, 43, none⟩ = some (.bool p.tcAck) := (cell_of_row w b 43 (cellsT p) T _ h).trans rfl
theorem PtBlk.c_tcProp (h : PtBlk T w b p) : w.cell? ⟨b, 44, none⟩ = some (.bool p.tcProp) := (cell_of_row w b 44 (cellsT p) T _ h).trans rfl
theorem PtBlk.c_flush (h : PtBlk T w b p) : w.cell? ⟨b, 45, none⟩ = some (.bool p.flush) := (cell_of_row w b 45 (cellsT p) T _ h).trans rfl
theorem PtBlk.c_sendRstp (h : PtBlk T w b p) : w.cell? ⟨b, 46, none⟩ = some (.bool p.sendRstp) := (cell_of_row w b 46 (cellsT p) T _ h).trans rfl
theorem PtBlk.c_heardRstp (h : PtBlk T w b p) : w.cell? ⟨b, 47, none⟩ = some (.bool p.heardRstp) := (cell_of_row w b 47 (cellsT p) T _ h).trans rfl
theorem PtBlk.c_heardStp (h : PtBlk T w b p) : w.cell? ⟨b, 48, none⟩ = some (.bool p.heardStp) := (cell_of_row w b 48 (cellsT p) T _ h).trans rfl
theorem PtBlk.c_check (h : PtBlk T w b p) : w.cell? ⟨b, 49, none⟩ = some (.bool p.check) := (cell_of_row w b 49 (cellsT p) T _ h).trans rfl
theorem PtBlk.c_fd (h : PtBlk T w b p) : w.cell? ⟨b, 50, none⟩ = some (.int .i64 p.fd) := (cell_of_row w b 50 (cellsT p) T _ h).trans rfl
theorem PtBlk.c_rr (h : PtBlk T w b p) : w.cell? ⟨b, 51, none⟩ = some (.int .i64 p.rr) := (cell_of_row w b 51 (cellsT p) T _ h).trans rfl
theorem PtBlk.c_rb (h : PtBlk T w b p) : w.cell? ⟨b, 52, none⟩ = some (.int .i64 p.rb) := (cell_of_row w b 52 (cellsT p) T _ h).trans rfl
theorem PtBlk.c_tc (h : PtBlk T w b p) : w.cell? ⟨b, 53, none⟩ = some (.int .i64 p.tc) := (cell_of_row w b 53 (cellsT p) T _ h).trans rfl
theorem PtBlk.c_edge (h : PtBlk T w b p) : w.cell? ⟨b, 54, none⟩ = some (.int .i64 p.edge) := (cell_of_row w b 54 (cellsT p) T _ h).trans rfl
theorem PtBlk.c_md (h : PtBlk T w b p) : w.cell? ⟨b, 55, none⟩ = some (.int .i64 p.md) := (cell_of_row w b 55 (cellsT p) T _ h).trans rfl
theorem PtBlk.c_info (h : PtBlk T w b p) : w.cell? ⟨b, 56, none⟩ = some (.int .i64 p.info) := (cell_of_row w b 56 (cellsT p) T _ h).trans rfl
theorem PtBlk.c_hello (h : PtBlk T w b p) : w.cell? ⟨b, 57, none⟩ = some (.int .i64 p.hello) := (cell_of_row w b 57 (cellsT p) T _ h).trans rfl
theorem PtBlk.c_txCount (h : PtBlk T w b p) : w.cell? ⟨b, 58, none⟩ = some (.int .i64 p.txCount) := (cell_of_row w b 58 (cellsT p) T _ h).trans rfl
theorem PtBlk.c_change (h : PtBlk T w b p) : w.cell? ⟨b, 59, none⟩ = some (.int .i64 p.change) := (cell_of_row w b 59 (cellsT p) T _ h).trans rfl
theorem PtBlk.c_migrate (h : PtBlk T w b p) : w.cell? ⟨b, 60, none⟩ = some (.int .i64 p.migrate) := (cell_of_row w b 60 (cellsT p) T _ h).trans rfl
theorem PtBlk.s_id (h : PtBlk T w b p) (x : Int) : PtBlk T (w.setCell ⟨b, 0, none⟩ (.int .u64 x)) b { p with id := x } := by unfold PtBlk at h ⊢; exact blk_set h rfl
theorem PtBlk.s_cost (h : PtBlk T w b p) (x : Int) : PtBlk T (w.setCell ⟨b, 1, none⟩ (.int .u64 x)) b { p with cost := x } := by unfold PtBlk at h ⊢; exact blk_set h rfl
theorem PtBlk.s_on (h : PtBlk T w b p) (x : Bool) : PtBlk T (w.setCell ⟨b, 2, none⟩ (.bool x)) b { p with on := x } := by unfold PtBlk at h ⊢; exact blk_set h rfl
theorem PtBlk.s_admin (h : PtBlk T w b p) (x : Bool) : PtBlk T (w.setCell ⟨b, 3, none⟩ (.bool x)) b { p with admin := x } := by unfold PtBlk at h ⊢; exact blk_set h rfl
theorem PtBlk.s_oper (h : PtBlk T w b p) (x : Bool) : PtBlk T (w.setCell ⟨b, 4, none⟩ (.bool x)) b { p with oper := x } := by unfold PtBlk at h ⊢; exact blk_set h rfl
theorem PtBlk.s_source (h : PtBlk T w b p) (x : Int) : PtBlk T (w.setCell ⟨b, 5, none⟩ (.int .i64 x)) b { p with source := x } := by unfold PtBlk at h ⊢; exact blk_set h rfl
theorem PtBlk.s_role (h : PtBlk T w b p) (x : Int) : PtBlk T (w.setCell ⟨b, 22, none⟩ (.int .i64 x)) b { p with role := x } := by unfold PtBlk at h ⊢; exact blk_set h rfl
theorem PtBlk.s_selected (h : PtBlk T w b p) (x : Int) : PtBlk T (w.setCell ⟨b, 23, none⟩ (.int .i64 x)) b { p with selected := x } := by unfold PtBlk at h ⊢; exact blk_set h rfl
theorem PtBlk.s_ready (h : PtBlk T w b p) (x : Bool) : PtBlk T (w.setCell ⟨b, 24, none⟩ (.bool x)) b { p with ready := x } := by unfold PtBlk at h ⊢; exact blk_set h rfl
theorem PtBlk.s_update (h : PtBlk T w b p) (x : Bool) : PtBlk T (w.setCell ⟨b, 25, none⟩ (.bool x)) b { p with update := x } := by unfold PtBlk at h ⊢; exact blk_set h rfl
theorem PtBlk.s_reselect (h : PtBlk T w b p) (x : Bool) : PtBlk T (w.setCell ⟨b, 26, none⟩ (.bool x)) b { p with reselect := x } := by unfold PtBlk at h ⊢; exact blk_set h rfl
theorem PtBlk.s_learn (h : PtBlk T w b p) (x : Bool) : PtBlk T (w.setCell ⟨b, 27, none⟩ (.bool x)) b { p with learn := x } := by unfold PtBlk at h ⊢; exact blk_set h rfl
theorem PtBlk.s_learning (h : PtBlk T w b p) (x : Bool) : PtBlk T (w.setCell ⟨b, 28, none⟩ (.bool x)) b { p with learning := x } := by unfold PtBlk at h ⊢; exact blk_set h rfl
theorem PtBlk.s_forward (h : PtBlk T w b p) (x : Bool) : PtBlk T (w.setCell ⟨b, 29, none⟩ (.bool x)) b { p with forward := x } := by unfold PtBlk at h ⊢; exact blk_set h rfl
theorem PtBlk.s_forwarding (h : PtBlk T w b p) (x : Bool) : PtBlk T (w.setCell ⟨b, 30, none⟩ (.bool x)) b { p with forwarding := x } := by unfold PtBlk at h ⊢; exact blk_set h rfl
theorem PtBlk.s_agree (h : PtBlk T w b p) (x : Bool) : PtBlk T (w.setCell ⟨b, 31, none⟩ (.bool x)) b { p with agree := x } := by unfold PtBlk at h ⊢; exact blk_set h rfl
theorem PtBlk.s_agreed (h : PtBlk T w b p) (x : Bool) : PtBlk T (w.setCell ⟨b, 32, none⟩ (.bool x)) b { p with agreed := x } := by unfold PtBlk at h ⊢; exact blk_set h rfl
theorem PtBlk.s_proposed (h : PtBlk T w b p) (x : Bool) : PtBlk T (w.setCell ⟨b, 33, none⟩ (.bool x)) b { p with proposed := x } := by unfold PtBlk at h ⊢; exact blk_set h rfl
theorem PtBlk.s_proposing (h : PtBlk T w b p) (x : Bool) : PtBlk T (w.setCell ⟨b, 34, none⟩ (.bool x)) b { p with proposing := x } := by unfold PtBlk at h ⊢; exact blk_set h rfl
theorem PtBlk.s_sync (h : PtBlk T w b p) (x : Bool) : PtBlk T (w.setCell ⟨b, 35, none⟩ (.bool x)) b { p with sync := x } := by unfold PtBlk at h ⊢; exact blk_set h rfl
theorem PtBlk.s_synced (h : PtBlk T w b p) (x : Bool) : PtBlk T (w.setCell ⟨b, 36, none⟩ (.bool x)) b { p with synced := x } := by unfold PtBlk at h ⊢; exact blk_set h rfl
theorem PtBlk.s_reroot (h : PtBlk T w b p) (x : Bool) : PtBlk T (w.setCell ⟨b, 37, none⟩ (.bool x)) b { p with reroot := x } := by unfold PtBlk at h ⊢; exact blk_set h rfl
theorem PtBlk.s_disputed (h : PtBlk T w b p) (x : Bool) : PtBlk T (w.setCell ⟨b, 38, none⟩ (.bool x)) b { p with disputed := x } := by unfold PtBlk at h ⊢; exact blk_set h rfl
theorem PtBlk.s_newInfo (h : PtBlk T w b p) (x : Bool) : PtBlk T (w.setCell ⟨b, 39, none⟩ (.bool x)) b { p with newInfo := x } := by unfold PtBlk at h ⊢; exact blk_set h rfl
theorem PtBlk.s_heardTc (h : PtBlk T w b p) (x : Bool) : PtBlk T (w.setCell ⟨b, 40, none⟩ (.bool x)) b { p with heardTc := x } := by unfold PtBlk at h ⊢; exact blk_set h rfl
theorem PtBlk.s_heardTcn (h : PtBlk T w b p) (x : Bool) : PtBlk T (w.setCell ⟨b, 41, none⟩ (.bool x)) b { p with heardTcn := x } := by unfold PtBlk at h ⊢; exact blk_set h rfl
theorem PtBlk.s_heardAck (h : PtBlk T w b p) (x : Bool) : PtBlk T (w.setCell ⟨b, 42, none⟩ (.bool x)) b { p with heardAck := x } := by unfold PtBlk at h ⊢; exact blk_set h rfl
theorem PtBlk.s_tcAck (h : PtBlk T w b p) (x : Bool) : PtBlk T (w.setCell ⟨b, 43, none⟩ (.bool x)) b { p with tcAck := x } := by unfold PtBlk at h ⊢; exact blk_set h rfl
theorem PtBlk.s_tcProp (h : PtBlk T w b p) (x : Bool) : PtBlk T (w.setCell ⟨b, 44, none⟩ (.bool x)) b { p with tcProp := x } := by unfold PtBlk at h ⊢; exact blk_set h rfl
theorem PtBlk.s_flush (h : PtBlk T w b p) (x : Bool) : PtBlk T (w.setCell ⟨b, 45, none⟩ (.bool x)) b { p with flush := x } := by unfold PtBlk at h ⊢; exact blk_set h rfl
theorem PtBlk.s_sendRstp (h : PtBlk T w b p) (x : Bool) : PtBlk T (w.setCell ⟨b, 46, none⟩ (.bool x)) b { p with sendRstp := x } := by unfold PtBlk at h ⊢; exact blk_set h rfl
theorem PtBlk.s_heardRstp (h : PtBlk T w b p) (x : Bool) : PtBlk T (w.setCell ⟨b, 47, none⟩ (.bool x)) b { p with heardRstp := x } := by unfold PtBlk at h ⊢; exact blk_set h rfl
theorem PtBlk.s_heardStp (h : PtBlk T w b p) (x : Bool) : PtBlk T (w.setCell ⟨b, 48, none⟩ (.bool x)) b { p with heardStp := x } := by unfold PtBlk at h ⊢; exact blk_set h rfl
theorem PtBlk.s_check (h : PtBlk T w b p) (x : Bool) : PtBlk T (w.setCell ⟨b, 49, none⟩ (.bool x)) b { p with check := x } := by unfold PtBlk at h ⊢; exact blk_set h rfl
theorem PtBlk.s_fd (h : PtBlk T w b p) (x : Int) : PtBlk T (w.setCell ⟨b, 50, none⟩ (.int .i64 x)) b { p with fd := x } := by unfold PtBlk at h ⊢; exact blk_set h rfl
theorem PtBlk.s_rr (h : PtBlk T w b p) (x : Int) : PtBlk T (w.setCell ⟨b, 51, none⟩ (.int .i64 x)) b { p with rr := x } := by unfold PtBlk at h ⊢; exact blk_set h rfl
theorem PtBlk.s_rb (h : PtBlk T w b p) (x : Int) : PtBlk T (w.setCell ⟨b, 52, none⟩ (.int .i64 x)) b { p with rb := x } := by unfold PtBlk at h ⊢; exact blk_set h rfl
theorem PtBlk.s_tc (h : PtBlk T w b p) (x : Int) : PtBlk T (w.setCell ⟨b, 53, none⟩ (.int .i64 x)) b { p with tc := x } := by unfold PtBlk at h ⊢; exact blk_set h rfl
theorem PtBlk.s_edge (h : PtBlk T w b p) (x : Int) : PtBlk T (w.setCell ⟨b, 54, none⟩ (.int .i64 x)) b { p with edge := x } := by unfold PtBlk at h ⊢; exact blk_set h rfl
theorem PtBlk.s_md (h : PtBlk T w b p) (x : Int) : PtBlk T (w.setCell ⟨b, 55, none⟩ (.int .i64 x)) b { p with md := x } := by unfold PtBlk at h ⊢; exact blk_set h rfl
theorem PtBlk.s_info (h : PtBlk T w b p) (x : Int) : PtBlk T (w.setCell ⟨b, 56, none⟩ (.int .i64 x)) b { p with info := x } := by unfold PtBlk at h ⊢; exact blk_set h rfl
theorem PtBlk.s_hello (h : PtBlk T w b p) (x : Int) : PtBlk T (w.setCell ⟨b, 57, none⟩ (.int .i64 x)) b { p with hello := x } := by unfold PtBlk at h ⊢; exact blk_set h rfl
theorem PtBlk.s_txCount (h : PtBlk T w b p) (x : Int) : PtBlk T (w.setCell ⟨b, 58, none⟩ (.int .i64 x)) b { p with txCount := x } := by unfold PtBlk at h ⊢; exact blk_set h rfl
theorem PtBlk.s_change (h : PtBlk T w b p) (x : Int) : PtBlk T (w.setCell ⟨b, 59, none⟩ (.int .i64 x)) b { p with change := x } := by unfold PtBlk at h ⊢; exact blk_set h rfl
theorem PtBlk.s_migrate (h : PtBlk T w b p) (x : Int) : PtBlk T (w.setCell ⟨b, 60, none⟩ (.int .i64 x)) b { p with migrate := x } := by unfold PtBlk at h ⊢; exact blk_set h rfl
end
end Go.Proofs.Ytlfmjinllffifaa

namespace Go.Proofs.Ytlfmjinllffifaa
set_option linter.unusedVariables false
set_option linter.unusedSimpArgs false
open Go.RowKit Vm Rm

end Go.Proofs.Ytlfmjinllffifaa

namespace Go.Proofs.Ytlfmjinllffifaa
set_option linter.unusedVariables false
set_option linter.unusedSimpArgs false
open Go.RowKit Vm Rm

theorem role_other {br : Int} {v : Vc} {b : Bool} {p : Inf} (h : infB p = true) (h0 : ¬ p.source = 0) (h3 : ¬ p.source = 3) : roleR br v b p = 2 := by
  have := inf_source h
  exact role_mid h0 (by omega)

/-! ### The document's Way -/
theorem way_no {br : Int} {p : Inf} (h : wayR br p = none) : ¬ p.source = 3 ∨ (p.source = 3 ∧ ownB p.vec br = true) := by
  unfold wayR at h
  split at h
  · cases h
  · rename_i hn
    by_cases h3 : p.source = 3
    · right
      refine ⟨h3, ?_⟩
      cases ho : ownB p.vec br with
      | true => rfl
      | false => exact absurd ⟨h3, ho⟩ hn
    · exact .inl h3

/-! ### Is an Id told twice? -/
def clashB (l : List Inf) (i : Int) : Bool := l.any (fun x => decide (x.id = i))
theorem clash_no {l : List Inf} {i : Int} (h : ∀ j x, j < l.length → l[j]? = some x → ¬ x.id = i) : clashB l i = false := by
  unfold clashB
  rw [List.any_eq_false]
  intro x hx
  obtain ⟨j, hj⟩ := List.getElem?_of_mem hx
  simp [h j x (List.getElem?_eq_some_iff.1 hj).1 hj]
theorem clash_yes {l : List Inf} {i : Int} {j : Nat} {x : Inf} (h : l[j]? = some x) (hi : x.id = i) : clashB l i = true := by
  unfold clashB
  rw [List.any_eq_true]
  exact ⟨x, List.mem_of_getElem? h, by simp [hi]⟩
theorem clash_at {l : List Inf} {i : Int} {j : Nat} {x : Inf} (h : clashB l i = false) (hx : l[j]? = some x) : ¬ x.id = i := by
  intro e
  rw [clash_yes hx e] at h
  cases h
theorem take_at {l : List Inf} {k j : Nat} (h : j < k) : (l.take k)[j]? = l[j]? := List.getElem?_take_of_lt h
theorem take_next' {l : List Inf} {k : Nat} {x : Inf} (h : l[k]? = some x) : l.take (k + 1) = l.take k ++ [x] := by rw [List.take_add_one, h]; rfl
theorem right_next {l : List Inf} {k : Nat} {p : Inf} (h : l[k]? = some p) (hk : k < 16) : rightR (l.take (k + 1)) = (rightR (l.take k) && infB p && !clashB (l.take k) p.id) := by
  have hlen : (l.take k).length ≤ k := by rw [List.length_take]; omega
  rw [take_next' h]
  unfold rightR clashB
  rw [Bool.eq_iff_iff]
  simp only [Bool.and_eq_true, decide_eq_true_eq, List.all_append, List.all_cons, List.all_nil, Bool.and_true, List.length_append, List.length_cons, List.length_nil, Bool.not_eq_true', List.any_eq_false, List.pairwise_append, List.mem_singleton, List.pairwise_cons, List.Pairwise.nil]
  constructor
  · rintro ⟨⟨h1, h2, h3⟩, h4, -, h5⟩
    exact ⟨⟨⟨⟨by omega, h2⟩, h4⟩, h3⟩, fun x hx => h5 x hx p rfl⟩
  · rintro ⟨⟨⟨⟨h1, h2⟩, h4⟩, h3⟩, h5⟩
    exact ⟨⟨by omega, h2, h3⟩, h4, by simp, fun x hx y hy => by subst hy; exact h5 x hx⟩
theorem right_prefix {l : List Inf} (h : rightR l = true) (k : Nat) : rightR (l.take k) = true := by
  unfold rightR at h ⊢
  simp only [Bool.and_eq_true, decide_eq_true_eq, List.all_eq_true] at h ⊢
  exact ⟨⟨by rw [List.length_take]; omega, fun x hx => h.1.2 x (List.mem_of_mem_take hx)⟩, h.2.sublist (List.take_sublist k l)⟩
theorem right_not {l : List Inf} {k : Nat} (h : rightR (l.take k) = false) : rightR l = false := by
  cases hr : rightR l with
  | false => rfl
  | true => rw [right_prefix hr k] at h; cases h
theorem right_zero (l : List Inf) : rightR (l.take 0) = true := by
  rw [List.take_zero]; rfl
theorem IRow.take {w : World} {a : Option Addr} {l : List Inf} (h : IRow w a l) (k : Nat) : IRow w a (l.take k) :=
  ⟨fun j x hx => by
    have hj := (List.getElem?_eq_some_iff.1 hx).1
    rw [List.length_take] at hj
    rw [take_at (by omega)] at hx
    exact h.at_ j x hx, fun x hx => h.rng x (List.mem_of_mem_take hx)⟩

/-- Behind k rounds: none of the first k has this Id. -/
def SInv (l : List Inf) (n : Nat) (i : Int) (w : World) (v : Value) (wr : World) : Prop :=
  ∃ k : Nat, k ≤ n ∧ v = .int .i64 (k : Nat) ∧ (∀ j x, j < k → l[j]? = some x → ¬ x.id = i) ∧ Below w.heap.size w wr

end Go.Proofs.Ytlfmjinllffifaa

namespace Go.Proofs.Ytlfmjinllffifaa
set_option linter.unusedVariables false
set_option linter.unusedSimpArgs false
open Go.RowKit Vm Rm

theorem right_long {l : List Inf} (h : 16 < l.length) : rightR l = false := by
  unfold rightR
  rw [decide_eq_false (by omega)]
  rfl
/-- Behind k rounds: the first k are right. -/
def RInv (l : List Inf) (n : Nat) (w : World) (v : Value) (wr : World) : Prop :=
  ∃ k : Nat, k ≤ n ∧ v = .int .i64 (k : Nat) ∧ rightR (l.take k) = true ∧ Below w.heap.size w wr

/-! ### The document's Right -/
/-- Behind k rounds of the inner loop, in the outer one's round m: no earlier Id is p's. -/
theorem clash_step {l : List Inf} {i : Int} {k : Nat} {x : Inf} (h : ∀ j y, j < k → l[j]? = some y → ¬ y.id = i) (hx : l[k]? = some x) (hn : ¬ x.id = i) : ∀ j y, j < k + 1 → l[j]? = some y → ¬ y.id = i := by
  intro j y hj hy
  by_cases e : j = k
  · subst e; rw [hx] at hy; cases hy; exact hn
  · exact h j y (by omega) hy
theorem clash_take {l : List Inf} {i : Int} {k : Nat} (h : ∀ j y, j < k → l[j]? = some y → ¬ y.id = i) : clashB (l.take k) i = false := by
  refine clash_no fun j x hj hx => ?_
  rw [List.length_take] at hj
  rw [take_at (by omega)] at hx
  exact h j x (by omega) hx
def R2Inv (l : List Inf) (n : Nat) (w : World) (v : Value) (wr : World) : Prop :=
  ∃ k : Nat, k ≤ n ∧ v = .int .i64 (k : Nat) ∧ rightR (l.take k) = true ∧ Below w.heap.size w wr

end Go.Proofs.Ytlfmjinllffifaa

namespace Go.Proofs.Ytlfmjinllffifaa
set_option linter.unusedVariables false
set_option linter.unusedSimpArgs false
open Go.RowKit Vm Rm

/-- Nothing that was there has turned, but two blocks. -/
structure Kept2 (tb mb : Nat) (w w' : World) : Prop where
  os : w'.os = w.os
  tape : w'.tape = w.tape
  output : w'.output = w.output
  size : w.heap.size ≤ w'.heap.size
  block : ∀ i, i < w.heap.size → i ≠ tb → i ≠ mb → w'.heap[i]? = w.heap[i]?
theorem Kept2.refl (tb mb : Nat) (w : World) : Kept2 tb mb w w := ⟨rfl, rfl, rfl, Nat.le_refl _, fun _ _ _ _ => rfl⟩
theorem Kept2.trans {tb mb : Nat} {a b c : World} (h : Kept2 tb mb a b) (k : Kept2 tb mb b c) : Kept2 tb mb a c :=
  ⟨k.os.trans h.os, k.tape.trans h.tape, k.output.trans h.output, Nat.le_trans h.size k.size, fun i hi h1 h2 => (k.block i (Nat.lt_of_lt_of_le hi h.size) h1 h2).trans (h.block i hi h1 h2)⟩
theorem kept2_below {tb mb : Nat} {w w' : World} (h : Below w.heap.size w w') : Kept2 tb mb w w' := ⟨h.os, h.tape, h.output, h.size, fun i hi _ _ => h.block i hi⟩
theorem kept2_set {tb mb : Nat} (w : World) (c j : Nat) (v : Value) (h : c = tb ∨ c = mb) : Kept2 tb mb w (w.setCell ⟨c, j, none⟩ v) :=
  ⟨rfl, rfl, rfl, by show w.heap.size ≤ (w.heap.modify _ _).size; simp, fun i _ h1 h2 => Below.heap_setCell w ⟨c, j, none⟩ v i (by rcases h with rfl | rfl <;> assumption)⟩
theorem kept2_put4 {tb mb : Nat} (w : World) (r c b p : Int) : Kept2 tb mb w (put4 w tb r c b p) :=
  (((kept2_set w tb 0 _ (.inl rfl)).trans (kept2_set _ tb 1 _ (.inl rfl))).trans (kept2_set _ tb 2 _ (.inl rfl))).trans (kept2_set _ tb 3 _ (.inl rfl))
theorem Kept2.below {tb mb B : Nat} {a w w' : World} (h : Kept2 tb mb w w') (hb : Below B a w) (h1 : B ≤ tb) (h2 : B ≤ mb) (h3 : B ≤ w.heap.size) : Below B a w' :=
  ⟨h.os.trans hb.os, h.tape.trans hb.tape, h.output.trans hb.output, Nat.le_trans hb.size h.size, fun i hi => (h.block i (by omega) (by omega) (by omega)).trans (hb.block i hi)⟩

/-- A block of one cell. -/
def One (T : TypeId) (w : World) (b : Nat) (x : Value) : Prop := w.heap[b]? = some (.cells #[x] T (0, 0))
theorem One.lt {T : TypeId} {w : World} {b : Nat} {x : Value} (h : One T w b x) : b < w.heap.size := (Array.getElem?_eq_some_iff.1 h).1
theorem One.next {T : TypeId} {w w' : World} {b : Nat} {x : Value} (h : One T w b x) (hb : Below w.heap.size w w') : One T w' b x := (hb.block b h.lt).trans h
theorem One.cell {T : TypeId} {w : World} {b : Nat} {x : Value} (h : One T w b x) : w.cell? ⟨b, 0, none⟩ = some x := by
  unfold One at h
  simp [World.cell?, h]
theorem One.free {T : TypeId} {w : World} {b : Nat} {x : Value} (h : One T w b x) : w.frozen? ⟨b, 0, none⟩ = false := by
  unfold One at h
  simp [World.frozen?, h]
theorem One.put {T : TypeId} {w : World} {b : Nat} {x : Value} (h : One T w b x) (y : Value) : One T (w.setCell ⟨b, 0, none⟩ y) b y := by
  unfold One at h ⊢
  exact blk_set h rfl
theorem One.other {T : TypeId} {w : World} {b c : Nat} {x : Value} (h : One T w b x) (j : Nat) (v : Value) (hne : b ≠ c) : One T (w.setCell ⟨c, j, none⟩ v) b x := (Below.heap_setCell w ⟨c, j, none⟩ v b hne).trans h
theorem Blk.other {T : TypeId} {w : World} {b c : Nat} {x : Vc} (h : Blk T w b x) (j : Nat) (v : Value) (hne : b ≠ c) : Blk T (w.setCell ⟨c, j, none⟩ v) b x := (Below.heap_setCell w ⟨c, j, none⟩ v b hne).trans h
theorem One.put4 {T : TypeId} {w : World} {b n : Nat} {x : Value} (h : One T w b x) (r c br p : Int) (hne : b ≠ n) : One T (put4 w n r c br p) b x :=
  (((h.other 0 _ hne).other 1 _ hne).other 2 _ hne).other 3 _ hne
theorem one_new (T : TypeId) (w : World) (x : Value) : One T (w.alloc (.cells #[x] T)) w.heap.size x := heap_alloc_new w _

theorem taken_kept {bb pb : Nat} (w : World) (r c b p k : Int) : Kept2 bb pb w ((put4 w bb r c b p).setCell ⟨pb, 0, none⟩ (.int .i64 k)) :=
  (kept2_put4 w r c b p).trans (kept2_set _ pb 0 _ (.inr rfl))

end Go.Proofs.Ytlfmjinllffifaa

namespace Go.Proofs.Ytlfmjinllffifaa
set_option linter.unusedVariables false
set_option linter.unusedSimpArgs false
open Go.RowKit Vm Rm

theorem portI_some (j : Nat) : portI (some j) = (j : Int) := rfl
end Go.Proofs.Ytlfmjinllffifaa

namespace Go.Proofs.Ytlfmjinllffifaa
set_option linter.unusedVariables false
set_option linter.unusedSimpArgs false
open Go.RowKit Vm Rm

theorem infoInt : (Try.prog.info? 3).map (fun i => (i.zero, i.size, i.bytes)) = some (some (.int .i64 0), 1, 8) := by kernel_rfl
theorem infoVec : (Try.prog.info? 45).map (fun i => (i.zero, i.size, i.bytes)) = some (some (vv 0 0 0 0), 4, 32) := by kernel_rfl
def cellsI (l : List Int) : List Value := l.map (fun n => .int .i64 n)
def cellsV (l : List Vc) : List Value := l.flatMap (fun v => [.int .u64 v.root, .int .u64 v.cost, .int .u64 v.bridge, .int .u64 v.port])
theorem cellsI_length (l : List Int) : (cellsI l).length = l.length := by simp [cellsI]
theorem cellsV_length (l : List Vc) : (cellsV l).length = l.length * 4 := by
  induction l with
  | nil => rfl
  | cons v l ih =>
    have e : cellsV (v :: l) = [.int .u64 v.root, .int .u64 v.cost, .int .u64 v.bridge, .int .u64 v.port] ++ cellsV l := rfl
    rw [e, List.length_append, ih, List.length_cons]
    simp
    omega
theorem cellsI_add (l : List Int) (x : Int) : cellsI (l ++ [x]) = cellsI l ++ [.int .i64 x] := by simp [cellsI]
theorem cellsV_add (l : List Vc) (v : Vc) : cellsV (l ++ [v]) = cellsV l ++ [.int .u64 v.root, .int .u64 v.cost, .int .u64 v.bridge, .int .u64 v.port] := by simp [cellsV]
theorem cellsV_at {l : List Vc} {j : Nat} {v : Vc} (h : l[j]? = some v) (c : Nat) (hc : c < 4) : (cellsV l)[j * 4 + c]? = [Value.int .u64 v.root, .int .u64 v.cost, .int .u64 v.bridge, .int .u64 v.port][c]? := by
  induction l generalizing j with
  | nil => simp at h
  | cons y l ih =>
    have e : cellsV (y :: l) = [Value.int .u64 y.root, .int .u64 y.cost, .int .u64 y.bridge, .int .u64 y.port] ++ cellsV l := rfl
    rw [e]
    cases j with
    | zero =>
      simp at h
      subst h
      rw [List.getElem?_append_left (by simp; omega)]
      congr 1; omega
    | succ j =>
      rw [List.getElem?_append_right (by simp; omega)]
      have := ih (j := j) (by simpa using h)
      rw [← this]
      congr 1; simp; omega
/-- A row of ints; of vectors. -/
structure NRow (w : World) (a : Option Addr) (l : List Int) : Prop where
  at_ : ∀ j x, l[j]? = some x → ∃ g o : Nat, a = some ⟨g, o, none⟩ ∧ g < w.heap.size ∧ w.cell? ⟨g, o + j, none⟩ = some (.int .i64 x)
structure VRow (w : World) (a : Option Addr) (l : List Vc) : Prop where
  at_ : ∀ j x, l[j]? = some x → ∃ g o : Nat, a = some ⟨g, o, none⟩ ∧ g < w.heap.size ∧ w.cell? ⟨g, o + j * 4, none⟩ = some (.int .u64 x.root) ∧ w.cell? ⟨g, o + j * 4 + 1, none⟩ = some (.int .u64 x.cost) ∧ w.cell? ⟨g, o + j * 4 + 2, none⟩ = some (.int .u64 x.bridge) ∧ w.cell? ⟨g, o + j * 4 + 3, none⟩ = some (.int .u64 x.port)
theorem NRow.next {w w' : World} {a : Option Addr} {l : List Int} (h : NRow w a l) (hb : Below w.heap.size w w') : NRow w' a l :=
  ⟨fun j x hx => by obtain ⟨g, o, e, hg, k⟩ := h.at_ j x hx; exact ⟨g, o, e, Nat.lt_of_lt_of_le hg hb.size, (hb.cell (p := ⟨g, o + j, none⟩) hg).trans k⟩⟩
theorem VRow.next {w w' : World} {a : Option Addr} {l : List Vc} (h : VRow w a l) (hb : Below w.heap.size w w') : VRow w' a l :=
  ⟨fun j x hx => by
    obtain ⟨g, o, e, hg, k0, k1, k2, k3⟩ := h.at_ j x hx
    exact ⟨g, o, e, Nat.lt_of_lt_of_le hg hb.size, (hb.cell (p := ⟨g, o + j * 4, none⟩) hg).trans k0, (hb.cell (p := ⟨g, o + j * 4 + 1, none⟩) hg).trans k1, (hb.cell (p := ⟨g, o + j * 4 + 2, none⟩) hg).trans k2, (hb.cell (p := ⟨g, o + j * 4 + 3, none⟩) hg).trans k3⟩⟩
theorem nrow_owned {w : World} {base : Nat} {v : Value} {l : List Int} (h : w.ownsRow base 3 1 v l.length (cellsI l)) : ∃ (a : Option Addr) (cap : Nat), v = .slice a l.length cap ∧ NRow w a l ∧ ∀ x, a = some x → base ≤ x.block := by
  rcases h.2 with ⟨rfl, h0⟩ | ⟨g, cap, cur, rfl, hbg, hg, hnc, hcm, hcs, htake⟩
  · have : l = [] := List.eq_nil_of_length_eq_zero h0
    subst this
    exact ⟨none, 0, rfl, ⟨fun j x h => by simp at h⟩, fun x e => by cases e⟩
  · refine ⟨_, cap, rfl, ⟨fun j n hj => ⟨g, 0, rfl, (Array.getElem?_eq_some_iff.1 hg).1, ?_⟩⟩, fun x e => by cases e; exact hbg⟩
    have hjl := (List.getElem?_eq_some_iff.1 hj).1
    have hc := h.cellAt j (by omega)
    rw [Nat.zero_add, hc]
    simp [cellsI, hj]
theorem vrow_owned {w : World} {base : Nat} {v : Value} {l : List Vc} (h : w.ownsRow base 45 4 v l.length (cellsV l)) : ∃ (a : Option Addr) (cap : Nat), v = .slice a l.length cap ∧ VRow w a l ∧ ∀ x, a = some x → base ≤ x.block := by
  rcases h.2 with ⟨rfl, h0⟩ | ⟨g, cap, cur, rfl, hbg, hg, hnc, hcm, hcs, htake⟩
  · have : l = [] := List.eq_nil_of_length_eq_zero h0
    subst this
    exact ⟨none, 0, rfl, ⟨fun j x h => by simp at h⟩, fun x e => by cases e⟩
  · refine ⟨_, cap, rfl, ⟨fun j n hj => ⟨g, 0, rfl, (Array.getElem?_eq_some_iff.1 hg).1, ?_⟩⟩, fun x e => by cases e; exact hbg⟩
    have hjl := (List.getElem?_eq_some_iff.1 hj).1
    have key : ∀ c, c < 4 → w.cell? ⟨g, 0 + j * 4 + c, none⟩ = [Value.int .u64 n.root, .int .u64 n.cost, .int .u64 n.bridge, .int .u64 n.port][c]? := fun c hc => by
      have h1 := h.cellAt (j * 4 + c) (by omega)
      rw [cellsV_at hj c hc] at h1
      rw [Nat.zero_add]; exact h1
    exact ⟨key 0 (by omega), key 1 (by omega), key 2 (by omega), key 3 (by omega)⟩

/-! ### What Select answers -/
def offerR (br : Int) (v : Vc) (p : Inf) : Vc := ⟨v.root, v.cost, br, p.id⟩
def offersR (br : Int) (l : List Inf) : List Vc := l.map (offerR br (rootV br l))
def rolesN (br : Int) (l : List Inf) : Nat → List Int
  | 0 => []
  | k + 1 => rolesN br l k ++ (match l[k]? with | some p => [roleAt br l k p] | none => [])
theorem rolesN_succ {br : Int} {l : List Inf} {k : Nat} {p : Inf} (h : l[k]? = some p) : rolesN br l (k + 1) = rolesN br l k ++ [roleAt br l k p] := by rw [rolesN, h]
theorem rolesN_length (br : Int) (l : List Inf) : ∀ k, k ≤ l.length → (rolesN br l k).length = k
  | 0, _ => rfl
  | k + 1, h => by
    obtain ⟨p, hp⟩ := at_some (l := l) (k := k) (by omega)
    rw [rolesN_succ hp, List.length_append, rolesN_length br l k (by omega)]
    rfl
theorem rolesN_at {br : Int} {l : List Inf} {i : Nat} {p : Inf} (hp : l[i]? = some p) : ∀ k, k ≤ l.length → i < k → (rolesN br l k)[i]? = some (roleAt br l i p)
  | 0, _, h => by omega
  | k + 1, hk, h => by
    obtain ⟨q, hq⟩ := at_some (l := l) (k := k) (by omega)
    have hlen := rolesN_length br l k (by omega)
    rw [rolesN_succ hq]
    by_cases e : i = k
    · subst e
      rw [hp] at hq; cases hq
      rw [List.getElem?_append_right (by omega), hlen, Nat.sub_self]
      rfl
    · rw [List.getElem?_append_left (by omega)]
      exact rolesN_at hp k (by omega) (by omega)
theorem offers_succ {br : Int} {v : Vc} {l : List Inf} {k : Nat} {p : Inf} (h : l[k]? = some p) : (l.take (k + 1)).map (offerR br v) = (l.take k).map (offerR br v) ++ [⟨v.root, v.cost, br, p.id⟩] := by
  rw [take_next' h, List.map_append]; rfl
theorem offers_at {br : Int} {l : List Inf} {i : Nat} {p : Inf} (hp : l[i]? = some p) : (offersR br l)[i]? = some (offerR br (rootV br l) p) := by
  unfold offersR
  rw [List.getElem?_map, hp]; rfl
theorem offers_len (br : Int) (l : List Inf) : (offersR br l).length = l.length := by unfold offersR; rw [List.length_map]

/-! ### A result's block -/
abbrev res (r c b p P : Int) (rs os : Value) : Value := .agg #[.int .u64 r, .int .u64 c, .int .u64 b, .int .u64 p, .int .i64 P, rs, os]
/-- A block of seven, filled anew. -/
abbrev put7 (w : World) (n : Nat) (r c b p P : Int) (rs os : Value) : World := ((((put4 w n r c b p).setCell ⟨n, 4, none⟩ (.int .i64 P)).setCell ⟨n, 5, none⟩ rs).setCell ⟨n, 6, none⟩ os)
theorem below_put7 {B : Nat} {a w : World} (h : Below B a w) {n : Nat} (hn : B ≤ n) (r c b p P : Int) (rs os : Value) : Below B a (put7 w n r c b p P rs os) :=
  (((below_put4 h hn r c b p).setCell (p := ⟨n, 4, none⟩) hn _).setCell (p := ⟨n, 5, none⟩) hn _).setCell (p := ⟨n, 6, none⟩) hn _
theorem own_far {w : World} {base x : Nat} {T : TypeId} {s : Nat} {v : Value} {k : Nat} {xs : List Value} (h : w.ownsRow base T s v k xs) (hx : x < base) : some x ≠ v.ownBlock := by
  intro e
  have := (h.lt x e.symm).1
  omega
/-- Rows of two types lie in two blocks. -/
theorem own_apart {w : World} {base base' : Nat} {T T' : TypeId} {s s' : Nat} {v v' : Value} {k k' : Nat} {xs xs' : List Value} (h : w.ownsRow base T s v k xs) (h' : w.ownsRow base' T' s' v' k' xs') (hT : T ≠ T') : v.ownBlock = none ∨ v.ownBlock ≠ v'.ownBlock := by
  rcases h.2 with ⟨rfl, _⟩ | ⟨g, cap, cur, rfl, _, hg, _⟩
  · exact .inl rfl
  · right
    intro e
    rcases h'.2 with ⟨rfl, _⟩ | ⟨g', cap', cur', rfl, _, hg', _⟩
    · simp [Value.ownBlock] at e
    · simp [Value.ownBlock] at e
      subst e
      rw [hg] at hg'
      simp at hg'
      exact hT hg'.2
theorem grown_set (w : World) (b i : Nat) (v : Value) : w.grownBy (w.setCell ⟨b, i, none⟩ v) (some b) :=
  ⟨rfl, rfl, rfl, by show w.heap.size ≤ (w.heap.modify _ _).size; simp, fun k _ h => Below.heap_setCell w ⟨b, i, none⟩ v k (fun e => h (by rw [show k = b from e]))⟩

end Go.Proofs.Ytlfmjinllffifaa

namespace Go.Proofs.Ytlfmjinllffifaa
set_option linter.unusedVariables false
set_option linter.unusedSimpArgs false
open Go.RowKit Vm Rm

theorem own_put7 {w : World} {base n k s : Nat} {T : TypeId} {v : Value} {xs : List Value} (h : w.ownsRow base T s v k xs) (hn : n < base) (r c b p P : Int) (rs os : Value) : (put7 w n r c b p P rs os).ownsRow base T s v k xs := by
  have key : ∀ (w : World) (j : Nat) (u : Value), w.ownsRow base T s v k xs → (w.setCell ⟨n, j, none⟩ u).ownsRow base T s v k xs := by
    intro w j u h
    refine h.kept (grown_set w n j u) ?_
    cases hv : v.ownBlock with
    | none => exact .inl rfl
    | some x => exact .inr (fun e => own_far h hn (e.symm.trans hv.symm))
  exact key _ _ _ (key _ _ _ (key _ _ _ (key _ _ _ (key _ _ _ (key _ _ _ (key _ _ _ h))))))
end Go.Proofs.Ytlfmjinllffifaa

namespace Go.Proofs.Ytlfmjinllffifaa
set_option linter.unusedVariables false
set_option linter.unusedSimpArgs false
open Go.RowKit Vm Rm

def seven (x : Inf) : List Value := [.int .u64 x.id, .int .u64 x.cost, .int .i64 x.source, .int .u64 x.vec.root, .int .u64 x.vec.cost, .int .u64 x.vec.bridge, .int .u64 x.vec.port]
def cellsP (l : List Inf) : List Value := l.flatMap seven
theorem cellsP_length (l : List Inf) : (cellsP l).length = l.length * 7 := by
  induction l with
  | nil => rfl
  | cons v l ih =>
    have e : cellsP (v :: l) = seven v ++ cellsP l := rfl
    rw [e, List.length_append, ih, List.length_cons]
    simp [seven]
    omega
theorem cellsP_add (l : List Inf) (x : Inf) : cellsP (l ++ [x]) = cellsP l ++ seven x := by simp [cellsP]
theorem cellsP_at {l : List Inf} {j : Nat} {x : Inf} (h : l[j]? = some x) (c : Nat) (hc : c < 7) : (cellsP l)[j * 7 + c]? = (seven x)[c]? := by
  induction l generalizing j with
  | nil => simp at h
  | cons y l ih =>
    have e : cellsP (y :: l) = seven y ++ cellsP l := rfl
    have ly : (seven y).length = 7 := rfl
    rw [e]
    cases j with
    | zero =>
      simp at h
      subst h
      rw [List.getElem?_append_left (by omega)]
      congr 1; omega
    | succ j =>
      rw [List.getElem?_append_right (by omega), ly]
      have := ih (j := j) (by simpa using h)
      rw [← this]
      congr 1; omega
theorem irow_owned {w : World} {base : Nat} {T : TypeId} {v : Value} {l : List Inf} (h : w.ownsRow base T 7 v l.length (cellsP l)) (hr : ∀ x ∈ l, InfOk x) : ∃ (a : Option Addr) (cap : Nat), v = .slice a l.length cap ∧ l.length ≤ cap ∧ IRow w a l := by
  rcases h.2 with ⟨rfl, h0⟩ | ⟨g, cap, cur, rfl, hbg, hg, hnc, hcm, hcs, htake⟩
  · have : l = [] := List.eq_nil_of_length_eq_zero h0
    subst this
    exact ⟨none, 0, rfl, Nat.le_refl _, ⟨fun j x h => by simp at h, hr⟩⟩
  · refine ⟨_, cap, rfl, hnc, ⟨fun j n hj => ⟨g, 0, rfl, (Array.getElem?_eq_some_iff.1 hg).1, ?_⟩, hr⟩⟩
    have hjl := (List.getElem?_eq_some_iff.1 hj).1
    have key : ∀ c, c < 7 → w.cell? ⟨g, 0 + j * 7 + c, none⟩ = (seven n)[c]? := fun c hc => by
      have h1 := h.cellAt (j * 7 + c) (by omega)
      rw [cellsP_at hj c hc] at h1
      rw [Nat.zero_add]; exact h1
    exact ⟨key 0 (by omega), key 1 (by omega), key 2 (by omega), key 3 (by omega), key 4 (by omega), key 5 (by omega), key 6 (by omega)⟩
theorem take_all {l : List Inf} {n : Nat} (h : l.length = n) : l.take n = l := by rw [← h, List.take_length]

end Go.Proofs.Ytlfmjinllffifaa
