/-
  Walks of layer 5 that layer 8 reaches: cmp.Compare, parts, Compare, Raise, addressText, Split.
-/
import Derived.Test.YtngdilmgbgdkcaaDoorRows
import Derived.Test.YtngdilmgbgdkcaaDoorVcMath
import Derived.Test.YtngdilmgbgdkcaaDoorBpMath
import Derived.WalkKit
import Derived.WalkSpells
import Derived.WalkLawsBesides
import Derived.Lib.Hide
import Derived.Deep.Light
import Derived.Lib.AppendStr
import Derived.Laws.IdiomStrings
import Derived.Deep.QuietTactic
import Derived.BigQuiet
import Derived.Deep.RegionWith
import Derived.Deep.RegionHeld3
import Derived.Deep.DeepCutAuto
import Derived.Lib.SmallJoins
import Derived.LoopN
namespace Go.Proofs.YtngdilmgbgdkcaaDoor
set_option linter.unusedVariables false
set_option linter.unusedSimpArgs false
open Go.RowKit Vm

theorem ret_bool {a b : Bool} (h : a = b) : Ending.returned (.bool a) = .returned (.bool b) := by rw [h]
theorem ret_int {k : IntKind} {a b : Int} (h : a = b) : Ending.returned (.int k a) = .returned (.int k b) := by rw [h]
theorem below_box (w : World) (o : Obj) : Below w.heap.size w (w.alloc o) := (Below.refl _ _).alloc (Nat.le_refl _) o
theorem size_box (w : World) (o : Obj) : (w.alloc o).heap.size = w.heap.size + 1 := by simp
theorem bw_trans {a b c : World} (h : Below a.heap.size a b) (k : Below b.heap.size b c) : Below a.heap.size a c := h.trans (k.mono h.size)
theorem bw_alloc {a b : World} (h : Below a.heap.size a b) (o : Obj) : Below a.heap.size a (b.alloc o) := h.alloc h.size o
abbrev vv (r c b p : Int) : Value := .agg #[.int .u64 r, .int .u64 c, .int .u64 b, .int .u64 p]
abbrev Vm.Vc.val (v : Vc) : Value := vv v.root v.cost v.bridge v.port
/-- Block b holds just these four numbers, as a block of type T, none of them frozen. -/
def Blk (T : TypeId) (w : World) (b : Nat) (x : Vc) : Prop :=
  w.heap[b]? = some (.cells #[.int .u64 x.root, .int .u64 x.cost, .int .u64 x.bridge, .int .u64 x.port] T (0, 0))
def Boxed (w : World) (b : Nat) (r c br p : Int) : Prop :=
  w.cell? ⟨b, 0, none⟩ = some (.int .u64 r) ∧ w.cell? ⟨b, 1, none⟩ = some (.int .u64 c) ∧ w.cell? ⟨b, 2, none⟩ = some (.int .u64 br) ∧ w.cell? ⟨b, 3, none⟩ = some (.int .u64 p)
theorem Blk.below {T : TypeId} {w w' : World} {b B : Nat} {x : Vc} (h : Blk T w b x) (hb : Below B w w') (hB : b < B) : Blk T w' b x := (hb.block b hB).trans h
theorem Blk.lt {T : TypeId} {w : World} {b : Nat} {x : Vc} (h : Blk T w b x) : b < w.heap.size := (Array.getElem?_eq_some_iff.1 h).1
theorem Blk.next {T : TypeId} {w w' : World} {b : Nat} {x : Vc} (h : Blk T w b x) (hb : Below w.heap.size w w') : Blk T w' b x := h.below hb h.lt
theorem blk_new (T : TypeId) (w : World) (r c b p : Int) : Blk T (w.alloc (.cells #[.int .u64 r, .int .u64 c, .int .u64 b, .int .u64 p] T)) w.heap.size ⟨r, c, b, p⟩ := heap_alloc_new w _
theorem Blk.cells {T : TypeId} {w : World} {b : Nat} {r c br p : Int} (H : Blk T w b ⟨r, c, br, p⟩) : Boxed w b r c br p := by
  unfold Blk at H
  refine ⟨?_, ?_, ?_, ?_⟩ <;> simp [World.cell?, H]
theorem Blk.free {T : TypeId} {w : World} {b : Nat} {x : Vc} (h : Blk T w b x) (j : Nat) : w.frozen? ⟨b, j, none⟩ = false := by
  unfold Blk at h
  simp [World.frozen?, h]
/-- The lowest bits of a number of 64 bits. -/
theorem u64_mask (n : Int) (k : Nat) (hk : k < 64) (h : u64B n) : bits .and .u64 n ((2 ^ k - 1 : Nat) : Int) = n % ((2 ^ k : Nat) : Int) := by
  obtain ⟨h0, h1⟩ := h
  obtain ⟨N, rfl⟩ := Int.eq_ofNat_of_zero_le h0
  have hp : 2 ^ k < 2 ^ 64 := Nat.pow_lt_pow_right (by omega) hk
  show IntKind.u64.wrap ((BitVec.ofInt 64 (N : Int) &&& BitVec.ofInt 64 ((2 ^ k - 1 : Nat) : Int)).toNat : Int) = _
  rw [BitVec.toNat_and, Bm.ofInt_any, Bm.ofInt_any, IntKind.wrap_u64]
  have e1 : ((N : Int) % 18446744073709551616).toNat = N := by omega
  have e2 : (((2 ^ k - 1 : Nat) : Int) % 18446744073709551616).toNat = 2 ^ k - 1 := by omega
  rw [e1, e2, Nat.and_two_pow_sub_one_eq_mod]
  have := Nat.mod_le N (2 ^ k)
  omega
theorem u64_sum (x y : Int) (k K : Nat) (hK : K = 2 ^ k) (hx : u64B x) (hd : x % (K : Int) = 0) (hy : 0 ≤ y ∧ y < (K : Int)) (hk : K ≤ 18446744073709551616) : bits .or .u64 x y = x + y := by
  obtain ⟨h0, h1⟩ := hx
  obtain ⟨X, rfl⟩ := Int.eq_ofNat_of_zero_le h0
  obtain ⟨Y, rfl⟩ := Int.eq_ofNat_of_zero_le hy.1
  have hY : Y < 2 ^ k := by omega
  have hX : X % 2 ^ k = 0 := by rw [← hK]; omega
  rw [Bm.u64_or_nat X Y (by omega) (by omega), nat_join k X Y hX hY]
  omega
theorem ret_pair {a b K E : Int} (h1 : a = K) (h2 : b = E) : Ending.returned (.tuple #[.int .u64 a, .int .i64 b]) = .returned (.tuple #[.int .u64 K, .int .i64 E]) := by rw [h1, h2]
theorem mask_48 (n : Int) (h : u64B n) : bits .and .u64 n 281474976710655 = n % 281474976710656 := u64_mask n 48 (by omega) h
theorem mask_12 (n : Int) (h : u64B n) : bits .and .u64 n 4095 = n % 4096 := u64_mask n 12 (by omega) h
theorem cmpN_rest (a b k : Int) : cmpN a b k = if cmpN a b 0 = 0 then k else cmpN a b 0 := by
  unfold cmpN
  repeat' split
  all_goals omega
theorem strCells_append (a b : ByteArray) : Lib.strCells (a ++ b) = Lib.strCells a ++ Lib.strCells b := by
  simp [Lib.strCells]
theorem byte_cell (N k : Nat) : Lib.strCells ⟨#[UInt8.ofNat (N / k % 256)]⟩ = [Value.int .u8 ((N : Int) / (k : Int) % 256)] := by
  simp only [Lib.strCells, List.map_cons, List.map_nil]
  congr 2
  rw [UInt8.toNat_ofNat']
  have : ((N / k % 256 : Nat) : Int) = (N : Int) / (k : Int) % 256 := by simp
  omega
theorem six_cells (N : Nat) : Lib.strCells (Bm.be N 6) = [Value.int .u8 ((N : Int) / 1099511627776 % 256), Value.int .u8 ((N : Int) / 4294967296 % 256), Value.int .u8 ((N : Int) / 16777216 % 256), Value.int .u8 ((N : Int) / 65536 % 256), Value.int .u8 ((N : Int) / 256 % 256), Value.int .u8 ((N : Int) % 256)] := by
  have h : Lib.strCells (Bm.be N 6) = Lib.strCells ⟨#[UInt8.ofNat (N / 256 ^ 5 % 256)]⟩ ++ (Lib.strCells ⟨#[UInt8.ofNat (N / 256 ^ 4 % 256)]⟩ ++ (Lib.strCells ⟨#[UInt8.ofNat (N / 256 ^ 3 % 256)]⟩ ++ (Lib.strCells ⟨#[UInt8.ofNat (N / 256 ^ 2 % 256)]⟩ ++ (Lib.strCells ⟨#[UInt8.ofNat (N / 256 ^ 1 % 256)]⟩ ++ (Lib.strCells ⟨#[UInt8.ofNat (N / 256 ^ 0 % 256)]⟩ ++ Lib.strCells ⟨#[]⟩))))) := by
    simp only [Bm.be, strCells_append]
  rw [h]
  simp only [byte_cell]
  simp [Lib.strCells]
end Go.Proofs.YtngdilmgbgdkcaaDoor
