/-
  What the walks of every layer share, without the functions that only layer 1's statements reach: bytes that a slice owns, a frame's block of memory, a row of bytes turned into a string.
-/
import Derived.Test.YtjabbbaiboaicaaFrA
import Derived.Lib.AppendStr
import Derived.Laws.IdiomStrings
import Derived.Deep.QuietTactic
import Derived.BigQuiet
import Derived.Deep.RegionWith
import Derived.Deep.RegionHeld3
import Derived.Deep.DeepCutAuto
import Derived.Lib.SmallJoins
namespace Go.Proofs.Ytjabbbaiboaicaa
set_option linter.unusedVariables false
set_option linter.unusedSimpArgs false
open Go.RowKit Fm

/-- The slice v owns, among the blocks from 'base' on, just the bytes of s. -/
def Buf (w : World) (base : Nat) (v : Value) (s : ByteArray) : Prop := w.ownsRow base 5 1 v s.size (Lib.strCells s)
theorem strCells_append (a b : ByteArray) : Lib.strCells (a ++ b) = Lib.strCells a ++ Lib.strCells b := by
  simp [Lib.strCells]
theorem byte_int (n : Int) (h0 : 0 ≤ n) (h1 : n < 256) : Value.int .u8 n = Value.int .u8 ((UInt8.ofNat n.toNat).toNat : Int) := by
  congr 1
  rw [UInt8.toNat_ofNat']
  omega

theorem w16_cells (n : Int) : [Value.int .u8 (n / 256 % 256), Value.int .u8 (n % 256)] = Lib.strCells (w16 n) := by
  rw [byte_int (n / 256 % 256) (by omega) (by omega), byte_int (n % 256) (by omega) (by omega)]
  rfl
theorem bytes_none (s : ByteArray) (h : s.size = 0) : s = ByteArray.empty := by
  obtain ⟨a⟩ := s
  obtain rfl : a = #[] := Array.eq_empty_of_size_eq_zero h
  rfl
/-- Owned bytes, turned into a string, are that string. -/
theorem buf_string {w : World} {base : Nat} {v : Value} {s : ByteArray} (h : Buf w base v s) :
    Sem.run Try.prog (convert 54 9 v) w = .ok (.string s) w := by
  obtain ⟨hl, h2⟩ := h
  rcases h2 with ⟨rfl, hn⟩ | ⟨g, cap, cur, rfl, hbg, hg, hnc, hcm, hcs, htake⟩
  · rw [run_convert_bytes_nil w 54 5 Try.underlying54 Try.underlying5 0 0 9 Try.underlying9]
    rw [bytes_none s hn]
  · have e : s.size = s.data.toList.length := by rw [Array.length_toList]; rfl
    have hb := run_convert_bytes_back (P := Try.prog) w 54 9 5 ⟨g, 0, none⟩ cap s.data.toList Try.underlying54 Try.underlying5 Try.underlying9 (by
      intro j hj
      rw [Addr.add_lit]
      have hc : w.cell? ⟨g, 0 + j, none⟩ = cur[j]? := by simp [World.cell?, hg]
      rw [hc]
      have ht : (cur.toList.take (s.size * 1))[j]? = (Lib.strCells s)[j]? := by rw [htake]
      rw [List.getElem?_take_of_lt (by omega)] at ht
      rw [← Array.getElem?_toList, ht]
      rw [Array.length_toList] at hj
      simp only [Lib.strCells, List.getElem?_map, Array.getElem?_toList, Array.getElem_toList]
      rw [Array.getElem?_eq_getElem hj]
      rfl)
    rw [← e] at hb
    rw [hb]
def Boxed (w : World) (b : Nat) (d s : ByteArray) (t : Bool) (p v ty : Int) (pl : ByteArray) : Prop :=
  w.cell? ⟨b, 0, none⟩ = some (.string d) ∧ w.cell? ⟨b, 1, none⟩ = some (.string s) ∧ w.cell? ⟨b, 2, none⟩ = some (.bool t) ∧ w.cell? ⟨b, 3, none⟩ = some (.int .i64 p) ∧ w.cell? ⟨b, 4, none⟩ = some (.int .i64 v) ∧ w.cell? ⟨b, 5, none⟩ = some (.int .i64 ty) ∧ w.cell? ⟨b, 6, none⟩ = some (.string pl)

theorem Boxed.below {w w' : World} {b B : Nat} {d s : ByteArray} {t : Bool} {p v ty : Int} {pl : ByteArray} (h : Boxed w b d s t p v ty pl) (hb : Below B w w') (hB : b < B) : Boxed w' b d s t p v ty pl := by
  obtain ⟨h0, h1, h2, h3, h4, h5, h6⟩ := h
  exact ⟨(hb.cell (p := ⟨b, 0, none⟩) hB).trans h0, (hb.cell (p := ⟨b, 1, none⟩) hB).trans h1, (hb.cell (p := ⟨b, 2, none⟩) hB).trans h2, (hb.cell (p := ⟨b, 3, none⟩) hB).trans h3, (hb.cell (p := ⟨b, 4, none⟩) hB).trans h4, (hb.cell (p := ⟨b, 5, none⟩) hB).trans h5, (hb.cell (p := ⟨b, 6, none⟩) hB).trans h6⟩

theorem boxed_new (w : World) (d s : ByteArray) (t : Bool) (p v ty : Int) (pl : ByteArray) (T : TypeId) :
    Boxed (w.alloc (.cells #[.string d, .string s, .bool t, .int .i64 p, .int .i64 v, .int .i64 ty, .string pl] T)) w.heap.size d s t p v ty pl := by
  refine ⟨?_, ?_, ?_, ?_, ?_, ?_, ?_⟩ <;> simp
theorem ret_int {k : IntKind} {a b : Int} (h : a = b) : Ending.returned (.int k a) = .returned (.int k b) := by rw [h]
theorem below_set7 {B b : Nat} {a w : World} (h : Below B a w) (hb : B ≤ b) (v0 v1 v2 v3 v4 v5 v6 : Value) :
    Below B a (((((((w.setCell ⟨b, 0, none⟩ v0).setCell ⟨b, 1, none⟩ v1).setCell ⟨b, 2, none⟩ v2).setCell ⟨b, 3, none⟩ v3).setCell ⟨b, 4, none⟩ v4).setCell ⟨b, 5, none⟩ v5).setCell ⟨b, 6, none⟩ v6) :=
  ((((((h.setCell hb v0).setCell hb v1).setCell hb v2).setCell hb v3).setCell hb v4).setCell hb v5).setCell hb v6
theorem below_drewN {B : Nat} {a w : World} (h : Below B a w) (n : Nat) : Below B a (w.drewN n) := ⟨h.os, h.tape, h.output, h.size, h.block⟩
/-- Block b holds just this frame's cells, none of them frozen. -/
def Blk (w : World) (b : Nat) (d s : ByteArray) (t : Bool) (p v ty : Int) (pl : ByteArray) : Prop :=
  w.heap[b]? = some (.cells #[.string d, .string s, .bool t, .int .i64 p, .int .i64 v, .int .i64 ty, .string pl] 26 (0, 0))
theorem Blk.below {w w' : World} {b B : Nat} {d s : ByteArray} {t : Bool} {p v ty : Int} {pl : ByteArray} (h : Blk w b d s t p v ty pl) (hb : Below B w w') (hB : b < B) : Blk w' b d s t p v ty pl :=
  (hb.block b hB).trans h
theorem blk_new (w : World) (d s : ByteArray) (t : Bool) (p v ty : Int) (pl : ByteArray) :
    Blk (w.alloc (.cells #[.string d, .string s, .bool t, .int .i64 p, .int .i64 v, .int .i64 ty, .string pl] 26)) w.heap.size d s t p v ty pl := heap_alloc_new w _
theorem Blk.cells {w : World} {b : Nat} {d s : ByteArray} {t : Bool} {p v ty : Int} {pl : ByteArray} (h : Blk w b d s t p v ty pl) : Boxed w b d s t p v ty pl := by
  unfold Blk at h
  refine ⟨?_, ?_, ?_, ?_, ?_, ?_, ?_⟩ <;> simp [World.cell?, h]
theorem Blk.free {w : World} {b : Nat} {d s : ByteArray} {t : Bool} {p v ty : Int} {pl : ByteArray} (h : Blk w b d s t p v ty pl) (j : Nat) : w.frozen? ⟨b, j, none⟩ = false := by
  unfold Blk at h
  simp [World.frozen?, h]
theorem Blk.lt {w : World} {b : Nat} {d s : ByteArray} {t : Bool} {p v ty : Int} {pl : ByteArray} (h : Blk w b d s t p v ty pl) : b < w.heap.size :=
  (Array.getElem?_eq_some_iff.1 h).1
theorem blk_set {w : World} {b i : Nat} {cs cs' : Array Value} {T : TypeId} {x : Value} (h : w.heap[b]? = some (.cells cs T (0, 0))) (hc : cs.setIfInBounds i x = cs') : (w.setCell ⟨b, i, none⟩ x).heap[b]? = some (.cells cs' T (0, 0)) := by
  rw [Joins.block_setCell h x, hc]
theorem Blk.set7 {w : World} {b : Nat} {d s : ByteArray} {t : Bool} {p v ty : Int} {pl : ByteArray} (h : Blk w b d s t p v ty pl) (d' s' : ByteArray) (t' : Bool) (p' v' ty' : Int) (pl' : ByteArray) :
    Blk (((((((w.setCell ⟨b, 0, none⟩ (.string d')).setCell ⟨b, 1, none⟩ (.string s')).setCell ⟨b, 2, none⟩ (.bool t')).setCell ⟨b, 3, none⟩ (.int .i64 p')).setCell ⟨b, 4, none⟩ (.int .i64 v')).setCell ⟨b, 5, none⟩ (.int .i64 ty')).setCell ⟨b, 6, none⟩ (.string pl')) b d' s' t' p' v' ty' pl' := by
  unfold Blk at h ⊢
  have h0 := blk_set (i := 0) (x := .string d') (cs' := #[.string d', .string s, .bool t, .int .i64 p, .int .i64 v, .int .i64 ty, .string pl]) h rfl
  have h1 := blk_set (i := 1) (x := .string s') (cs' := #[.string d', .string s', .bool t, .int .i64 p, .int .i64 v, .int .i64 ty, .string pl]) h0 rfl
  have h2 := blk_set (i := 2) (x := .bool t') (cs' := #[.string d', .string s', .bool t', .int .i64 p, .int .i64 v, .int .i64 ty, .string pl]) h1 rfl
  have h3 := blk_set (i := 3) (x := .int .i64 p') (cs' := #[.string d', .string s', .bool t', .int .i64 p', .int .i64 v, .int .i64 ty, .string pl]) h2 rfl
  have h4 := blk_set (i := 4) (x := .int .i64 v') (cs' := #[.string d', .string s', .bool t', .int .i64 p', .int .i64 v', .int .i64 ty, .string pl]) h3 rfl
  have h5 := blk_set (i := 5) (x := .int .i64 ty') (cs' := #[.string d', .string s', .bool t', .int .i64 p', .int .i64 v', .int .i64 ty', .string pl]) h4 rfl
  have h6 := blk_set (i := 6) (x := .string pl') (cs' := #[.string d', .string s', .bool t', .int .i64 p', .int .i64 v', .int .i64 ty', .string pl']) h5 rfl
  exact h6
/-- Two blocks of frames, one behind the other. -/
theorem blk_two (w : World) (d s : ByteArray) (t : Bool) (p v ty : Int) (pl : ByteArray) (d' s' : ByteArray) (t' : Bool) (p' v' ty' : Int) (pl' : ByteArray) :
    Blk ((w.alloc (.cells #[.string d, .string s, .bool t, .int .i64 p, .int .i64 v, .int .i64 ty, .string pl] 26)).alloc (.cells #[.string d', .string s', .bool t', .int .i64 p', .int .i64 v', .int .i64 ty', .string pl'] 26)) w.heap.size d s t p v ty pl ∧
    Blk ((w.alloc (.cells #[.string d, .string s, .bool t, .int .i64 p, .int .i64 v, .int .i64 ty, .string pl] 26)).alloc (.cells #[.string d', .string s', .bool t', .int .i64 p', .int .i64 v', .int .i64 ty', .string pl'] 26)) (w.heap.size + 1) d' s' t' p' v' ty' pl' := by
  refine ⟨(blk_new w d s t p v ty pl).below (below_box _ _) (by simp), ?_⟩
  have h := blk_new (w.alloc (.cells #[.string d, .string s, .bool t, .int .i64 p, .int .i64 v, .int .i64 ty, .string pl] 26)) d' s' t' p' v' ty' pl'
  have e : (w.alloc (.cells #[.string d, .string s, .bool t, .int .i64 p, .int .i64 v, .int .i64 ty, .string pl] 26)).heap.size = w.heap.size + 1 := by simp
  rw [e] at h
  exact h

theorem Blk.set24 {w : World} {b : Nat} {d s : ByteArray} {t : Bool} {p v ty : Int} {pl : ByteArray} (h : Blk w b d s t p v ty pl) (t' : Bool) (v' : Int) :
    Blk ((w.setCell ⟨b, 2, none⟩ (.bool t')).setCell ⟨b, 4, none⟩ (.int .i64 v')) b d s t' p v' ty pl := by
  unfold Blk at h ⊢
  have h3 := blk_set (i := 2) (x := .bool t') (cs' := #[.string d, .string s, .bool t', .int .i64 p, .int .i64 v, .int .i64 ty, .string pl]) h rfl
  have h4 := blk_set (i := 4) (x := .int .i64 v') (cs' := #[.string d, .string s, .bool t', .int .i64 p, .int .i64 v', .int .i64 ty, .string pl]) h3 rfl
  exact h4
theorem Blk.other {w : World} {b : Nat} {d s : ByteArray} {t : Bool} {p v ty : Int} {pl : ByteArray} (h : Blk w b d s t p v ty pl) {c : Nat} (i : Nat) (x : Value) (hne : b ≠ c) : Blk (w.setCell ⟨c, i, none⟩ x) b d s t p v ty pl :=
  (Below.heap_setCell w ⟨c, i, none⟩ x b hne).trans h

/-- A row of bytes that was just laid, turned into a string: any row. -/
theorem convLit (cs : Array Value) (s : ByteArray) (w : World) (hc : cs.toList = Lib.strCells s) (hn : cs.size = s.size) (hm : s.size ≤ maxLen) (n : Nat) (hns : n = s.size) :
    Sem.run Try.prog (convert 54 9 (.slice (some ⟨w.heap.size, 0, none⟩) n n)) (w.alloc (.cells cs 5)) = .ok (.string s) (w.alloc (.cells cs 5)) := by
  subst hns
  have ho := World.ownsRow_lit (base := 0) (e := 5) (size := 1) w cs s.size (Nat.zero_le _) (by unfold maxLen at hm ⊢; omega) (by omega)
  have hb : Buf (w.alloc (.cells cs 5)) 0 (.slice (some ⟨w.heap.size, 0, none⟩) s.size s.size) s := by
    unfold Buf
    rw [← hc]
    exact ho
  exact buf_string hb
end Go.Proofs.Ytjabbbaiboaicaa
