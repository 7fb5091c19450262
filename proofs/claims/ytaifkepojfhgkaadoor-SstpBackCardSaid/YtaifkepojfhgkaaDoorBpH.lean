/-
  Walks of layer 3: heardKind, taker and its closure.
-/
import Derived.Test.YtaifkepojfhgkaaDoorBpW
namespace Go.Proofs.YtaifkepojfhgkaaDoor
set_option linter.unusedVariables false
set_option linter.unusedSimpArgs false
open Go.RowKit Bm

theorem byteN_get (s : ByteArray) (i : Nat) (h : i < s.size) : byteN s i = s[i].toNat := by
  have h' : i < s.data.size := h
  simp only [byteN, Array.getD, h', dif_pos]
  rfl

theorem ret_pair {a b K E : Int} (h1 : a = K) (h2 : b = E) : Ending.returned (.tuple #[.int .i64 a, .int .i64 b]) = .returned (.tuple #[.int .i64 K, .int .i64 E]) := by rw [h1, h2]

set_option maxHeartbeats 1000000 in
theorem heardKind_w (s : ByteArray) (w : World) (K E : Int) (hK : Hid (kindR s = (K, E))) (hs : s.size ≤ maxLen) :
    Calls Tryd.prog 23 #[.string s] w fun e w' => e = .returned (.tuple #[.int .i64 K, .int .i64 E]) ∧ w = w' := by
  unfold maxLen at hs
  have h := hK.out
  clear hK
  unfold kindR at h
  by_cases h4 : s.size < 4
  · rw [if_pos h4] at h
    simp at h
    obtain ⟨rfl, rfl⟩ := h
    go_enter Tryd.func23, Tryd.ntmps23
    go_wp2
    go_ret2
    exact ⟨rfl, rfl⟩
  · rw [if_neg h4] at h
    rw [byteN_get s 0 (by omega), byteN_get s 1 (by omega), byteN_get s 2 (by omega), byteN_get s 3 (by omega)] at h
    have HH := Lib.hid h
    clear h
    go_enter Tryd.func23, Tryd.ntmps23
    go_wp2
    all_goals go_light
    all_goals go_ret2
    all_goals (refine ⟨ret_pair ?_ ?_, rfl⟩ <;> (have h := HH.out; clear HH; simp only [bne_iff_ne, ne_eq, beq_iff_eq, bne_eq_false_iff_eq, beq_eq_false_iff_ne, decide_eq_true_eq, decide_eq_false_iff_not] at *))
    all_goals (repeat' split at h)
    all_goals (simp only [Prod.mk.injEq] at h; omega)

/-- Block b holds just one value. -/
def One (T : TypeId) (w : World) (b : Nat) (v : Value) : Prop := w.heap[b]? = some (.cells #[v] T (0, 0))
theorem One.below {T : TypeId} {w w' : World} {b B : Nat} {v : Value} (h : One T w b v) (hb : Below B w w') (hB : b < B) : One T w' b v := (hb.block b hB).trans h
theorem One.lt {T : TypeId} {w : World} {b : Nat} {v : Value} (h : One T w b v) : b < w.heap.size := (Array.getElem?_eq_some_iff.1 h).1
theorem One.cell {T : TypeId} {w : World} {b : Nat} {v : Value} (h : One T w b v) : w.cell? ⟨b, 0, none⟩ = some v := by
  unfold One at h
  simp [World.cell?, h]
theorem One.free {T : TypeId} {w : World} {b : Nat} {v : Value} (h : One T w b v) (j : Nat) : w.frozen? ⟨b, j, none⟩ = false := by
  unfold One at h
  simp [World.frozen?, h]
theorem One.set {T : TypeId} {w : World} {b : Nat} {v : Value} (h : One T w b v) (u : Value) : One T (w.setCell ⟨b, 0, none⟩ u) b u := blk_set (i := 0) (x := u) (cs' := #[u]) h rfl
theorem One.other {T : TypeId} {w : World} {b : Nat} {v : Value} (h : One T w b v) {c : Nat} (i : Nat) (u : Value) (hne : b ≠ c) : One T (w.setCell ⟨c, i, none⟩ u) b v :=
  (Below.heap_setCell w ⟨c, i, none⟩ u b hne).trans h
theorem one_new (T : TypeId) (w : World) (v : Value) : One T (w.alloc (.cells #[v] T)) w.heap.size v := heap_alloc_new w _
theorem One.grown {T : TypeId} {w w' : World} {b c : Nat} {v : Value} (h : One T w b v) (hg : w.grownBy w' (some c)) (hne : b ≠ c) : One T w' b v := (hg.block b h.lt (by simp; exact hne)).trans h
theorem Blk.grown {T : TypeId} {w w' : World} {b c : Nat} {x : Bp} (h : Blk T w b x) (hg : w.grownBy w' (some c)) (hne : b ≠ c) : Blk T w' b x := (hg.block b h.lt (by simp; exact hne)).trans h
theorem grown_set (w : World) (b i : Nat) (v : Value) : w.grownBy (w.setCell ⟨b, i, none⟩ v) (some b) :=
  ⟨rfl, rfl, rfl, by simp, fun k _ hk => Below.heap_setCell _ _ _ k (fun e => hk (by rw [e]))⟩
theorem grown_refl (w : World) (r : Option Nat) : w.grownBy w r := ⟨rfl, rfl, rfl, Nat.le_refl _, fun _ _ _ => rfl⟩
theorem grown_trans {a b c : World} {r : Option Nat} (h : a.grownBy b r) (k : b.grownBy c r) : a.grownBy c r :=
  ⟨k.os.trans h.os, k.tape.trans h.tape, k.output.trans h.output, Nat.le_trans h.size k.size, fun i hi hne => (k.block i (Nat.lt_of_lt_of_le hi h.size) hne).trans (h.block i hi hne)⟩

set_option maxHeartbeats 400000 in
theorem taker_any (s : ByteArray) (w : World) :
    Calls Tryd.prog 30 #[.string s] w fun e w' => e = .returned (.func (.func 31) #[] #[.pointer (some ⟨w.heap.size, 0, none⟩), .pointer (some ⟨w.heap.size + 1, 0, none⟩)]) ∧ One 9 w' w.heap.size (.string s) ∧ One 3 w' (w.heap.size + 1) (.int .i64 0) ∧ Below w.heap.size w w' ∧ w'.heap.size = w.heap.size + 2 := by
  have hmf : ∀ (fn : Fn) (first cap : Array Value) (w : World), (Instr.makeFunc fn first cap).run Tryd.prog w = .ok (.func fn first cap) w := fun _ _ _ _ => rfl
  go_enter Tryd.func30, Tryd.ntmps30
  go_wp2
  go_ret
  have o1 := one_new 9 w (.string s)
  have o2 := one_new 3 (w.alloc (.cells #[.string s] 9)) (.int .i64 0)
  refine ⟨rfl, o1.below (below_box _ _) o1.lt, ?_, bw_alloc (below_box _ _) _, by simp⟩
  simpa using o2

/-- Behind j rounds. -/
def TInv (s : ByteArray) (A k b1 b2 : Nat) (w : World) (n i : Value) (wr : World) : Prop :=
  ∃ j : Nat, j ≤ k ∧ n = .int .u64 (num s A j) ∧ i = .int .i64 j ∧ One 9 wr b1 (.string s) ∧ One 3 wr b2 (.int .i64 ((A + j : Nat) : Int)) ∧ w.grownBy wr (some b2)

set_option maxHeartbeats 1000000 in
theorem take_any (s : ByteArray) (A k b1 b2 : Nat) (w : World) (h1 : One 9 w b1 (.string s)) (h2 : One 3 w b2 (.int .i64 (A : Int))) (hne : b1 ≠ b2) (hk : k ≤ 8) (hs : s.size ≤ maxLen) (hA : A + k ≤ s.size) :
    Calls Tryd.prog 31 #[.int .i64 k, .pointer (some ⟨b1, 0, none⟩), .pointer (some ⟨b2, 0, none⟩)] w fun e w' => e = .returned (.int .u64 (num s A k)) ∧ One 9 w' b1 (.string s) ∧ One 3 w' b2 (.int .i64 ((A + k : Nat) : Int)) ∧ w.grownBy w' (some b2) := by
  unfold maxLen at hs
  go_enter Tryd.func31, Tryd.ntmps31
  go_wp2_with fail
  go_loopw [5, 7] (fun n i wr => TInv s A k b1 b2 w n i wr) (fun _ i _ => k - (intOf i).toNat)
  case atStart => exact ⟨0, Nat.zero_le _, rfl, rfl, h1, h2, grown_refl _ _⟩
  case round =>
    clear h1 h2
    obtain ⟨j, hj, rfl, rfl, o1, o2, hg⟩ := hrel
    by_cases hjk : j < k
    · have q1 := o1.cell
      have q2 := o2.cell
      have f2 := o2.free 0
      have hjs : A + j < s.size := by omega
      have hlt := num_lt s A j
      have hp : 256 ^ j ≤ 256 ^ 7 := Nat.pow_le_pow_right (by omega) (by omega)
      have HJ := Lib.hid (u64_join (num s A j) s[A + j] (by omega))
      have HB := Lib.hid (byteN_get s (A + j) hjs)
      go_wp2
      refine ⟨⟨j + 1, by omega, ?_, by go_num, o1.other 0 _ hne, ?_, grown_trans hg (grown_set _ _ _ _)⟩, by simp [intOf]; omega⟩
      · rw [HJ.out, num, HB.out]
      · have e : ((A + (j + 1) : Nat) : Int) = (A : Int) + j + 1 := by omega
        rw [e]
        exact o2.set _
    · obtain rfl : j = k := by omega
      go_wp2
      go_ret
      exact ⟨rfl, o1, o2, hg⟩
end Go.Proofs.YtaifkepojfhgkaaDoor
