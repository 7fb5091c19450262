/-
  Walks of layer 6: rightLength, taker and its closure.
-/
import Derived.Test.YtjabbbaiboaicaaPoE
namespace Go.Proofs.Ytjabbbaiboaicaa
set_option linter.unusedVariables false
set_option linter.unusedSimpArgs false
open Go.RowKit Fm Pm

set_option maxHeartbeats 1000000 in
theorem rightLength_any (s : ByteArray) (w : World) (hs : s.size ≤ maxLen) :
    Calls Try.prog 23 #[.string s] w fun e w' => e = .returned (.bool (lenB s)) ∧ w = w' := by
  unfold maxLen at hs
  by_cases h3 : s.size < 3
  · have hL : lenB s = false := by unfold lenB; rw [if_pos h3]
    have HL := Lib.hid hL; clear hL
    go_enter Try.func23, Try.ntmps23
    go_wp2
    go_ret
    exact ⟨ret_bool HL.out.symm, rfl⟩
  · have h0 := bt_get s 0 (by omega)
    by_cases hA : s[0].toNat = 65
    · have hL : lenB s = decide (s.size = 3) := by unfold lenB; rw [if_neg h3, if_pos (by omega)]
      have hd : ((s[0].toNat : Int) == 65) = true := by simp; omega
      have HL := Lib.hid hL; clear hL h0 hA
      go_enter Try.func23, Try.ntmps23
      go_wp2
      go_ret
      refine ⟨ret_bool ?_, rfl⟩
      rw [HL.out, Bool.eq_iff_iff]; simp; try omega
    · have hd : ((s[0].toNat : Int) == 65) = false := by simp; omega
      by_cases hT : s[0].toNat = 84 ∧ 4 ≤ s.size
      · obtain ⟨hT, h4⟩ := hT
        have h3b := bt_get s 3 (by omega)
        have hL : lenB s = decide ((s.size : Int) = (4 : Int) + (2 : Int) * (s[3].toNat : Int)) := by unfold lenB; rw [if_neg h3, if_neg (by omega), if_pos ⟨by omega, h4⟩, h3b]
        have hd2 : ((s[0].toNat : Int) == 84) = true := by simp; omega
        have HL := Lib.hid hL; clear hL h0 h3b hA hT
        go_enter Try.func23, Try.ntmps23
        go_wp2
        go_ret
        refine ⟨ret_bool ?_, rfl⟩
        rw [HL.out, wrap64_byte, Bool.eq_iff_iff]
        have hb := UInt8.toNat_lt s[3]
        obtain ⟨q, hq⟩ : ∃ q : Int, (s[3].toNat : Int) = q := ⟨_, rfl⟩
        rw [hq]
        have e1 : wrap64 (2 * q) = 2 * q := by unfold wrap64; omega
        have e2 : wrap64 (4 + 2 * q) = 4 + 2 * q := by unfold wrap64; omega
        rw [e1, e2]; simp
      · have hL : lenB s = false := by unfold lenB; rw [if_neg h3, if_neg (by omega), if_neg (by omega)]
        have HL := Lib.hid hL; clear hL h0
        by_cases hT0 : s[0].toNat = 84
        · have hd2 : ((s[0].toNat : Int) == 84) = true := by simp; omega
          have h4 : s.size < 4 := by omega
          clear hT hA hT0
          go_enter Try.func23, Try.ntmps23
          go_wp2
          go_ret
          exact ⟨ret_bool HL.out.symm, rfl⟩
        · have hd2 : ((s[0].toNat : Int) == 84) = false := by simp; omega
          clear hT hA hT0
          go_enter Try.func23, Try.ntmps23
          go_wp2
          go_ret
          exact ⟨ret_bool HL.out.symm, rfl⟩

/-- Block b holds just one value. -/
def One (T : TypeId) (w : World) (b : Nat) (v : Value) : Prop := w.heap[b]? = some (.cells #[v] T (0, 0))
theorem One.below {T : TypeId} {w w' : World} {b B : Nat} {v : Value} (h : One T w b v) (hb : Below B w w') (hB : b < B) : One T w' b v := (hb.block b hB).trans h
theorem One.lt {T : TypeId} {w : World} {b : Nat} {v : Value} (h : One T w b v) : b < w.heap.size := (Array.getElem?_eq_some_iff.1 h).1
theorem One.next {T : TypeId} {w w' : World} {b : Nat} {v : Value} (h : One T w b v) (hb : Below w.heap.size w w') : One T w' b v := h.below hb h.lt
theorem One.cell {T : TypeId} {w : World} {b : Nat} {v : Value} (h : One T w b v) : w.cell? ⟨b, 0, none⟩ = some v := by
  unfold One at h
  simp [World.cell?, h]
theorem One.free {T : TypeId} {w : World} {b : Nat} {v : Value} (h : One T w b v) (j : Nat) : w.frozen? ⟨b, j, none⟩ = false := by
  unfold One at h
  simp [World.frozen?, h]
theorem One.set {T : TypeId} {w : World} {b : Nat} {v : Value} (h : One T w b v) (u : Value) : One T (w.setCell ⟨b, 0, none⟩ u) b u := blk_set (i := 0) (x := u) (cs' := #[u]) h rfl
theorem One.other {T : TypeId} {w : World} {b : Nat} {v : Value} (h : One T w b v) {c : Nat} (i : Nat) (u : Value) (hne : b ≠ c) : One T (w.setCell ⟨c, i, none⟩ u) b v :=
  (Below.heap_setCell w ⟨c, i, none⟩ u b hne).trans h
theorem one_new (T : TypeId) (w : World) (v : Value) : One T (w.alloc (.cells #[v] T)) w.heap.size v := heap_alloc_new w _
theorem One.grown {T : TypeId} {w w' : World} {b : Nat} {r : Option Nat} {v : Value} (h : One T w b v) (hg : w.grownBy w' r) (hne : some b ≠ r) : One T w' b v := (hg.block b h.lt hne).trans h
theorem grown_set (w : World) (b i : Nat) (v : Value) : w.grownBy (w.setCell ⟨b, i, none⟩ v) (some b) :=
  ⟨rfl, rfl, rfl, by simp, fun k _ hk => Below.heap_setCell _ _ _ k (fun e => hk (by rw [e]))⟩

set_option maxHeartbeats 400000 in
theorem taker_any (s : ByteArray) (w : World) :
    Calls Try.prog 35 #[.string s] w fun e w' => e = .returned (.func (.func 38) #[] #[.pointer (some ⟨w.heap.size, 0, none⟩), .pointer (some ⟨w.heap.size + 1, 0, none⟩)]) ∧ One 9 w' w.heap.size (.string s) ∧ One 3 w' (w.heap.size + 1) (.int .i64 0) ∧ Below w.heap.size w w' ∧ w'.heap.size = w.heap.size + 2 := by
  have hmf : ∀ (fn : Fn) (first cap : Array Value) (w : World), (Instr.makeFunc fn first cap).run Try.prog w = .ok (.func fn first cap) w := fun _ _ _ _ => rfl
  go_enter Try.func35, Try.ntmps35
  go_wp2
  go_ret
  have o1 := one_new 9 w (.string s)
  have o2 := one_new 3 (w.alloc (.cells #[.string s] 9)) (.int .i64 0)
  refine ⟨rfl, o1.below (below_box _ _) o1.lt, ?_, bw_alloc (below_box _ _) _, by simp⟩
  simpa using o2

/-- Behind j rounds. -/
def TInv (s : ByteArray) (A k b1 b2 : Nat) (w : World) (n i : Value) (wr : World) : Prop :=
  ∃ j : Nat, j ≤ k ∧ n = .int .i64 (numK s A j) ∧ i = .int .i64 j ∧ One 9 wr b1 (.string s) ∧ One 3 wr b2 (.int .i64 ((A + j : Nat) : Int)) ∧ w.grownBy wr (some b2)

set_option maxHeartbeats 1000000 in
theorem take_any (s : ByteArray) (A k b1 b2 : Nat) (w : World) (h1 : One 9 w b1 (.string s)) (h2 : One 3 w b2 (.int .i64 (A : Int))) (hne : b1 ≠ b2) (hk : k ≤ 2) (hs : s.size ≤ maxLen) (hA : A + k ≤ s.size) :
    Calls Try.prog 38 #[.int .i64 k, .pointer (some ⟨b1, 0, none⟩), .pointer (some ⟨b2, 0, none⟩)] w fun e w' => e = .returned (.int .i64 (numK s A k)) ∧ One 9 w' b1 (.string s) ∧ One 3 w' b2 (.int .i64 ((A + k : Nat) : Int)) ∧ w.grownBy w' (some b2) := by
  unfold maxLen at hs
  go_enter Try.func38, Try.ntmps38
  go_wp2_with fail
  go_loopw [5, 7] (fun n i wr => TInv s A k b1 b2 w n i wr) (fun _ i _ => k - (intOf i).toNat)
  case atStart => exact ⟨0, Nat.zero_le _, rfl, rfl, h1, h2, World.grownBy.refl _ _⟩
  case round =>
    clear h1 h2
    obtain ⟨j, hj, rfl, rfl, o1, o2, hg⟩ := hrel
    by_cases hjk : j < k
    · have q1 := o1.cell
      have q2 := o2.cell
      have f2 := o2.free 0
      have hjs : A + j < s.size := by omega
      have hb := numK_bd s A j
      have hp : (256 : Int) ^ j ≤ 256 := by
        have : j = 0 ∨ j = 1 := by omega
        rcases this with rfl | rfl <;> decide
      obtain ⟨m, hm⟩ : ∃ m, numK s A j = m := ⟨_, rfl⟩
      rw [hm] at hb ⊢
      have hm0 : 0 ≤ m := hb.1
      have hm1 : m < 65536 := by omega
      have HM := Lib.hid hm
      clear hm hb hp
      have HJ := Lib.hid (join8 m s[A + j] hm0 hm1)
      have HB := Lib.hid (bt_get s (A + j) hjs)
      go_wp2
      refine ⟨⟨j + 1, by omega, ?_, by go_num, o1.other 0 _ hne, ?_, hg.trans (grown_set _ _ _ _)⟩, by simp [intOf]; omega⟩
      · rw [wrap64_byte, HJ.out, numK, HB.out, HM.out]
      · have e : ((A + (j + 1) : Nat) : Int) = (A : Int) + j + 1 := by omega
        rw [e]
        exact o2.set _
    · obtain rfl : j = k := by omega
      go_wp2
      go_ret
      exact ⟨rfl, o1, o2, hg⟩
theorem take_w (s : ByteArray) (A k b1 b2 : Nat) (kk N : Int) (w : World) (hkk : kk = (k : Int)) (hN : Hid (numK s A k = N)) (h1 : One 9 w b1 (.string s)) (h2 : One 3 w b2 (.int .i64 (A : Int))) (hne : b1 ≠ b2) (hk : k ≤ 2) (hs : s.size ≤ maxLen) (hA : A + k ≤ s.size) :
    Calls Try.prog 38 #[.int .i64 kk, .pointer (some ⟨b1, 0, none⟩), .pointer (some ⟨b2, 0, none⟩)] w fun e w' => e = .returned (.int .i64 N) ∧ One 9 w' b1 (.string s) ∧ One 3 w' b2 (.int .i64 ((A + k : Nat) : Int)) ∧ w.grownBy w' (some b2) := by
  subst hkk
  have H := take_any s A k b1 b2 w h1 h2 hne hk hs hA
  rw [hN.out] at H
  exact H
end Go.Proofs.Ytjabbbaiboaicaa
