/-
  Walks of layer 6: a set-up's block of memory, a row of ints; rightVlan, rightAllowed, Right; the document's in, Right.
-/
import Derived.Test.YtanciemiinbgmaaMiK
import Derived.Test.YtanciemiinbgmaaPoMath
import Derived.LoopN
namespace Go.Proofs.Ytanciemiinbgmaa
set_option linter.unusedVariables false
set_option linter.unusedSimpArgs false
open Go.RowKit Fm Pm

abbrev pv (t : Bool) (n : Int) (a : Option Addr) (len cap : Nat) : Value := .agg #[.bool t, .int .i64 n, .slice a len cap]
/-- Block b holds just this set-up's cells, as a block of type T, none of them frozen. -/
def PBlk (T : TypeId) (w : World) (b : Nat) (t : Bool) (n : Int) (a : Option Addr) (len cap : Nat) : Prop :=
  w.heap[b]? = some (.cells #[.bool t, .int .i64 n, .slice a len cap] T (0, 0))
theorem PBlk.below {T : TypeId} {w w' : World} {b B : Nat} {t : Bool} {n : Int} {a : Option Addr} {len cap : Nat} (h : PBlk T w b t n a len cap) (hb : Below B w w') (hB : b < B) : PBlk T w' b t n a len cap := (hb.block b hB).trans h
theorem PBlk.lt {T : TypeId} {w : World} {b : Nat} {t : Bool} {n : Int} {a : Option Addr} {len cap : Nat} (h : PBlk T w b t n a len cap) : b < w.heap.size := (Array.getElem?_eq_some_iff.1 h).1
theorem PBlk.next {T : TypeId} {w w' : World} {b : Nat} {t : Bool} {n : Int} {a : Option Addr} {len cap : Nat} (h : PBlk T w b t n a len cap) (hb : Below w.heap.size w w') : PBlk T w' b t n a len cap := h.below hb h.lt
theorem pblk_new (T : TypeId) (w : World) (t : Bool) (n : Int) (a : Option Addr) (len cap : Nat) : PBlk T (w.alloc (.cells #[.bool t, .int .i64 n, .slice a len cap] T)) w.heap.size t n a len cap := heap_alloc_new w _
theorem PBlk.cells {T : TypeId} {w : World} {b : Nat} {t : Bool} {n : Int} {a : Option Addr} {len cap : Nat} (H : PBlk T w b t n a len cap) :
    w.cell? ⟨b, 0, none⟩ = some (.bool t) ∧ w.cell? ⟨b, 1, none⟩ = some (.int .i64 n) ∧ w.cell? ⟨b, 2, none⟩ = some (.slice a len cap) := by
  unfold PBlk at H
  refine ⟨?_, ?_, ?_⟩ <;> simp [World.cell?, H]
theorem PBlk.free {T : TypeId} {w : World} {b : Nat} {t : Bool} {n : Int} {a : Option Addr} {len cap : Nat} (h : PBlk T w b t n a len cap) (j : Nat) : w.frozen? ⟨b, j, none⟩ = false := by
  unfold PBlk at h
  simp [World.frozen?, h]

/-- A row of ints, as it lies in memory. -/
structure IsRow (w : World) (a : Option Addr) (len : Nat) (l : List Int) : Prop where
  length : l.length = len
  bound : len ≤ maxLen
  at_ : ∀ k n, l[k]? = some n → ∃ x off : Nat, a = some ⟨x, off, none⟩ ∧ x < w.heap.size ∧ w.cell? ⟨x, off + k, none⟩ = some (.int .i64 n)
theorem IsRow.next {w w' : World} {a : Option Addr} {len : Nat} {l : List Int} (h : IsRow w a len l) (hb : Below w.heap.size w w') : IsRow w' a len l :=
  ⟨h.length, h.bound, fun k n hk => by
    obtain ⟨x, off, e, hx, hc⟩ := h.at_ k n hk
    exact ⟨x, off, e, Nat.lt_of_lt_of_le hx hb.size, (hb.cell (p := ⟨x, off + k, none⟩) hx).trans hc⟩⟩
theorem row_none (w : World) (a : Option Addr) : IsRow w a 0 [] := ⟨rfl, Nat.zero_le _, fun k n h => by simp at h⟩

set_option maxHeartbeats 400000 in
theorem rightVlan_any (n : Int) (w : World) :
    Calls Try.prog 38 #[.int .i64 n] w fun e w' => e = .returned (.bool (vlanB n)) ∧ w = w' := by
  go_enter Try.func38, Try.ntmps38
  go_wp2
  all_goals go_ret
  all_goals refine ⟨ret_bool ?_, rfl⟩
  all_goals (unfold vlanB; rw [Bool.eq_iff_iff]; simp; omega)

set_option maxHeartbeats 400000 in
theorem in_any (n : Int) (w : World) :
    Calls Try.prog 22 #[.int .i64 n] w fun e w' => e = .returned (.bool (vlanB n)) ∧ w = w' := by
  go_enter Try.func22, Try.ntmps22
  go_wp2
  all_goals go_ret
  all_goals refine ⟨ret_bool ?_, rfl⟩
  all_goals (unfold vlanB; rw [Bool.eq_iff_iff]; simp; omega)

/-- Behind j rounds. -/
def RInv (l : List Int) (len : Nat) (w : World) (last i : Value) (wr : World) : Prop :=
  ∃ (j : Nat) (m : Int), j ≤ len ∧ i = .int .i64 (j : Nat) ∧ last = .int .i64 m ∧ riseB 0 l = riseB m (l.drop j) ∧ w = wr

set_option maxHeartbeats 1000000 in
theorem allowed_any (a : Option Addr) (len cap : Nat) (l : List Int) (w : World) (h : IsRow w a len l) :
    Calls Try.prog 39 #[.slice a len cap] w fun e w' => e = .returned (.bool (riseB 0 l)) ∧ w = w' := by
  have hlen := h.length
  have hbd := h.bound
  have HA := Lib.hid h.at_
  clear h
  unfold maxLen at hbd
  go_enter Try.func39, Try.ntmps39
  go_wp2_with fail
  go_loopw [3, 8] (fun m i wr => RInv l len w m i wr) (fun _ i _ => len - (intOf i).toNat)
  case atStart => exact ⟨0, 0, Nat.zero_le _, rfl, rfl, rfl, rfl⟩
  case round =>
    obtain ⟨j, m, hj, rfl, rfl, hr, rfl⟩ := hrel
    have HR := Lib.hid hr; clear hr
    by_cases hjl : j < len
    · obtain ⟨n, hn⟩ := at_some (l := l) (k := j) (by omega)
      obtain ⟨x, off, rfl, hx, hc⟩ := HA.out j n hn
      have HD := Lib.hid (drop_at hn)
      clear hn
      cases hv : vlanB n with
      | false =>
        have hC := Lib.hid hv
        go_wp2_with (go_at_call 38; refine (rightVlan_any _ _).mono ?_; rintro e w' ⟨rfl, rfl⟩; rw [hC.out])
        go_ret
        refine ⟨ret_bool ?_, rfl⟩
        rw [HR.out, HD.out]
        simp [riseB, hC.out]
      | true =>
        have hC := Lib.hid hv
        go_wp2_with (go_at_call 38; refine (rightVlan_any _ _).mono ?_; rintro e w' ⟨rfl, rfl⟩; rw [hC.out])
        · go_ret
          refine ⟨ret_bool ?_, rfl⟩
          rw [HR.out, HD.out]
          simp [riseB, hC.out]
          omega
        · refine ⟨⟨j + 1, n, by omega, by go_num, rfl, ?_, rfl⟩, by simp [intOf]; omega⟩
          rw [HR.out, HD.out]
          have : m < n := by omega
          simp [riseB, hC.out, this]
    · obtain rfl : j = len := by omega
      go_wp2
      go_ret
      refine ⟨ret_bool ?_, rfl⟩
      rw [HR.out, List.drop_eq_nil_of_le (by omega)]
      rfl
end Go.Proofs.Ytanciemiinbgmaa
