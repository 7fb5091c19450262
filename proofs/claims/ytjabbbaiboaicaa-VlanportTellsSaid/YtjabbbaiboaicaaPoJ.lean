/-
  Walks of layer 6: the document's Same, of set-ups that are the same.
-/
import Derived.Test.YtjabbbaiboaicaaPoB
namespace Go.Proofs.Ytjabbbaiboaicaa
set_option linter.unusedVariables false
set_option linter.unusedSimpArgs false
open Go.RowKit Fm Pm

/-- Behind j rounds. -/
def SInv (len : Nat) (w : World) (i : Value) (wr : World) : Prop := ∃ j : Nat, j ≤ len ∧ i = .int .i64 (j : Nat) ∧ Below w.heap.size w wr

set_option maxHeartbeats 2000000 in
theorem same_any (t : Bool) (n : Int) (a a' : Option Addr) (len len' cap cap' : Nat) (l : List Int) (w : World) (h : IsRow w a len l) (h' : IsRow w a' len' l) :
    Calls Try.prog 19 #[pv t n a len cap, pv t n a' len' cap'] w fun e w' => e = .returned (.bool true) ∧ Below w.heap.size w w' := by
  have hlen := h.length
  have hbd := h.bound
  unfold maxLen at hbd
  obtain rfl : len' = len := by rw [← h'.length, hlen]
  have PB := pblk_new 29 w t n a len' cap
  have BB := below_box w (.cells #[.bool t, .int .i64 n, .slice a len' cap] 29)
  obtain ⟨W1, hW1⟩ : ∃ W1, W1 = w.alloc (.cells #[.bool t, .int .i64 n, .slice a len' cap] 29) := ⟨_, rfl⟩
  have e1 : W1.heap.size = w.heap.size + 1 := by rw [hW1]; simp
  rw [← hW1] at PB BB
  have QB := pblk_new 29 W1 t n a' len' cap'
  have B2 := below_box W1 (.cells #[.bool t, .int .i64 n, .slice a' len' cap'] 29)
  obtain ⟨W, hW⟩ : ∃ W, W = W1.alloc (.cells #[.bool t, .int .i64 n, .slice a' len' cap'] 29) := ⟨_, rfl⟩
  rw [← hW] at QB B2
  rw [e1] at QB
  replace PB := PB.next B2
  have HI := (h.next BB).next B2
  have HI' := (h'.next BB).next B2
  replace BB := bw_trans BB B2
  clear h h' B2 e1
  go_enter Try.func19, Try.ntmps19
  go_upto_region 1 with (fail)
  rw [← hW1, ← hW]
  obtain ⟨b, hb⟩ : ∃ b, b = w.heap.size := ⟨_, rfl⟩
  rw [← hb] at PB QB ⊢
  clear hW hW1 hb
  have HA := Lib.hid HI.at_
  have HA' := Lib.hid HI'.at_
  have kk := PB.cells
  obtain ⟨k0, k1, k2⟩ := kk
  have kk := QB.cells
  obtain ⟨c0, c1, c2⟩ := kk
  go_wp2_with fail
  go_loopw [5] (fun i wr => SInv len' W i wr) (fun i _ => len' - (intOf i).toNat)
  case atStart => exact ⟨0, Nat.zero_le _, rfl, Below.refl _ _⟩
  case round =>
    clear k0 k1 k2 c0 c1 c2
    obtain ⟨j, hj, rfl, B1⟩ := hrel
    have kk := (PB.next B1).cells
    obtain ⟨k0, k1, k2⟩ := kk
    have kk := (QB.next B1).cells
    obtain ⟨c0, c1, c2⟩ := kk
    by_cases hjl : j < len'
    · obtain ⟨m, hm⟩ := at_some (l := l) (k := j) (by omega)
      obtain ⟨x, off, rfl, hx, hc0⟩ := HA.out j m hm
      obtain ⟨x', off', rfl, hx', hc1⟩ := HA'.out j m hm
      have hc := (B1.cell (p := ⟨x, off + j, none⟩) hx).trans hc0
      have hc' := (B1.cell (p := ⟨x', off' + j, none⟩) hx').trans hc1
      clear hc0 hc1 hm
      have hjl2 : (j : Int) < (len' : Int) := by omega
      go_wp2_with fail
      go_quiet (fail)
      go_wp2
      refine ⟨⟨j + 1, by omega, by go_num, below_drewN B1 _⟩, by simp [intOf]; omega⟩
    · obtain rfl : j = len' := by omega
      go_wp2
      go_ret
      exact ⟨rfl, bw_trans BB B1⟩
end Go.Proofs.Ytjabbbaiboaicaa
