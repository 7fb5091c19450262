/-
  Layer 11: Choose, where it may.
-/
import Derived.Test.YtngdilmgbgdkcaaDoorInT
namespace Go.Proofs.YtngdilmgbgdkcaaDoor
set_option linter.unusedVariables false
set_option linter.unusedSimpArgs false
open Go.RowKit Vm Rm Bm Im

theorem intOf_nat (k : Nat) : (intOf (Value.int .i64 ((k : Nat) : Int))).toNat = k := by simp [intOf]
def LInv (f : Nat → Pt → Pt) (l : List Pt) (n g : Nat) (wl : World) (i : Value) (wr : World) : Prop :=
  ∃ k : Nat, k ≤ n ∧ i = .int .i64 (k : Nat) ∧ WRow wr g (curL f l k) ∧ Kp g wl wr

end Go.Proofs.YtngdilmgbgdkcaaDoor
