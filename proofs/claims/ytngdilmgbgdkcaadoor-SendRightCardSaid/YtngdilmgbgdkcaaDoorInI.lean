/-
  Layer 11: giveWay, settle; what meet, answer and choose hand back.
-/
import Derived.Test.YtngdilmgbgdkcaaDoorInH
namespace Go.Proofs.YtngdilmgbgdkcaaDoor
set_option linter.unusedVariables false
set_option linter.unusedSimpArgs false
open Go.RowKit Vm Rm Bm Im

theorem size_set (w : World) (b j : Nat) (v : Value) : (w.setCell ⟨b, j, none⟩ v).heap.size = w.heap.size := by show (w.heap.modify _ _).size = _; rw [Array.size_modify]
abbrev put4t (w : World) (b : Nat) (x m h d : Int) : World :=
  ((((w.setCell ⟨b, 10, none⟩ (.int .i64 x)).setCell ⟨b, 11, none⟩ (.int .i64 m)).setCell ⟨b, 12, none⟩ (.int .i64 h)).setCell ⟨b, 13, none⟩ (.int .i64 d))
abbrev put4v (w : World) (b : Nat) (r c br q : Int) : World :=
  ((((w.setCell ⟨b, 6, none⟩ (.int .u64 r)).setCell ⟨b, 7, none⟩ (.int .u64 c)).setCell ⟨b, 8, none⟩ (.int .u64 br)).setCell ⟨b, 9, none⟩ (.int .u64 q))
structure Kp (b : Nat) (w w' : World) : Prop where
  os : w'.os = w.os
  tape : w'.tape = w.tape
  output : w'.output = w.output
  size : w.heap.size ≤ w'.heap.size
  block : ∀ i, i < w.heap.size → i ≠ b → w'.heap[i]? = w.heap[i]?
theorem Tn.kp {T : TypeId} {b : Nat} {X : Pt} {w w1 : World} (t : Tn T b X w w1) : Kp b w w1 := ⟨t.os, t.tape, t.output, t.size, t.block⟩
theorem Kp.set {b : Nat} {w w1 : World} (h : Kp b w w1) (j : Nat) (v : Value) : Kp b w (w1.setCell ⟨b, j, none⟩ v) :=
  ⟨h.os, h.tape, h.output, by rw [size_set]; exact h.size, fun i hi hn => (Below.heap_setCell w1 ⟨b, j, none⟩ v i hn).trans (h.block i hi hn)⟩
theorem Kp.tn {T : TypeId} {b : Nat} {X : Pt} {w w1 : World} (h : Kp b w w1) (k : PtBlk T w1 b X) : Tn T b X w w1 := ⟨k, h.os, h.tape, h.output, h.size, h.block⟩
theorem BBlk.drew {T : TypeId} {w : World} {b : Nat} {q : Bp} (h : BBlk T w b q) : BBlk T w.drew b q := h
theorem Tn.put4v {T : TypeId} {b : Nat} {X : Pt} {w w1 : World} (t : Tn T b X w w1) (r c br q : Int) : Tn T b { X with vec := ⟨r, c, br, q⟩ } w (put4v w1 b r c br q) :=
  ((((t.kp.set 6 _).set 7 _).set 8 _).set 9 _).tn (t.blk.s_vec r c br q)
theorem Tn.put4t {T : TypeId} {b : Nat} {X : Pt} {w w1 : World} (t : Tn T b X w w1) (x m h d : Int) : Tn T b { X with times := ⟨x, m, h, d⟩ } w (put4t w1 b x m h d) :=
  ((((t.kp.set 10 _).set 11 _).set 12 _).set 13 _).tn (t.blk.s_times x m h d)


end Go.Proofs.YtngdilmgbgdkcaaDoor
