/-
  Layer 10, as layer 11 asks it: what was heard, of a port and a BPDU that is right and no notice.
-/
import Derived.Test.YtngdilmgbgdkcaaDoorInF
namespace Go.Proofs.YtngdilmgbgdkcaaDoor
set_option linter.unusedVariables false
set_option linter.unusedSimpArgs false
open Go.RowKit Vm Rm Bm Im

/-- A port's timers, and how many it sent, are of their kinds. -/
structure TkOk (p : Pt) : Prop where
  fd : inI64 p.fd
  rr : inI64 p.rr
  rb : inI64 p.rb
  tc : inI64 p.tc
  edge : inI64 p.edge
  md : inI64 p.md
  info : inI64 p.info
  hello : inI64 p.hello
  txCount : inI64 p.txCount
/-- A port's numbers are of their kinds. -/
structure PtOk (p : Pt) : Prop where
  tk : TkOk p
  id : Vm.u64B p.id
  cost : Vm.u64B p.cost
  source : inI64 p.source
  vec : p.vec.ok
  age : inI64 p.times.age
/-- A BPDU's numbers are of their kinds. -/
structure BpOk (q : Bp) : Prop where
  root : Vm.u64B q.root
  cost : Vm.u64B q.cost
  bridge : Vm.u64B q.bridge
  port : Vm.u64B q.port
def bcells (q : Bp) : Array Value := #[.int .i64 q.kind, .int .i64 q.flags, .int .u64 q.root, .int .u64 q.cost, .int .u64 q.bridge, .int .u64 q.port, .int .i64 q.age, .int .i64 q.max, .int .i64 q.hello, .int .i64 q.delay]
theorem pb_is (T T' : TypeId) (w : World) (p : Pt) (q : Bp) : ∃ (W : World) (nb : Nat), Hid (((w.alloc (.cells (cellsT p) T)).alloc (.cells (bcells q) T')) = W) ∧ Hid (w.heap.size = nb) ∧ PtBlk T W nb p ∧ BBlk T' W (nb + 1) q ∧ Below nb w W := by
  refine ⟨_, _, Lib.hid rfl, Lib.hid rfl, ?_, ?_, ?_⟩
  · exact heap_alloc2_old w _ _
  · exact heap_alloc2_new w _ _
  · exact bw_alloc (below_box w _) _
/-- What a walk reads of a port's vector and times, and of a BPDU's. -/
def RdP (w : World) (b : Nat) (p : Pt) : Prop :=
  w.cell? ⟨b, 6, none⟩ = some (.int .u64 p.vec.root) ∧ w.cell? ⟨b, 7, none⟩ = some (.int .u64 p.vec.cost) ∧ w.cell? ⟨b, 8, none⟩ = some (.int .u64 p.vec.bridge) ∧ w.cell? ⟨b, 9, none⟩ = some (.int .u64 p.vec.port) ∧ w.cell? ⟨b, 10, none⟩ = some (.int .i64 p.times.age) ∧ w.cell? ⟨b, 11, none⟩ = some (.int .i64 p.times.max) ∧ w.cell? ⟨b, 12, none⟩ = some (.int .i64 p.times.hello) ∧ w.cell? ⟨b, 13, none⟩ = some (.int .i64 p.times.delay)
theorem PtBlk.rd {T : TypeId} {w : World} {b : Nat} {p : Pt} (h : PtBlk T w b p) : RdP w b p := ⟨h.c_vec_root, h.c_vec_cost, h.c_vec_bridge, h.c_vec_port, h.c_times_age, h.c_times_max, h.c_times_hello, h.c_times_delay⟩
theorem BBlk.rd {T : TypeId} {w : World} {b : Nat} {q : Bp} (h : BBlk T w b q) : BBoxed w b q.kind q.flags q.root q.cost q.bridge q.port q.age q.max q.hello q.delay := BBlk.cells (by cases q; exact h)
/-- What was heard of a designated port. -/
def desP (p : Pt) (q : Bp) : Int := if p.source = 3 ∧ vecOf q = p.vec ∧ timesOf q = p.times then 2 else if superB (vecOf q) p.vec = true then 1 else 3


end Go.Proofs.YtngdilmgbgdkcaaDoor
