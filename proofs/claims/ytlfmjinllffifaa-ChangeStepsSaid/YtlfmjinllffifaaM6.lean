/-
  Layer 12: a port in the midst of a row, which may be written; what turns in it.
  Layer 12: what is asked of one port, by its address.
  Layer 12: a seat; what is asked of all others; what is done to all.
  Layer 12: what is asked of a seat, and by the closures of a table of moves.
  Layer 12: the closures of a table of moves that ask.
  Layer 12: the closures of a table of moves that do: what turns in a port.
  Layer 12: agree, open; the closures that do more than one thing.
  Layer 12: a table of moves; what stands in the table of each role.
  Layer 12: the tables of each role, as they are made.
  Layer 12: the table of 0, 3 and 4.
  Layer 12: moves; moveIn.
  Layer 12: State; Move.
-/
import Derived.Test.YtlfmjinllffifaaM3
import Derived.Test.YtlfmjinllffifaaM1
import Derived.Test.YtlfmjinllffifaaM2
import Derived.Test.YtlfmjinllffifaaM4
import Derived.Laws.EntriesVeiled
namespace Go.Proofs.Ytlfmjinllffifaa
set_option linter.unusedVariables false
set_option linter.unusedSimpArgs false
open Go.RowKit Vm Rm Bm Im

/-- A port at cell q of block g. -/
structure PAt (w : World) (g q : Nat) (p : Pt) : Prop where
  lt : g < w.heap.size
  at_ : ∀ c v, (cellsT p)[c]? = some v → w.cell? ⟨g, q + c, none⟩ = some v
  free : ∀ j, j < 61 → w.frozen? ⟨g, q + j, none⟩ = false
section
variable {w w' : World} {g q : Nat} {p : Pt}
theorem PAt.next (h : PAt w g q p) (hb : Below w.heap.size w w') : PAt w' g q p :=
  ⟨Nat.lt_of_lt_of_le h.lt hb.size, fun c v hv => (hb.cell (p := ⟨g, q + c, none⟩) h.lt).trans (h.at_ c v hv), fun j hj => by
    have h0 := hb.block g h.lt
    have h1 := h.free j hj
    unfold World.frozen? at h1 ⊢
    simp only [h0]
    exact h1⟩
theorem PAt.s (h : PAt w g q p) (c : Nat) (x : Value) {p' : Pt} (hc : c < 61) (he : (cellsT p).setIfInBounds c x = cellsT p') : PAt (w.setCell ⟨g, q + c, none⟩ x) g q p' := by
  obtain ⟨u, hu⟩ : ∃ u, (cellsT p)[c]? = some u := ⟨(cellsT p)[c]'(by rw [cellsT_size]; exact hc), Array.getElem?_eq_getElem _⟩
  refine ⟨by rw [size_set]; exact h.lt, fun j v hv => ?_, fun j hj => by rw [World.frozen?_setCell]; exact h.free j hj⟩
  rw [← he] at hv
  by_cases hj : c = j
  · subst hj
    rw [Array.getElem?_setIfInBounds_self_of_lt (by rw [cellsT_size]; exact hc)] at hv
    cases hv
    exact World.cell?_setCell_same w _ _ (h.at_ c u hu)
  · rw [Array.getElem?_setIfInBounds_ne hj] at hv
    rw [World.cell?_setCell_other w _ _ _ (fun e => hj (by have := congrArg Addr.off e; simpa using this))]
    exact h.at_ j v hv
theorem PAt.free' (h : PAt w g q p) (j : Nat) (hj : j < 61) : w.frozen? ⟨g, q + j, none⟩ = false := h.free j hj
theorem PAt.c_id (h : PAt w g q p) : w.cell? ⟨g, q, none⟩ = some (.int .u64 p.id) := h.at_ 0 _ rfl
theorem PAt.c_cost (h : PAt w g q p) : w.cell? ⟨g, q + 1, none⟩ = some (.int .u64 p.cost) := h.at_ 1 _ rfl
theorem PAt.c_on (h : PAt w g q p) : w.cell? ⟨g, q + 2, none⟩ = some (.bool p.on) := h.at_ 2 _ rfl
theorem PAt.c_admin (h : PAt w g q p) : w.cell? ⟨g, q + 3, none⟩ = some (.bool p.admin) := h.at_ 3 _ rfl
theorem PAt.c_oper (h : PAt w g q p) : w.cell? ⟨g, q + 4, none⟩ = some (.bool p.oper) := h.at_ 4 _ rfl
theorem PAt.c_source (h : PAt w g q p) : w.cell? ⟨g, q + 5, none⟩ = some (.int .i64 p.source) := h.at_ 5 _ rfl
theorem PAt.c_vec_root (h : PAt w g q p) : w.cell? ⟨g, q + 6, none⟩ = some (.int .u64 p.vec.root) := h.at_ 6 _ rfl
theorem PAt.c_vec_cost (h : PAt w g q p) : w.cell? ⟨g, q + 7, none⟩ = some (.int .u64 p.vec.cost) := h.at_ 7 _ rfl
theorem PAt.c_vec_bridge (h : PAt w g q p) : w.cell? ⟨g, q + 8, none⟩ = some (.int .u64 p.vec.bridge) := h.at_ 8 _ rfl
theorem PAt.c_vec_port (h : PAt w g q p) : w.cell? ⟨g, q + 9, none⟩ = some (.int .u64 p.vec.port) := h.at_ 9 _ rfl
theorem PAt.c_times_age (h : PAt w g q p) : w.cell? ⟨g, q + 10, none⟩ = some (.int .i64 p.times.age) := h.at_ 10 _ rfl
theorem PAt.c_times_max (h : PAt w g q p) : w.cell? ⟨g, q + 11, none⟩ = some (.int .i64 p.times.max) := h.at_ 11 _ rfl
theorem PAt.c_times_hello (h : PAt w g q p) : w.cell? ⟨g, q + 12, none⟩ = some (.int .i64 p.times.hello) := h.at_ 12 _ rfl
theorem PAt.c_times_delay (h : PAt w g q p) : w.cell? ⟨g, q + 13, none⟩ = some (.int .i64 p.times.delay) := h.at_ 13 _ rfl
theorem PAt.c_offer_root (h : PAt w g q p) : w.cell? ⟨g, q + 14, none⟩ = some (.int .u64 p.offer.root) := h.at_ 14 _ rfl
theorem PAt.c_offer_cost (h : PAt w g q p) : w.cell? ⟨g, q + 15, none⟩ = some (.int .u64 p.offer.cost) := h.at_ 15 _ rfl
theorem PAt.c_offer_bridge (h : PAt w g q p) : w.cell? ⟨g, q + 16, none⟩ = some (.int .u64 p.offer.bridge) := h.at_ 16 _ rfl
theorem PAt.c_offer_port (h : PAt w g q p) : w.cell? ⟨g, q + 17, none⟩ = some (.int .u64 p.offer.port) := h.at_ 17 _ rfl
theorem PAt.c_given_age (h : PAt w g q p) : w.cell? ⟨g, q + 18, none⟩ = some (.int .i64 p.given.age) := h.at_ 18 _ rfl
theorem PAt.c_given_max (h : PAt w g q p) : w.cell? ⟨g, q + 19, none⟩ = some (.int .i64 p.given.max) := h.at_ 19 _ rfl
theorem PAt.c_given_hello (h : PAt w g q p) : w.cell? ⟨g, q + 20, none⟩ = some (.int .i64 p.given.hello) := h.at_ 20 _ rfl
theorem PAt.c_given_delay (h : PAt w g q p) : w.cell? ⟨g, q + 21, none⟩ = some (.int .i64 p.given.delay) := h.at_ 21 _ rfl
theorem PAt.c_role (h : PAt w g q p) : w.cell? ⟨g, q + 22, none⟩ = some (.int .i64 p.role) := h.at_ 22 _ rfl
theorem PAt.c_selected (h : PAt w g q p) : w.cell? ⟨g, q + 23, none⟩ = some (.int .i64 p.selected) := h.at_ 23 _ rfl
theorem PAt.c_ready (h : PAt w g q p) : w.cell? ⟨g, q + 24, none⟩ = some (.bool p.ready) := h.at_ 24 _ rfl
theorem PAt.c_update (h : PAt w g q p) : w.cell? ⟨g, q + 25, none⟩ = some (.bool p.update) := h.at_ 25 _ rfl
theorem PAt.c_reselect (h : PAt w g q p) : w.cell? ⟨g, q + 26, none⟩ = some (.bool p.reselect) := h.at_ 26 _ rfl
theorem PAt.c_learn (h : PAt w g q p) : w.cell? ⟨g, q + 27, none⟩ = some (.bool p.learn) := h.at_ 27 _ rfl
theorem PAt.c_learning (h : PAt w g q p) : w.cell? ⟨g, q + 28, none⟩ = some (.bool p.learning) := h.at_ 28 _ rfl
theorem PAt.c_forward (h : PAt w g q p) : w.cell? ⟨g, q + 29, none⟩ = some (.bool p.forward) := h.at_ 29 _ rfl
theorem PAt.c_forwarding (h : PAt w g q p) : w.cell? ⟨g, q + 30, none⟩ = some (.bool p.forwarding) := h.at_ 30 _ rfl
theorem PAt.c_agree (h : PAt w g q p) : w.cell? ⟨g, q + 31, none⟩ = some (.bool p.agree) := h.at_ 31 _ rfl
theorem PAt.c_agreed (h : PAt w g q p) : w.cell? ⟨g, q + 32, none⟩ = some (.bool p.agreed) := h.at_ 32 _ rfl
theorem PAt.c_proposed (h : PAt w g q p) : w.cell? ⟨g, q + 33, none⟩ = some (.bool p.proposed) := h.at_ 33 _ rfl
theorem PAt.c_proposing (h : PAt w g q p) : w.cell? ⟨g, q + 34, none⟩ = some (.bool p.proposing) := h.at_ 34 _ rfl
theorem PAt.c_sync (h : PAt w g q p) : w.cell? ⟨g, q + 35, none⟩ = some (.bool p.sync) := h.at_ 35 _ rfl
theorem PAt.c_synced (h : PAt w g q p) : w.cell? ⟨g, q + 36, none⟩ = some (.bool p.synced) := h.at_ 36 _ rfl
theorem PAt.c_reroot (h : PAt w g q p) : w.cell? ⟨g, q + 37, none⟩ = some (.bool p.reroot) := h.at_ 37 _ rfl
theorem PAt.c_disputed (h : PAt w g q p) : w.cell? ⟨g, q + 38, none⟩ = some (.bool p.disputed) := h.at_ 38 _ rfl
theorem PAt.c_newInfo (h : PAt w g q p) : w.cell? ⟨g, q + 39, none⟩ = some (.bool p.newInfo) := h.at_ 39 _ rfl
theorem PAt.c_heardTc (h : PAt w g q p) : w.cell? ⟨g, q + 40, none⟩ = some (.bool p.heardTc) := h.at_ 40 _ rfl
theorem PAt.c_heardTcn (h : PAt w g q p) : w.cell? ⟨g, q + 41, none⟩ = some (.bool p.heardTcn) := h.at_ 41 _ rfl
theorem PAt.c_heardAck (h : PAt w g q p) : w.cell? ⟨g, q + 42, none⟩ = some (.bool p.heardAck) := h.at_ 42 _ rfl
theorem PAt.c_tcAck (h : PAt w g q p) : w.cell? ⟨g, q + 43, none⟩ = some (.bool p.tcAck) := h.at_ 43 _ rfl
theorem PAt.c_tcProp (h : PAt w g q p) : w.cell? ⟨g, q + 44, none⟩ = some (.bool p.tcProp) := h.at_ 44 _ rfl
theorem PAt.c_flush (h : PAt w g q p) : w.cell? ⟨g, q + 45, none⟩ = some (.bool p.flush) := h.at_ 45 _ rfl
theorem PAt.c_sendRstp (h : PAt w g q p) : w.cell? ⟨g, q + 46, none⟩ = some (.bool p.sendRstp) := h.at_ 46 _ rfl
theorem PAt.c_heardRstp (h : PAt w g q p) : w.cell? ⟨g, q + 47, none⟩ = some (.bool p.heardRstp) := h.at_ 47 _ rfl
theorem PAt.c_heardStp (h : PAt w g q p) : w.cell? ⟨g, q + 48, none⟩ = some (.bool p.heardStp) := h.at_ 48 _ rfl
theorem PAt.c_check (h : PAt w g q p) : w.cell? ⟨g, q + 49, none⟩ = some (.bool p.check) := h.at_ 49 _ rfl
theorem PAt.c_fd (h : PAt w g q p) : w.cell? ⟨g, q + 50, none⟩ = some (.int .i64 p.fd) := h.at_ 50 _ rfl
theorem PAt.c_rr (h : PAt w g q p) : w.cell? ⟨g, q + 51, none⟩ = some (.int .i64 p.rr) := h.at_ 51 _ rfl
theorem PAt.c_rb (h : PAt w g q p) : w.cell? ⟨g, q + 52, none⟩ = some (.int .i64 p.rb) := h.at_ 52 _ rfl
theorem PAt.c_tc (h : PAt w g q p) : w.cell? ⟨g, q + 53, none⟩ = some (.int .i64 p.tc) := h.at_ 53 _ rfl
theorem PAt.c_edge (h : PAt w g q p) : w.cell? ⟨g, q + 54, none⟩ = some (.int .i64 p.edge) := h.at_ 54 _ rfl
theorem PAt.c_md (h : PAt w g q p) : w.cell? ⟨g, q + 55, none⟩ = some (.int .i64 p.md) := h.at_ 55 _ rfl
theorem PAt.c_info (h : PAt w g q p) : w.cell? ⟨g, q + 56, none⟩ = some (.int .i64 p.info) := h.at_ 56 _ rfl
theorem PAt.c_hello (h : PAt w g q p) : w.cell? ⟨g, q + 57, none⟩ = some (.int .i64 p.hello) := h.at_ 57 _ rfl
theorem PAt.c_txCount (h : PAt w g q p) : w.cell? ⟨g, q + 58, none⟩ = some (.int .i64 p.txCount) := h.at_ 58 _ rfl
theorem PAt.c_change (h : PAt w g q p) : w.cell? ⟨g, q + 59, none⟩ = some (.int .i64 p.change) := h.at_ 59 _ rfl
theorem PAt.c_migrate (h : PAt w g q p) : w.cell? ⟨g, q + 60, none⟩ = some (.int .i64 p.migrate) := h.at_ 60 _ rfl
theorem PAt.s_id (h : PAt w g q p) (x : Int) : PAt (w.setCell ⟨g, q, none⟩ (.int .u64 x)) g q { p with id := x } := h.s 0 _ (by omega) rfl
theorem PAt.f_id (h : PAt w g q p) : w.frozen? ⟨g, q, none⟩ = false := h.free 0 (by omega)
theorem PAt.s_cost (h : PAt w g q p) (x : Int) : PAt (w.setCell ⟨g, q + 1, none⟩ (.int .u64 x)) g q { p with cost := x } := h.s 1 _ (by omega) rfl
theorem PAt.f_cost (h : PAt w g q p) : w.frozen? ⟨g, q + 1, none⟩ = false := h.free 1 (by omega)
theorem PAt.s_on (h : PAt w g q p) (x : Bool) : PAt (w.setCell ⟨g, q + 2, none⟩ (.bool x)) g q { p with on := x } := h.s 2 _ (by omega) rfl
theorem PAt.f_on (h : PAt w g q p) : w.frozen? ⟨g, q + 2, none⟩ = false := h.free 2 (by omega)
theorem PAt.s_admin (h : PAt w g q p) (x : Bool) : PAt (w.setCell ⟨g, q + 3, none⟩ (.bool x)) g q { p with admin := x } := h.s 3 _ (by omega) rfl
theorem PAt.f_admin (h : PAt w g q p) : w.frozen? ⟨g, q + 3, none⟩ = false := h.free 3 (by omega)
theorem PAt.s_oper (h : PAt w g q p) (x : Bool) : PAt (w.setCell ⟨g, q + 4, none⟩ (.bool x)) g q { p with oper := x } := h.s 4 _ (by omega) rfl
theorem PAt.f_oper (h : PAt w g q p) : w.frozen? ⟨g, q + 4, none⟩ = false := h.free 4 (by omega)
theorem PAt.s_source (h : PAt w g q p) (x : Int) : PAt (w.setCell ⟨g, q + 5, none⟩ (.int .i64 x)) g q { p with source := x } := h.s 5 _ (by omega) rfl
theorem PAt.f_source (h : PAt w g q p) : w.frozen? ⟨g, q + 5, none⟩ = false := h.free 5 (by omega)
theorem PAt.s_role (h : PAt w g q p) (x : Int) : PAt (w.setCell ⟨g, q + 22, none⟩ (.int .i64 x)) g q { p with role := x } := h.s 22 _ (by omega) rfl
theorem PAt.f_role (h : PAt w g q p) : w.frozen? ⟨g, q + 22, none⟩ = false := h.free 22 (by omega)
theorem PAt.s_selected (h : PAt w g q p) (x : Int) : PAt (w.setCell ⟨g, q + 23, none⟩ (.int .i64 x)) g q { p with selected := x } := h.s 23 _ (by omega) rfl
theorem PAt.f_selected (h : PAt w g q p) : w.frozen? ⟨g, q + 23, none⟩ = false := h.free 23 (by omega)
theorem PAt.s_ready (h : PAt w g q p) (x : Bool) : PAt (w.setCell ⟨g, q + 24, none⟩ (.bool x)) g q { p with ready := x } := h.s 24 _ (by omega) rfl
theorem PAt.f_ready (h : PAt w g q p) : w.frozen? ⟨g, q + 24, none⟩ = false := h.free 24 (by omega)
theorem PAt.s_update (h : PAt w g q p) (x : Bool) : PAt (w.setCell ⟨g, q + 25, none⟩ (.bool x)) g q { p with update := x } := h.s 25 _ (by omega) rfl
theorem PAt.f_update (h : PAt w g q p) : w.frozen? ⟨g, q + 25, none⟩ = false := h.free 25 (by omega)
theorem PAt.s_reselect (h : PAt w g q p) (x : Bool) : PAt (w.setCell ⟨g, q + 26, none⟩ (.bool x)) g q { p with reselect := x } := h.s 26 _ (by omega) rfl
theorem PAt.f_reselect (h : PAt w g q p) : w.frozen? ⟨g, q + 26, none⟩ = false := h.free 26 (by omega)
theorem PAt.s_learn (h : PAt w g q p) (x : Bool) : PAt (w.setCell ⟨g, q + 27, none⟩ (.bool x)) g q { p with learn := x } := h.s 27 _ (by omega) rfl
theorem PAt.f_learn (h : PAt w g q p) : w.frozen? ⟨g, q + 27, none⟩ = false := h.free 27 (by omega)
theorem PAt.s_learning (h : PAt w g q p) (x : Bool) : PAt (w.setCell ⟨g, q + 28, none⟩ (.bool x)) g q { p with learning := x } := h.s 28 _ (by omega) rfl
theorem PAt.f_learning (h : PAt w g q p) : w.frozen? ⟨g, q + 28, none⟩ = false := h.free 28 (by omega)
theorem PAt.s_forward (h : PAt w g q p) (x : Bool) : PAt (w.setCell ⟨g, q + 29, none⟩ (.bool x)) g q { p with forward := x } := h.s 29 _ (by omega) rfl
theorem PAt.f_forward (h : PAt w g q p) : w.frozen? ⟨g, q + 29, none⟩ = false := h.free 29 (by omega)
theorem PAt.s_forwarding (h : PAt w g q p) (x : Bool) : PAt (w.setCell ⟨g, q + 30, none⟩ (.bool x)) g q { p with forwarding := x } := h.s 30 _ (by omega) rfl
theorem PAt.f_forwarding (h : PAt w g q p) : w.frozen? ⟨g, q + 30, none⟩ = false := h.free 30 (by omega)
theorem PAt.s_agree (h : PAt w g q p) (x : Bool) : PAt (w.setCell ⟨g, q + 31, none⟩ (.bool x)) g q { p with agree := x } := h.s 31 _ (by omega) rfl
theorem PAt.f_agree (h : PAt w g q p) : w.frozen? ⟨g, q + 31, none⟩ = false := h.free 31 (by omega)
theorem PAt.s_agreed (h : PAt w g q p) (x : Bool) : PAt (w.setCell ⟨g, q + 32, none⟩ (.bool x)) g q { p with agreed := x } := h.s 32 _ (by omega) rfl
theorem PAt.f_agreed (h : PAt w g q p) : w.frozen? ⟨g, q + 32, none⟩ = false := h.free 32 (by omega)
theorem PAt.s_proposed (h : PAt w g q p) (x : Bool) : PAt (w.setCell ⟨g, q + 33, none⟩ (.bool x)) g q { p with proposed := x } := h.s 33 _ (by omega) rfl
theorem PAt.f_proposed (h : PAt w g q p) : w.frozen? ⟨g, q + 33, none⟩ = false := h.free 33 (by omega)
theorem PAt.s_proposing (h : PAt w g q p) (x : Bool) : PAt (w.setCell ⟨g, q + 34, none⟩ (.bool x)) g q { p with proposing := x } := h.s 34 _ (by omega) rfl
theorem PAt.f_proposing (h : PAt w g q p) : w.frozen? ⟨g, q + 34, none⟩ = false := h.free 34 (by omega)
theorem PAt.s_sync (h : PAt w g q p) (x : Bool) : PAt (w.setCell ⟨g, q + 35, none⟩ (.bool x)) g q { p with sync := x } := h.s 35 _ (by omega) rfl
theorem PAt.f_sync (h : PAt w g q p) : w.frozen? ⟨g, q + 35, none⟩ = false := h.free 35 (by omega)
theorem PAt.s_synced (h : PAt w g q p) (x : Bool) : PAt (w.setCell ⟨g, q + 36, none⟩ (.bool x)) g q { p with synced := x } := h.s 36 _ (by omega) rfl
theorem PAt.f_synced (h : PAt w g q p) : w.frozen? ⟨g, q + 36, none⟩ = false := h.free 36 (by omega)
theorem PAt.s_reroot (h : PAt w g q p) (x : Bool) : PAt (w.setCell ⟨g, q + 37, none⟩ (.bool x)) g q { p with reroot := x } := h.s 37 _ (by omega) rfl
theorem PAt.f_reroot (h : PAt w g q p) : w.frozen? ⟨g, q + 37, none⟩ = false := h.free 37 (by omega)
theorem PAt.s_disputed (h : PAt w g q p) (x : Bool) : PAt (w.setCell ⟨g, q + 38, none⟩ (.bool x)) g q { p with disputed := x } := h.s 38 _ (by omega) rfl
theorem PAt.f_disputed (h : PAt w g q p) : w.frozen? ⟨g, q + 38, none⟩ = false := h.free 38 (by omega)
theorem PAt.s_newInfo (h : PAt w g q p) (x : Bool) : PAt (w.setCell ⟨g, q + 39, none⟩ (.bool x)) g q { p with newInfo := x } := h.s 39 _ (by omega) rfl
theorem PAt.f_newInfo (h : PAt w g q p) : w.frozen? ⟨g, q + 39, none⟩ = false := h.free 39 (by omega)
theorem PAt.s_heardTc (h : PAt w g q p) (x : Bool) : PAt (w.setCell ⟨g, q + 40, none⟩ (.bool x)) g q { p with heardTc := x } := h.s 40 _ (by omega) rfl
theorem PAt.f_heardTc (h : PAt w g q p) : w.frozen? ⟨g, q + 40, none⟩ = false := h.free 40 (by omega)
theorem PAt.s_heardTcn (h : PAt w g q p) (x : Bool) : PAt (w.setCell ⟨g, q + 41, none⟩ (.bool x)) g q { p with heardTcn := x } := h.s 41 _ (by omega) rfl
theorem PAt.f_heardTcn (h : PAt w g q p) : w.frozen? ⟨g, q + 41, none⟩ = false := h.free 41 (by omega)
theorem PAt.s_heardAck (h : PAt w g q p) (x : Bool) : PAt (w.setCell ⟨g, q + 42, none⟩ (.bool x)) g q { p with heardAck := x } := h.s 42 _ (by omega) rfl
theorem PAt.f_heardAck (h : PAt w g q p) : w.frozen? ⟨g, q + 42, none⟩ = false := h.free 42 (by omega)
theorem PAt.s_tcAck (h : PAt w g q p) (x : Bool) : PAt (w.setCell ⟨g, q + 43, none⟩ (.bool x)) g q { p with tcAck := x } := h.s 43 _ (by omega) rfl
theorem PAt.f_tcAck (h : PAt w g q p) : w.frozen? ⟨g, q + 43, none⟩ = false := h.free 43 (by omega)
theorem PAt.s_tcProp (h : PAt w g q p) (x : Bool) : PAt (w.setCell ⟨g, q + 44, none⟩ (.bool x)) g q { p with tcProp := x } := h.s 44 _ (by omega) rfl
theorem PAt.f_tcProp (h : PAt w g q p) : w.frozen? ⟨g, q + 44, none⟩ = false := h.free 44 (by omega)
theorem PAt.s_flush (h : PAt w g q p) (x : Bool) : PAt (w.setCell ⟨g, q + 45, none⟩ (.bool x)) g q { p with flush := x } := h.s 45 _ (by omega) rfl
theorem PAt.f_flush (h : PAt w g q p) : w.frozen? ⟨g, q + 45, none⟩ = false := h.free 45 (by omega)
theorem PAt.s_sendRstp (h : PAt w g q p) (x : Bool) : PAt (w.setCell ⟨g, q + 46, none⟩ (.bool x)) g q { p with sendRstp := x } := h.s 46 _ (by omega) rfl
theorem PAt.f_sendRstp (h : PAt w g q p) : w.frozen? ⟨g, q + 46, none⟩ = false := h.free 46 (by omega)
theorem PAt.s_heardRstp (h : PAt w g q p) (x : Bool) : PAt (w.setCell ⟨g, q + 47, none⟩ (.bool x)) g q { p with heardRstp := x } := h.s 47 _ (by omega) rfl
theorem PAt.f_heardRstp (h : PAt w g q p) : w.frozen? ⟨g, q + 47, none⟩ = false := h.free 47 (by omega)
theorem PAt.s_heardStp (h : PAt w g q p) (x : Bool) : PAt (w.setCell ⟨g, q + 48, none⟩ (.bool x)) g q { p with heardStp := x } := h.s 48 _ (by omega) rfl
theorem PAt.f_heardStp (h : PAt w g q p) : w.frozen? ⟨g, q + 48, none⟩ = false := h.free 48 (by omega)
theorem PAt.s_check (h : PAt w g q p) (x : Bool) : PAt (w.setCell ⟨g, q + 49, none⟩ (.bool x)) g q { p with check := x } := h.s 49 _ (by omega) rfl
theorem PAt.f_check (h : PAt w g q p) : w.frozen? ⟨g, q + 49, none⟩ = false := h.free 49 (by omega)
theorem PAt.s_fd (h : PAt w g q p) (x : Int) : PAt (w.setCell ⟨g, q + 50, none⟩ (.int .i64 x)) g q { p with fd := x } := h.s 50 _ (by omega) rfl
theorem PAt.f_fd (h : PAt w g q p) : w.frozen? ⟨g, q + 50, none⟩ = false := h.free 50 (by omega)
theorem PAt.s_rr (h : PAt w g q p) (x : Int) : PAt (w.setCell ⟨g, q + 51, none⟩ (.int .i64 x)) g q { p with rr := x } := h.s 51 _ (by omega) rfl
theorem PAt.f_rr (h : PAt w g q p) : w.frozen? ⟨g, q + 51, none⟩ = false := h.free 51 (by omega)
theorem PAt.s_rb (h : PAt w g q p) (x : Int) : PAt (w.setCell ⟨g, q + 52, none⟩ (.int .i64 x)) g q { p with rb := x } := h.s 52 _ (by omega) rfl
theorem PAt.f_rb (h : PAt w g q p) : w.frozen? ⟨g, q + 52, none⟩ = false := h.free 52 (by omega)
theorem PAt.s_tc (h : PAt w g q p) (x : Int) : PAt (w.setCell ⟨g, q + 53, none⟩ (.int .i64 x)) g q { p with tc := x } := h.s 53 _ (by omega) rfl
theorem PAt.f_tc (h : PAt w g q p) : w.frozen? ⟨g, q + 53, none⟩ = false := h.free 53 (by omega)
theorem PAt.s_edge (h : PAt w g q p) (x : Int) : PAt (w.setCell ⟨g, q + 54, none⟩ (.int .i64 x)) g q { p with edge := x } := h.s 54 _ (by omega) rfl
theorem PAt.f_edge (h : PAt w g q p) : w.frozen? ⟨g, q + 54, none⟩ = false := h.free 54 (by omega)
theorem PAt.s_md (h : PAt w g q p) (x : Int) : PAt (w.setCell ⟨g, q + 55, none⟩ (.int .i64 x)) g q { p with md := x } := h.s 55 _ (by omega) rfl
theorem PAt.f_md (h : PAt w g q p) : w.frozen? ⟨g, q + 55, none⟩ = false := h.free 55 (by omega)
theorem PAt.s_info (h : PAt w g q p) (x : Int) : PAt (w.setCell ⟨g, q + 56, none⟩ (.int .i64 x)) g q { p with info := x } := h.s 56 _ (by omega) rfl
theorem PAt.f_info (h : PAt w g q p) : w.frozen? ⟨g, q + 56, none⟩ = false := h.free 56 (by omega)
theorem PAt.s_hello (h : PAt w g q p) (x : Int) : PAt (w.setCell ⟨g, q + 57, none⟩ (.int .i64 x)) g q { p with hello := x } := h.s 57 _ (by omega) rfl
theorem PAt.f_hello (h : PAt w g q p) : w.frozen? ⟨g, q + 57, none⟩ = false := h.free 57 (by omega)
theorem PAt.s_txCount (h : PAt w g q p) (x : Int) : PAt (w.setCell ⟨g, q + 58, none⟩ (.int .i64 x)) g q { p with txCount := x } := h.s 58 _ (by omega) rfl
theorem PAt.f_txCount (h : PAt w g q p) : w.frozen? ⟨g, q + 58, none⟩ = false := h.free 58 (by omega)
theorem PAt.s_change (h : PAt w g q p) (x : Int) : PAt (w.setCell ⟨g, q + 59, none⟩ (.int .i64 x)) g q { p with change := x } := h.s 59 _ (by omega) rfl
theorem PAt.f_change (h : PAt w g q p) : w.frozen? ⟨g, q + 59, none⟩ = false := h.free 59 (by omega)
theorem PAt.s_migrate (h : PAt w g q p) (x : Int) : PAt (w.setCell ⟨g, q + 60, none⟩ (.int .i64 x)) g q { p with migrate := x } := h.s 60 _ (by omega) rfl
theorem PAt.f_migrate (h : PAt w g q p) : w.frozen? ⟨g, q + 60, none⟩ = false := h.free 60 (by omega)
end
/-- Block g alone has turned, and in it what lies at q alone; it holds X. -/
structure Ta (g q : Nat) (X : Pt) (w w' : World) : Prop where
  blk : PAt w' g q X
  os : w'.os = w.os
  tape : w'.tape = w.tape
  output : w'.output = w.output
  size : w.heap.size ≤ w'.heap.size
  block : ∀ i, i < w.heap.size → i ≠ g → w'.heap[i]? = w.heap[i]?
  far : ∀ j, j < q ∨ q + 61 ≤ j → w'.cell? ⟨g, j, none⟩ = w.cell? ⟨g, j, none⟩
  free : ∀ j, w'.frozen? ⟨g, j, none⟩ = w.frozen? ⟨g, j, none⟩
section
variable {g q : Nat} {X Y : Pt} {w w1 w2 : World}
theorem Ta.refl (h : PAt w g q X) : Ta g q X w w := ⟨h, rfl, rfl, rfl, Nat.le_refl _, fun _ _ _ => rfl, fun _ _ => rfl, fun _ => rfl⟩
theorem Ta.trans (h : Ta g q X w w1) (k : Ta g q Y w1 w2) : Ta g q Y w w2 :=
  ⟨k.blk, k.os.trans h.os, k.tape.trans h.tape, k.output.trans h.output, Nat.le_trans h.size k.size, fun i hi hn => (k.block i (Nat.lt_of_lt_of_le hi h.size) hn).trans (h.block i hi hn), fun j hj => (k.far j hj).trans (h.far j hj), fun j => (k.free j).trans (h.free j)⟩
theorem Ta.set (h : Ta g q X w w1) (c : Nat) (v : Value) (hc : c < 61) (hY : PAt (w1.setCell ⟨g, q + c, none⟩ v) g q Y) : Ta g q Y w (w1.setCell ⟨g, q + c, none⟩ v) :=
  ⟨hY, h.os, h.tape, h.output, by rw [size_set]; exact h.size, fun i hi hn => (Below.heap_setCell w1 ⟨g, q + c, none⟩ v i hn).trans (h.block i hi hn), fun j hj => by
    rw [World.cell?_setCell_other w1 _ _ _ (fun e => by have := congrArg Addr.off e; simp at this; omega)]
    exact h.far j hj, fun j => by rw [World.frozen?_setCell]; exact h.free j⟩
theorem frozen_below {w w1 : World} {g j : Nat} (hb : Below w.heap.size w w1) (hg : g < w.heap.size) : w1.frozen? ⟨g, j, none⟩ = w.frozen? ⟨g, j, none⟩ := by
  have h0 := hb.block g hg
  unfold World.frozen?
  simp only [h0]
theorem Ta.grow (h : Ta g q X w w1) (hb : Below w1.heap.size w1 w2) : Ta g q X w w2 :=
  ⟨h.blk.next hb, hb.os.trans h.os, hb.tape.trans h.tape, hb.output.trans h.output, Nat.le_trans h.size hb.size, fun i hi hn => (hb.block i (Nat.lt_of_lt_of_le hi h.size)).trans (h.block i hi hn),
    fun j hj => (hb.cell (p := ⟨g, j, none⟩) h.blk.lt).trans (h.far j hj), fun j => (frozen_below hb h.blk.lt).trans (h.free j)⟩
theorem Ta.before (h : Ta g q X w1 w2) (hb : Below w.heap.size w w1) (hg : g < w.heap.size) : Ta g q X w w2 :=
  ⟨h.blk, h.os.trans hb.os, h.tape.trans hb.tape, h.output.trans hb.output, Nat.le_trans hb.size h.size, fun i hi hn => (h.block i (Nat.lt_of_lt_of_le hi hb.size) hn).trans (hb.block i hi),
    fun j hj => (h.far j hj).trans (hb.cell (p := ⟨g, j, none⟩) hg), fun j => (h.free j).trans (frozen_below hb hg)⟩
theorem Ta.as (h : Ta g q X w w1) (e : X = Y) : Ta g q Y w w1 := e ▸ h
theorem Ta.drawN (h : Ta g q X w w1) (n : Nat) : Ta g q X w (w1.drewN n) := ⟨⟨h.blk.lt, h.blk.at_, h.blk.free⟩, h.os, h.tape, h.output, h.size, h.block, h.far, h.free⟩
theorem Ta.draw (h : Ta g q X w w1) : Ta g q X w w1.drew := ⟨⟨h.blk.lt, h.blk.at_, h.blk.free⟩, h.os, h.tape, h.output, h.size, h.block, h.far, h.free⟩
theorem Ta.at {i : Nat} (h : Ta g q X w w1) (hi : i < w.heap.size) (hn : i ≠ g) : w1.heap[i]? = w.heap[i]? := h.block i hi hn
theorem Ta.s_id (h : Ta g q X w w1) (x : Int) : Ta g q { X with id := x } w (w1.setCell ⟨g, q, none⟩ (.int .u64 x)) := h.set 0 _ (by omega) (h.blk.s_id x)
theorem Ta.s_cost (h : Ta g q X w w1) (x : Int) : Ta g q { X with cost := x } w (w1.setCell ⟨g, q + 1, none⟩ (.int .u64 x)) := h.set 1 _ (by omega) (h.blk.s_cost x)
theorem Ta.s_on (h : Ta g q X w w1) (x : Bool) : Ta g q { X with on := x } w (w1.setCell ⟨g, q + 2, none⟩ (.bool x)) := h.set 2 _ (by omega) (h.blk.s_on x)
theorem Ta.s_admin (h : Ta g q X w w1) (x : Bool) : Ta g q { X with admin := x } w (w1.setCell ⟨g, q + 3, none⟩ (.bool x)) := h.set 3 _ (by omega) (h.blk.s_admin x)
theorem Ta.s_oper (h : Ta g q X w w1) (x : Bool) : Ta g q { X with oper := x } w (w1.setCell ⟨g, q + 4, none⟩ (.bool x)) := h.set 4 _ (by omega) (h.blk.s_oper x)
theorem Ta.s_source (h : Ta g q X w w1) (x : Int) : Ta g q { X with source := x } w (w1.setCell ⟨g, q + 5, none⟩ (.int .i64 x)) := h.set 5 _ (by omega) (h.blk.s_source x)
theorem Ta.s_role (h : Ta g q X w w1) (x : Int) : Ta g q { X with role := x } w (w1.setCell ⟨g, q + 22, none⟩ (.int .i64 x)) := h.set 22 _ (by omega) (h.blk.s_role x)
theorem Ta.s_selected (h : Ta g q X w w1) (x : Int) : Ta g q { X with selected := x } w (w1.setCell ⟨g, q + 23, none⟩ (.int .i64 x)) := h.set 23 _ (by omega) (h.blk.s_selected x)
theorem Ta.s_ready (h : Ta g q X w w1) (x : Bool) : Ta g q { X with ready := x } w (w1.setCell ⟨g, q + 24, none⟩ (.bool x)) := h.set 24 _ (by omega) (h.blk.s_ready x)
theorem Ta.s_update (h : Ta g q X w w1) (x : Bool) : Ta g q { X with update := x } w (w1.setCell ⟨g, q + 25, none⟩ (.bool x)) := h.set 25 _ (by omega) (h.blk.s_update x)
theorem Ta.s_reselect (h : Ta g q X w w1) (x : Bool) : Ta g q { X with reselect := x } w (w1.setCell ⟨g, q + 26, none⟩ (.bool x)) := h.set 26 _ (by omega) (h.blk.s_reselect x)
theorem Ta.s_learn (h : Ta g q X w w1) (x : Bool) : Ta g q { X with learn := x } w (w1.setCell ⟨g, q + 27, none⟩ (.bool x)) := h.set 27 _ (by omega) (h.blk.s_learn x)
theorem Ta.s_learning (h : Ta g q X w w1) (x : Bool) : Ta g q { X with learning := x } w (w1.setCell ⟨g, q + 28, none⟩ (.bool x)) := h.set 28 _ (by omega) (h.blk.s_learning x)
theorem Ta.s_forward (h : Ta g q X w w1) (x : Bool) : Ta g q { X with forward := x } w (w1.setCell ⟨g, q + 29, none⟩ (.bool x)) := h.set 29 _ (by omega) (h.blk.s_forward x)
theorem Ta.s_forwarding (h : Ta g q X w w1) (x : Bool) : Ta g q { X with forwarding := x } w (w1.setCell ⟨g, q + 30, none⟩ (.bool x)) := h.set 30 _ (by omega) (h.blk.s_forwarding x)
theorem Ta.s_agree (h : Ta g q X w w1) (x : Bool) : Ta g q { X with agree := x } w (w1.setCell ⟨g, q + 31, none⟩ (.bool x)) := h.set 31 _ (by omega) (h.blk.s_agree x)
theorem Ta.s_agreed (h : Ta g q X w w1) (x : Bool) : Ta g q { X with agreed := x } w (w1.setCell ⟨g, q + 32, none⟩ (.bool x)) := h.set 32 _ (by omega) (h.blk.s_agreed x)
theorem Ta.s_proposed (h : Ta g q X w w1) (x : Bool) : Ta g q { X with proposed := x } w (w1.setCell ⟨g, q + 33, none⟩ (.bool x)) := h.set 33 _ (by omega) (h.blk.s_proposed x)
theorem Ta.s_proposing (h : Ta g q X w w1) (x : Bool) : Ta g q { X with proposing := x } w (w1.setCell ⟨g, q + 34, none⟩ (.bool x)) := h.set 34 _ (by omega) (h.blk.s_proposing x)
theorem Ta.s_sync (h : Ta g q X w w1) (x : Bool) : Ta g q { X with sync := x } w (w1.setCell ⟨g, q + 35, none⟩ (.bool x)) := h.set 35 _ (by omega) (h.blk.s_sync x)
theorem Ta.s_synced (h : Ta g q X w w1) (x : Bool) : Ta g q { X with synced := x } w (w1.setCell ⟨g, q + 36, none⟩ (.bool x)) := h.set 36 _ (by omega) (h.blk.s_synced x)
theorem Ta.s_reroot (h : Ta g q X w w1) (x : Bool) : Ta g q { X with reroot := x } w (w1.setCell ⟨g, q + 37, none⟩ (.bool x)) := h.set 37 _ (by omega) (h.blk.s_reroot x)
theorem Ta.s_disputed (h : Ta g q X w w1) (x : Bool) : Ta g q { X with disputed := x } w (w1.setCell ⟨g, q + 38, none⟩ (.bool x)) := h.set 38 _ (by omega) (h.blk.s_disputed x)
theorem Ta.s_newInfo (h : Ta g q X w w1) (x : Bool) : Ta g q { X with newInfo := x } w (w1.setCell ⟨g, q + 39, none⟩ (.bool x)) := h.set 39 _ (by omega) (h.blk.s_newInfo x)
theorem Ta.s_heardTc (h : Ta g q X w w1) (x : Bool) : Ta g q { X with heardTc := x } w (w1.setCell ⟨g, q + 40, none⟩ (.bool x)) := h.set 40 _ (by omega) (h.blk.s_heardTc x)
theorem Ta.s_heardTcn (h : Ta g q X w w1) (x : Bool) : Ta g q { X with heardTcn := x } w (w1.setCell ⟨g, q + 41, none⟩ (.bool x)) := h.set 41 _ (by omega) (h.blk.s_heardTcn x)
theorem Ta.s_heardAck (h : Ta g q X w w1) (x : Bool) : Ta g q { X with heardAck := x } w (w1.setCell ⟨g, q + 42, none⟩ (.bool x)) := h.set 42 _ (by omega) (h.blk.s_heardAck x)
theorem Ta.s_tcAck (h : Ta g q X w w1) (x : Bool) : Ta g q { X with tcAck := x } w (w1.setCell ⟨g, q + 43, none⟩ (.bool x)) := h.set 43 _ (by omega) (h.blk.s_tcAck x)
theorem Ta.s_tcProp (h : Ta g q X w w1) (x : Bool) : Ta g q { X with tcProp := x } w (w1.setCell ⟨g, q + 44, none⟩ (.bool x)) := h.set 44 _ (by omega) (h.blk.s_tcProp x)
theorem Ta.s_flush (h : Ta g q X w w1) (x : Bool) : Ta g q { X with flush := x } w (w1.setCell ⟨g, q + 45, none⟩ (.bool x)) := h.set 45 _ (by omega) (h.blk.s_flush x)
theorem Ta.s_sendRstp (h : Ta g q X w w1) (x : Bool) : Ta g q { X with sendRstp := x } w (w1.setCell ⟨g, q + 46, none⟩ (.bool x)) := h.set 46 _ (by omega) (h.blk.s_sendRstp x)
theorem Ta.s_heardRstp (h : Ta g q X w w1) (x : Bool) : Ta g q { X with heardRstp := x } w (w1.setCell ⟨g, q + 47, none⟩ (.bool x)) := h.set 47 _ (by omega) (h.blk.s_heardRstp x)
theorem Ta.s_heardStp (h : Ta g q X w w1) (x : Bool) : Ta g q { X with heardStp := x } w (w1.setCell ⟨g, q + 48, none⟩ (.bool x)) := h.set 48 _ (by omega) (h.blk.s_heardStp x)
theorem Ta.s_check (h : Ta g q X w w1) (x : Bool) : Ta g q { X with check := x } w (w1.setCell ⟨g, q + 49, none⟩ (.bool x)) := h.set 49 _ (by omega) (h.blk.s_check x)
theorem Ta.s_fd (h : Ta g q X w w1) (x : Int) : Ta g q { X with fd := x } w (w1.setCell ⟨g, q + 50, none⟩ (.int .i64 x)) := h.set 50 _ (by omega) (h.blk.s_fd x)
theorem Ta.s_rr (h : Ta g q X w w1) (x : Int) : Ta g q { X with rr := x } w (w1.setCell ⟨g, q + 51, none⟩ (.int .i64 x)) := h.set 51 _ (by omega) (h.blk.s_rr x)
theorem Ta.s_rb (h : Ta g q X w w1) (x : Int) : Ta g q { X with rb := x } w (w1.setCell ⟨g, q + 52, none⟩ (.int .i64 x)) := h.set 52 _ (by omega) (h.blk.s_rb x)
theorem Ta.s_tc (h : Ta g q X w w1) (x : Int) : Ta g q { X with tc := x } w (w1.setCell ⟨g, q + 53, none⟩ (.int .i64 x)) := h.set 53 _ (by omega) (h.blk.s_tc x)
theorem Ta.s_edge (h : Ta g q X w w1) (x : Int) : Ta g q { X with edge := x } w (w1.setCell ⟨g, q + 54, none⟩ (.int .i64 x)) := h.set 54 _ (by omega) (h.blk.s_edge x)
theorem Ta.s_md (h : Ta g q X w w1) (x : Int) : Ta g q { X with md := x } w (w1.setCell ⟨g, q + 55, none⟩ (.int .i64 x)) := h.set 55 _ (by omega) (h.blk.s_md x)
theorem Ta.s_info (h : Ta g q X w w1) (x : Int) : Ta g q { X with info := x } w (w1.setCell ⟨g, q + 56, none⟩ (.int .i64 x)) := h.set 56 _ (by omega) (h.blk.s_info x)
theorem Ta.s_hello (h : Ta g q X w w1) (x : Int) : Ta g q { X with hello := x } w (w1.setCell ⟨g, q + 57, none⟩ (.int .i64 x)) := h.set 57 _ (by omega) (h.blk.s_hello x)
theorem Ta.s_txCount (h : Ta g q X w w1) (x : Int) : Ta g q { X with txCount := x } w (w1.setCell ⟨g, q + 58, none⟩ (.int .i64 x)) := h.set 58 _ (by omega) (h.blk.s_txCount x)
theorem Ta.s_change (h : Ta g q X w w1) (x : Int) : Ta g q { X with change := x } w (w1.setCell ⟨g, q + 59, none⟩ (.int .i64 x)) := h.set 59 _ (by omega) (h.blk.s_change x)
theorem Ta.s_migrate (h : Ta g q X w w1) (x : Int) : Ta g q { X with migrate := x } w (w1.setCell ⟨g, q + 60, none⟩ (.int .i64 x)) := h.set 60 _ (by omega) (h.blk.s_migrate x)
end
end Go.Proofs.Ytlfmjinllffifaa

namespace Go.Proofs.Ytlfmjinllffifaa
set_option linter.unusedVariables false
set_option linter.unusedSimpArgs false
open Go.RowKit Vm Rm Bm Im

def propB (p : Pt) : Bool := p.proposed && !p.agree

def closedB (p : Pt) : Bool := !p.learn || !p.forward

end Go.Proofs.Ytlfmjinllffifaa

namespace Go.Proofs.Ytlfmjinllffifaa
set_option linter.unusedVariables false
set_option linter.unusedSimpArgs false
open Go.RowKit Vm Rm Bm Im

/-! ### A row and a port of it -/
theorem WRow.pat {w : World} {g k : Nat} {l : List Pt} {p : Pt} (h : WRow w g l) (hp : l[k]? = some p) : PAt w g (k * 61) p := by
  have hk := (List.getElem?_eq_some_iff.1 hp).1
  refine ⟨h.lt, fun c v hv => h.at_ k p hp c v (by rw [Array.getElem?_toList]; exact hv), fun j hj => ?_⟩
  exact (h.at61 hk j hj).2
theorem Ta.wrow {w w' : World} {g k : Nat} {l : List Pt} {X : Pt} (t : Ta g (k * 61) X w w') (h : WRow w g l) (hk : k < l.length) : WRow w' g (l.set k X) := by
  refine ⟨t.blk.lt, fun j p hp => ?_, ?_⟩
  · by_cases hj : k = j
    · subst hj
      rw [List.getElem?_set_self hk] at hp
      cases hp
      exact fun c v hv => t.blk.at_ c v (by rw [← Array.getElem?_toList]; exact hv)
    · rw [List.getElem?_set_ne hj] at hp
      intro c v hv
      have hc : c < 61 := by have := (List.getElem?_eq_some_iff.1 hv).1; rw [cellsT_len] at this; exact this
      rw [t.far (j * 61 + c) (by omega)]
      exact h.at_ j p hp c v hv
  · rw [List.length_set]
    intro j hj
    have h0 := h.free j hj
    refine ⟨?_, (t.free (0 + j)).trans h0.2⟩
    by_cases hin : k * 61 ≤ 0 + j ∧ 0 + j < k * 61 + 61
    · obtain ⟨v, hv⟩ : ∃ v, (cellsT X)[0 + j - k * 61]? = some v := ⟨_, Array.getElem?_eq_getElem (by rw [cellsT_size]; omega)⟩
      have := t.blk.at_ _ v hv
      rw [show k * 61 + (0 + j - k * 61) = 0 + j by omega] at this
      rw [this]; rfl
    · rw [t.far (0 + j) (by omega)]
      exact h0.1
theorem Ta.kp {w w' : World} {g q : Nat} {X : Pt} (t : Ta g q X w w') : Kp g w w' := ⟨t.os, t.tape, t.output, t.size, t.block⟩
theorem Kp.refl' (g : Nat) (w : World) : Kp g w w := ⟨rfl, rfl, rfl, Nat.le_refl _, fun _ _ _ => rfl⟩
theorem Kp.trans' {g : Nat} {w w1 w2 : World} (h : Kp g w w1) (k : Kp g w1 w2) : Kp g w w2 :=
  ⟨k.os.trans h.os, k.tape.trans h.tape, k.output.trans h.output, Nat.le_trans h.size k.size, fun i hi hn => (k.block i (Nat.lt_of_lt_of_le hi h.size) hn).trans (h.block i hi hn)⟩
theorem Kp.of {g : Nat} {w w1 : World} (h : Below w.heap.size w w1) : Kp g w w1 := ⟨h.os, h.tape, h.output, h.size, fun i hi _ => h.block i hi⟩

/-! ### A seat -/
abbrev scl (t : Tm) (g n cap k q : Nat) : Array Value := #[.int .i64 t.age, .int .i64 t.max, .int .i64 t.hello, .int .i64 t.delay, .slice (some ⟨g, 0, none⟩) n cap, .int .i64 ((k : Nat) : Int), .pointer (some ⟨g, q, none⟩)]
abbrev sv (t : Tm) (g n cap k q : Nat) : Value := .agg (scl t g n cap k q)
section
variable {w w' : World} {b g n cap k q : Nat} {t : Tm}
end

/-! ### Of all others -/
theorem others_iff (F : Pt → Bool) (l : List Pt) (k : Nat) : othersB F l k = true ↔ ∀ i p, l[i]? = some p → i = k ∨ F p = true := by
  unfold othersB
  rw [List.all_eq_true]
  constructor
  · intro h i p hp
    have := h (p, i) (List.mem_zipIdx_iff_getElem?.2 hp)
    simpa using this
  · intro h x hx
    have := h x.2 x.1 (List.mem_zipIdx_iff_getElem?.1 hx)
    simpa using this
def ToInv (F : Pt → Bool) (l : List Pt) (n k : Nat) (w : World) (v : Value) (wr : World) : Prop :=
  ∃ j : Nat, j ≤ n ∧ v = .int .i64 (j : Nat) ∧ (∀ i p, i < j → l[i]? = some p → i = k ∨ F p = true) ∧ Below w.heap.size w wr

/-! ### All are to sync, or to reroot -/
def syncN (l : List Pt) (k j : Nat) : List Pt := l.mapIdx fun i p => if i < j ∧ ¬ i = k then { p with sync := true } else p
theorem syncN_zero (l : List Pt) (k : Nat) : syncN l k 0 = l := by
  unfold syncN
  apply List.ext_getElem?
  intro j
  simp
theorem syncN_len (l : List Pt) (k j : Nat) : (syncN l k j).length = l.length := by unfold syncN; simp
theorem syncN_at {l : List Pt} {k j : Nat} {p : Pt} (h : l[j]? = some p) : (syncN l k j)[j]? = some p := by unfold syncN; simp [h]
theorem syncN_own {l : List Pt} {k j : Nat} {p : Pt} (h : l[k]? = some p) : (syncN l k j)[k]? = some p := by unfold syncN; simp [h]
theorem syncN_skip (l : List Pt) (k : Nat) : syncN l k k = syncN l k (k + 1) := by
  unfold syncN
  apply List.ext_getElem?
  intro i
  simp only [List.getElem?_mapIdx]
  congr 1
  funext p
  by_cases h : i = k
  · subst h; simp
  · have : (i < k ∧ ¬ i = k) ↔ (i < k + 1 ∧ ¬ i = k) := by omega
    simp only [this]
theorem syncN_set {l : List Pt} {k j : Nat} {p : Pt} (h : l[j]? = some p) (hjk : ¬ j = k) : (syncN l k j).set j { p with sync := true } = syncN l k (j + 1) := by
  unfold syncN
  have hj : j < l.length := (List.getElem?_eq_some_iff.1 h).1
  apply List.ext_getElem?
  intro i
  by_cases hi : j = i
  · subst hi
    rw [List.getElem?_set_self (by simpa using hj)]
    simp [h, hjk]
  · rw [List.getElem?_set_ne hi]
    simp only [List.getElem?_mapIdx]
    congr 1
    funext p
    have : (i < j ∧ ¬ i = k) ↔ (i < j + 1 ∧ ¬ i = k) := by omega
    simp only [this]
theorem syncN_all {l : List Pt} {k : Nat} {p : Pt} (h : l[k]? = some p) (X : Pt) : (syncN l k l.length).set k X = l.mapIdx (spreadAt ⟨X, true, false⟩ k) := by
  unfold syncN
  have hk : k < l.length := (List.getElem?_eq_some_iff.1 h).1
  apply List.ext_getElem?
  intro i
  by_cases hi : k = i
  · subst hi
    rw [List.getElem?_set_self (by simpa using hk)]
    simp [h, spreadAt]
  · rw [List.getElem?_set_ne hi]
    simp only [List.getElem?_mapIdx]
    cases hl : l[i]? with
    | none => rfl
    | some r =>
      have : i < l.length := (List.getElem?_eq_some_iff.1 hl).1
      have hne : ¬ i = k := fun e => hi e.symm
      simp [spreadAt, hne, this]
def rerootN (l : List Pt) (j : Nat) : List Pt := l.mapIdx fun i p => if i < j then { p with reroot := true } else p
theorem rerootN_zero (l : List Pt) : rerootN l 0 = l := by
  unfold rerootN
  apply List.ext_getElem?
  intro j
  simp
theorem rerootN_len (l : List Pt) (j : Nat) : (rerootN l j).length = l.length := by unfold rerootN; simp
theorem rerootN_at {l : List Pt} {j : Nat} {p : Pt} (h : l[j]? = some p) : (rerootN l j)[j]? = some p := by unfold rerootN; simp [h]
theorem rerootN_set {l : List Pt} {j : Nat} {p : Pt} (h : l[j]? = some p) : (rerootN l j).set j { p with reroot := true } = rerootN l (j + 1) := by
  unfold rerootN
  have hj : j < l.length := (List.getElem?_eq_some_iff.1 h).1
  apply List.ext_getElem?
  intro i
  by_cases hi : j = i
  · subst hi
    rw [List.getElem?_set_self (by simpa using hj)]
    simp [h]
  · rw [List.getElem?_set_ne hi]
    simp only [List.getElem?_mapIdx]
    congr 1
    funext p
    have : (i < j) ↔ (i < j + 1) := by omega
    simp only [this]
theorem rerootN_all {l : List Pt} {k : Nat} {p : Pt} (h : l[k]? = some p) : rerootN l l.length = l.mapIdx (spreadAt ⟨p, false, true⟩ k) := by
  unfold rerootN
  apply List.ext_getElem?
  intro i
  simp only [List.getElem?_mapIdx]
  cases hl : l[i]? with
  | none => rfl
  | some r =>
    have hil : i < l.length := (List.getElem?_eq_some_iff.1 hl).1
    by_cases hi : i = k
    · subst hi
      rw [h] at hl
      cases hl
      simp [spreadAt, hil]
    · simp [spreadAt, hi, hil]
def TsInv (l : List Pt) (n k g : Nat) (W : World) (v : Value) (wr : World) : Prop :=
  ∃ j : Nat, j ≤ n ∧ v = .int .i64 (j : Nat) ∧ WRow wr g (syncN l k j) ∧ Kp g W wr
def TrInv (l : List Pt) (n g : Nat) (W : World) (v : Value) (wr : World) : Prop :=
  ∃ j : Nat, j ≤ n ∧ v = .int .i64 (j : Nat) ∧ WRow wr g (rerootN l j) ∧ Kp g W wr

end Go.Proofs.Ytlfmjinllffifaa

namespace Go.Proofs.Ytlfmjinllffifaa
set_option linter.unusedVariables false
set_option linter.unusedSimpArgs false
open Go.RowKit Vm Rm Bm Im

abbrev pv (g q : Nat) : Value := .pointer (some ⟨g, q, none⟩)
/-- Of 0 what is waited for is Max, of all others Delay. -/
def heldI (t : Tm) (p : Pt) : Int := if p.role = 0 then t.max else t.delay

def rootMayB (ro : Bool) (p : Pt) : Bool := decide (p.fd = 0) || (decide (p.rb = 0) && (p.sendRstp && ro))
end Go.Proofs.Ytlfmjinllffifaa

namespace Go.Proofs.Ytlfmjinllffifaa
set_option linter.unusedVariables false
set_option linter.unusedSimpArgs false
open Go.RowKit Vm Rm Bm Im

end Go.Proofs.Ytlfmjinllffifaa

namespace Go.Proofs.Ytlfmjinllffifaa
set_option linter.unusedVariables false
set_option linter.unusedSimpArgs false
open Go.RowKit Vm Rm Bm Im

end Go.Proofs.Ytlfmjinllffifaa

namespace Go.Proofs.Ytlfmjinllffifaa
set_option linter.unusedVariables false
set_option linter.unusedSimpArgs false
open Go.RowKit Vm Rm Bm Im

theorem One.ta {T0 : TypeId} {w w' : World} {b g q : Nat} {v : Value} {X : Pt} (h : One T0 w b v) (T : Ta g q X w w') (hne : b ≠ g) : One T0 w' b v := (T.at h.lt hne).trans h
theorem below_h {w w' : World} (h : Below w.heap.size w w') : w.heap.size ≤ w'.heap.size := h.size

def openP (t : Tm) (p : Pt) : Pt := if p.learn = false then { p with learn := true, fd := t.delay } else { p with forward := true, fd := 0 }
def role2P (t : Tm) (p : Pt) : Pt := if p.selected = 1 then { p with role := p.selected, rr := t.delay } else { p with role := p.selected }
def des5P (t : Tm) (p : Pt) : Pt := openP t (if p.learn = false then p else { p with agreed := p.sendRstp })
end Go.Proofs.Ytlfmjinllffifaa

namespace Go.Proofs.Ytlfmjinllffifaa
set_option linter.unusedVariables false
set_option linter.unusedSimpArgs false
open Go.RowKit Vm Rm Bm Im

/-- A function's value: its number, what it is bound to, what it captured. -/
structure Fv where
  f : Nat
  b : Array Value
  c : Array Value
def Fv.val (v : Fv) : Value := .func (.func v.f) v.b v.c
/-- Behind a world w0, this answers R. -/
def Asks (w0 : World) (v : Fv) (R : Bool) : Prop :=
  (∀ (a : Array Value) (w : World), Sem.run Try.prog (callFunc v.f a) w = .ok (.enter v.f a) w) ∧ ∀ w : World, Below w0.heap.size w0 w → Calls Try.prog v.f (v.b ++ v.c) w fun e w' => e = .returned (.bool R) ∧ Below w.heap.size w w'
/-- Behind a world w0, this makes of the row in block g what a move makes of it. -/
def DoesT (w0 : World) (g : Nat) (l : List Pt) (k : Nat) (v : Fv) (m : Mv) : Prop :=
  (∀ (a : Array Value) (w : World), Sem.run Try.prog (callFunc v.f a) w = .ok (.enter v.f a) w) ∧ ∀ w : World, Below w0.heap.size w0 w → Calls Try.prog v.f (v.b ++ v.c) w fun e w' => e = .returned (.tuple #[]) ∧ WRow w' g (l.mapIdx (spreadAt m k)) ∧ Kp g w w'
/-- A row of a table: what asks, what does; what it answers, and makes. -/
structure Mvr where
  a : Fv
  d : Fv
  R : Bool
  m : Mv
def Tab (w : World) (g : Nat) (l : List Pt) (k : Nat) (ta : Option Addr) (rows : List Mvr) : Prop :=
  ∀ i r, rows[i]? = some r → ∃ tb : Nat, ta = some ⟨tb, 0, none⟩ ∧ tb < w.heap.size ∧ w.cell? ⟨tb, i * 2, none⟩ = some r.a.val ∧ w.cell? ⟨tb, i * 2 + 1, none⟩ = some r.d.val ∧ Asks w r.a r.R ∧ DoesT w g l k r.d r.m
def firstM : List Mvr → Option Mv
  | [] => none
  | r :: rs => if r.R = true then some r.m else firstM rs
theorem firstM_drop {rows : List Mvr} : ∀ {j : Nat}, (∀ i r, i < j → rows[i]? = some r → r.R = false) → firstM rows = firstM (rows.drop j) := by
  induction rows with
  | nil => intro j _; simp
  | cons x rs ih =>
    intro j h
    cases j with
    | zero => rfl
    | succ j =>
      have h0 := h 0 x (by omega) rfl
      rw [List.drop_succ_cons]
      have : firstM (x :: rs) = firstM rs := by
        show (if x.R = true then some x.m else firstM rs) = firstM rs
        rw [if_neg (by rw [h0]; decide)]
      rw [this]
      exact ih (j := j) fun i r hi hr => h (i + 1) r (by omega) (by simpa using hr)
theorem firstM_yes {rows : List Mvr} {j : Nat} {r : Mvr} (h : ∀ i r, i < j → rows[i]? = some r → r.R = false) (hr : rows[j]? = some r) (hR : r.R = true) : firstM rows = some r.m := by
  rw [firstM_drop h]
  have hj := (List.getElem?_eq_some_iff.1 hr).1
  rw [List.drop_eq_getElem_cons hj]
  have e := (List.getElem?_eq_some_iff.1 hr).2
  show (if rows[j].R = true then some rows[j].m else _) = _
  rw [e, if_pos hR]
theorem firstM_no {rows : List Mvr} (h : ∀ i r, i < rows.length → rows[i]? = some r → r.R = false) : firstM rows = none := by
  rw [firstM_drop h, List.drop_length]
  rfl
theorem spread_set {l : List Pt} {k : Nat} {p : Pt} (h : l[k]? = some p) (X : Pt) : l.set k X = l.mapIdx (spreadAt ⟨X, false, false⟩ k) := by
  have hk : k < l.length := (List.getElem?_eq_some_iff.1 h).1
  apply List.ext_getElem?
  intro i
  by_cases hi : k = i
  · subst hi
    rw [List.getElem?_set_self hk]
    simp [h, spreadAt]
  · rw [List.getElem?_set_ne hi]
    simp only [List.getElem?_mapIdx]
    cases hl : l[i]? with
    | none => rfl
    | some r =>
      have hne : ¬ i = k := fun e => hi e.symm
      simp [spreadAt, hne]
/-- What does something to the port alone. -/
theorem does_of {w0 : World} {f g k q : Nat} {b c : Array Value} {l : List Pt} {p X : Pt} (he : ∀ (a : Array Value) (w : World), Sem.run Try.prog (callFunc f a) w = .ok (.enter f a) w) (hr : WRow w0 g l) (hp : l[k]? = some p) (hq : k * 61 = q)
    (h : ∀ w : World, Below w0.heap.size w0 w → Calls Try.prog f (b ++ c) w fun e w' => e = .returned (.tuple #[]) ∧ Ta g q X w w') : DoesT w0 g l k ⟨f, b, c⟩ ⟨X, false, false⟩ := by
  subst hq
  exact ⟨he, fun w hb => (h w hb).mono fun e w' ⟨e1, t⟩ => ⟨e1, by rw [← spread_set hp]; exact t.wrow (hr.next hb) (List.getElem?_eq_some_iff.1 hp).1, t.kp⟩⟩
/-- A row of functions' values, as it lies in memory. -/
def flat2 (rows : List Mvr) : List Value := rows.flatMap fun r => [r.a.val, r.d.val]
theorem flat2_at {rows : List Mvr} : ∀ {i : Nat} {r : Mvr}, rows[i]? = some r → (flat2 rows)[i * 2]? = some r.a.val ∧ (flat2 rows)[i * 2 + 1]? = some r.d.val := by
  induction rows with
  | nil => intro i r h; simp at h
  | cons x rs ih =>
    intro i r h
    cases i with
    | zero =>
      simp only [List.getElem?_cons_zero, Option.some.injEq] at h
      subst h
      exact ⟨rfl, rfl⟩
    | succ i =>
      have := ih (i := i) (r := r) (by simpa using h)
      have e : flat2 (x :: rs) = x.a.val :: x.d.val :: flat2 rs := rfl
      rw [e, show (i + 1) * 2 = i * 2 + 1 + 1 by omega, show i * 2 + 1 + 1 + 1 = (i * 2 + 1) + 1 + 1 by omega]
      simp only [List.getElem?_cons_succ]
      exact this
section
variable {w w' : World} {sb pb g n cap k q : Nat} {t : Tm} {l : List Pt} {p : Pt}
end
end Go.Proofs.Ytlfmjinllffifaa

namespace Go.Proofs.Ytlfmjinllffifaa
set_option linter.unusedVariables false
set_option linter.unusedSimpArgs false
open Go.RowKit Vm Rm Bm Im

/-- What a table's maker hands back: the table, and what stands in it. -/
def Made (w w' : World) (g : Nat) (l : List Pt) (k : Nat) (M : Option Mv) (e : Ending) : Prop :=
  ∃ (ta : Option Addr) (rows : List Mvr), e = .returned (.slice ta rows.length rows.length) ∧ rows.length ≤ 7 ∧ Tab w' g l k ta rows ∧ firstM rows = M ∧ Below w.heap.size w w'
theorem first_if {a d : Fv} {R : Bool} {m : Mv} {rs : List Mvr} {M : Option Mv} (h : firstM rs = M) : firstM (⟨a, d, R, m⟩ :: rs) = if R = true then some m else M := by subst h; rfl
theorem first_role (t : Tm) (p : Pt) (a1 d1 a2 d2 : Fv) : firstM [⟨a1, d1, decide (p.selected = 0 ∨ p.selected = 3 ∨ p.selected = 4), ⟨{ p with role := p.selected, learn := false, forward := false }, false, false⟩⟩, ⟨a2, d2, (decide (p.selected = 1) || decide (p.selected = 2)), ⟨role2P t p, false, false⟩⟩] = roleF' t p := by
  unfold roleF' role2P
  simp only [firstM, decide_eq_true_eq, Bool.or_eq_true]
  split
  · rfl
  · by_cases h1 : p.selected = 1
    · rw [if_pos (.inl h1), if_pos h1, if_pos h1, h1]
    · rw [if_neg h1]
      by_cases h2 : p.selected = 2
      · rw [if_pos (.inr h2), if_neg h1, if_pos h2, h2]
      · rw [if_neg (by simp [h1, h2]), if_neg h2, if_neg h1]

theorem first_root (t : Tm) (so ro : Bool) (p : Pt) (a1 d1 a2 d2 a3 d3 a4 d4 a5 d5 a6 d6 a7 d7 : Fv) :
    firstM [⟨a1, d1, propB p, ⟨{ p with proposed := false }, true, false⟩⟩, ⟨a2, d2, agreesB so p, ⟨{ p with proposed := false, agree := true, newInfo := true, sync := false }, false, false⟩⟩,
      ⟨a3, d3, ((p.agreed && !p.synced) || (p.sync && p.synced)), ⟨{ p with synced := true, sync := false }, false, false⟩⟩, ⟨a4, d4, (!p.forward && !p.reroot), ⟨p, false, true⟩⟩,
      ⟨a5, d5, (!decide (p.rr = t.delay)), ⟨{ p with rr := t.delay }, false, false⟩⟩, ⟨a6, d6, (p.reroot && p.forward), ⟨{ p with reroot := false }, false, false⟩⟩, ⟨a7, d7, (rootMayB ro p && closedB p), ⟨openP t p, false, false⟩⟩] = rootF t so ro p := by
  unfold rootF
  refine first_if (first_if (first_if (first_if (first_if (first_if ?_)))))
  show (if (rootMayB ro p && closedB p) = true then some (⟨openP t p, false, false⟩ : Mv) else none) = _
  unfold rootMayB closedB openP
  obtain ⟨x, hx⟩ : ∃ x, (decide (p.fd = 0) || (decide (p.rb = 0) && (p.sendRstp && ro))) = x := ⟨_, rfl⟩
  rw [hx]
  cases x
  · rfl
  · cases hl : p.learn
    · rfl
    · cases hf : p.forward <;> rfl

theorem des5_no (t : Tm) {p : Pt} (h : p.learn = false) : des5P t p = { p with learn := true, fd := t.delay } := by
  unfold des5P
  rw [if_pos h]
  unfold openP
  rw [if_pos h]
theorem des5_yes (t : Tm) {p : Pt} (h : p.learn = true) : des5P t p = { p with agreed := p.sendRstp, forward := true, fd := 0 } := by
  have h' : ¬ p.learn = false := by rw [h]; decide
  unfold des5P
  rw [if_neg h']
  unfold openP
  rw [if_neg h']
theorem first_des (t : Tm) (p : Pt) (a1 d1 a2 d2 a3 d3 a4 d4 a5 d5 : Fv) :
    firstM [⟨a1, d1, (!p.forward && (!p.agreed && (!p.proposing && (!p.oper && p.sendRstp)))), ⟨{ p with proposing := true, newInfo := true, edge := 3 }, false, false⟩⟩,
      ⟨a2, d2, ((!p.synced && (stillB p || (p.agreed || p.oper))) || (p.sync && p.synced)), ⟨{ p with rr := 0, synced := true, sync := false }, false, false⟩⟩, ⟨a3, d3, (decide (p.rr = 0) && p.reroot), ⟨{ p with reroot := false }, false, false⟩⟩,
      ⟨a4, d4, (desStops p && (!p.oper && (p.learn || p.forward))), ⟨{ p with learn := false, forward := false, disputed := false, fd := t.delay }, false, false⟩⟩, ⟨a5, d5, (desMay p && closedB p), ⟨des5P t p, false, false⟩⟩] = desF t p := by
  unfold desF
  refine first_if (first_if (first_if (first_if ?_)))
  show (if (desMay p && closedB p) = true then some (⟨des5P t p, false, false⟩ : Mv) else none) = _
  unfold closedB
  obtain ⟨x, hx⟩ : ∃ x, desMay p = x := ⟨_, rfl⟩
  rw [hx]
  cases x
  · rfl
  · by_cases h : p.learn = false
    · rw [des5_no t h, if_pos (show (true && (!p.learn || !p.forward)) = true by rw [h]; rfl), if_pos (show (true && !p.learn) = true by rw [h]; rfl)]
    · have h' : p.learn = true := by cases hl : p.learn; exact absurd hl h; rfl
      rw [des5_yes t h', if_neg (show ¬ (true && !p.learn) = true by rw [h']; decide)]
      by_cases f : p.forward = true
      · rw [if_neg (show ¬ (true && (!p.learn || !p.forward)) = true by rw [h', f]; decide), if_neg (show ¬ (true && !p.forward) = true by rw [f]; decide)]
      · have f' : p.forward = false := by cases hl : p.forward; rfl; exact absurd hl f
        rw [if_pos (show (true && (!p.learn || !p.forward)) = true by rw [h', f']; rfl), if_pos (show (true && !p.forward) = true by rw [f']; rfl)]

end Go.Proofs.Ytlfmjinllffifaa

namespace Go.Proofs.Ytlfmjinllffifaa
set_option linter.unusedVariables false
set_option linter.unusedSimpArgs false
open Go.RowKit Vm Rm Bm Im

theorem first_block (t : Tm) (so : Bool) (p : Pt) (a1 d1 a2 d2 a3 d3 a4 d4 : Fv) :
    firstM [⟨a1, d1, ((p.role != 0) && (stillB p && propB p)), ⟨{ p with proposed := false }, true, false⟩⟩, ⟨a2, d2, ((p.role != 0) && agreesB so p), ⟨{ p with proposed := false, agree := true, newInfo := true }, false, false⟩⟩,
      ⟨a3, d3, (stillB p && (!decide (p.fd = heldI t p) || (p.sync || (p.reroot || !p.synced)))), ⟨{ p with fd := heldI t p, synced := true, rr := 0, sync := false, reroot := false }, false, false⟩⟩, ⟨a4, d4, (decide (p.role = 4) && !decide (p.rb = 2 * t.hello)), ⟨{ p with rb := 2 * t.hello }, false, false⟩⟩] = blockF t so p := by
  unfold blockF
  exact first_if (first_if (first_if (first_if rfl)))
end Go.Proofs.Ytlfmjinllffifaa

namespace Go.Proofs.Ytlfmjinllffifaa
set_option linter.unusedVariables false
set_option linter.unusedSimpArgs false
open Go.RowKit Vm Rm Bm Im

theorem Made.behind {w a w' : World} {g k : Nat} {l : List Pt} {M : Option Mv} {e : Ending} (h : Made a w' g l k M e) (hb : Below w.heap.size w a) : Made w w' g l k M e := by
  obtain ⟨ta, rows, h1, h2, h3, h4, h5⟩ := h
  exact ⟨ta, rows, h1, h2, h3, h4, bw_trans hb h5⟩
theorem made_none {w w' : World} {g k : Nat} {l : List Pt} (hb : Below w.heap.size w w') : Made w w' g l k none (.returned (.slice none 0 0)) :=
  ⟨none, [], rfl, Nat.zero_le _, fun i r h => by simp at h, rfl, hb⟩

/-- What a move makes, with its ways. -/
theorem moveP_yes {t : Tm} {l : List Pt} {k : Nat} {p : Pt} {m : Mv} (hb : rightBr t = true) (hp : l[k]? = some p) (hm : moveF t (othersB syncedO l k) (othersB rerootedO l k) p = some m) : moveP t l k = (l.mapIdx (spreadAt m k), true) := by
  unfold moveP moveAtP
  rw [if_pos hb, hp]
  simp only [hm, Option.map_some]
theorem moveP_no {t : Tm} {l : List Pt} {k : Nat} {p : Pt} (hp : l[k]? = some p) (hm : moveF t (othersB syncedO l k) (othersB rerootedO l k) p = none) : moveP t l k = (l, false) := by
  unfold moveP moveAtP
  by_cases hb : rightBr t = true
  · rw [if_pos hb, hp]
    simp only [hm, Option.map_none]
  · rw [if_neg hb]
theorem moveP_wrong {t : Tm} {l : List Pt} {k : Nat} (hb : rightBr t = false) : moveP t l k = (l, false) := by
  unfold moveP moveAtP
  rw [if_neg (by rw [hb]; decide)]
theorem right_hello {t : Tm} (h : rightBr t = true) : 0 ≤ t.hello ∧ t.hello ≤ 1000 := by
  unfold rightBr at h
  simp only [Bool.and_eq_true, decide_eq_true_eq] at h
  omega
def MIv (rows : List Mvr) (N : Nat) (W : World) (v : Value) (wr : World) : Prop :=
  ∃ j : Nat, j ≤ N ∧ v = .int .i64 (j : Nat) ∧ (∀ i r, i < j → rows[i]? = some r → r.R = false) ∧ Below W.heap.size W wr

end Go.Proofs.Ytlfmjinllffifaa

namespace Go.Proofs.Ytlfmjinllffifaa
set_option linter.unusedVariables false
set_option linter.unusedSimpArgs false
open Go.RowKit Vm Rm Bm Im

/-- A port's block turned into Y, behind a world V; its copy's block is as it was. -/
theorem state_end (p Y : Pt) (nb : Nat) (w V : World) (K : PtBlk 47 V (nb + 1) zeroP) (hB : Below nb w V) : PtBlk 47 (V.setRow (nb + 1) (cellsT Y)) (nb + 1) Y ∧ Below nb w (V.setRow (nb + 1) (cellsT Y)) :=
  ⟨K.row Y, below_row hB (by omega) (cellsT Y)⟩

end Go.Proofs.Ytlfmjinllffifaa
