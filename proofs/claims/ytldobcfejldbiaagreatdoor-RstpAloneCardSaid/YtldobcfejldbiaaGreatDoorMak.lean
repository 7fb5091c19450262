/-
  Layer 12: a port in the midst of a row, which may be written; what turns in it.
  Layer 12: what is asked of one port, by its address.
  Layer 12: a seat; what is asked of all others; what is done to all.
  Layer 12: what is asked of a seat, and by the closures of a table of moves.
-/
import Derived.Test.YtldobcfejldbiaaGreatDoorMaj
import Derived.Test.YtldobcfejldbiaaGreatDoorMah
import Derived.Test.YtldobcfejldbiaaGreatDoorMaa
import Derived.Test.YtldobcfejldbiaaGreatDoorMad
namespace Go.Proofs.YtldobcfejldbiaaGreatDoor
set_option linter.unusedVariables false
set_option linter.unusedSimpArgs false
open Go.RowKit Vm Rm Bm Im

/-- A port at cell q of block g. -/
structure PAt (w : World) (g q : Nat) (p : Pt) : Prop where
  lt : g < w.heap.size
  at_ : ∀ c v, (cellsT p)[c]? = some v → w.cell? ⟨g, q + c, none⟩ = some v
  free : ∀ j, j < 61 → w.frozen? ⟨g, q + j, none⟩ = false
section
variable {w w' : World} {g q : Nat} {p : Pt}
theorem PAt.next (h : PAt w g q p) (hb : Below w.heap.size w w') : PAt w' g q p :=
  ⟨Nat.lt_of_lt_of_le h.lt hb.size, fun c v hv => (hb.cell (p := ⟨g, q + c, none⟩) h.lt).trans (h.at_ c v hv), fun j hj => by
    have h0 := hb.block g h.lt
    have h1 := h.free j hj
    unfold World.frozen? at h1 ⊢
    simp only [h0]
    exact h1⟩
theorem PAt.s (h : PAt w g q p) (c : Nat) (x : Value) {p' : Pt} (hc : c < 61) (he : (cellsT p).setIfInBounds c x = cellsT p') : PAt (w.setCell ⟨g, q + c, none⟩ x) g q p' := by
  obtain ⟨u, hu⟩ : ∃ u, (cellsT p)[c]? = some u := ⟨(cellsT p)[c]'(by rw [cellsT_size]; exact hc), Array.getElem?_eq_getElem _⟩
  refine ⟨by rw [size_set]; exact h.lt, fun j v hv => ?_, fun j hj => by rw [World.frozen?_setCell]; exact h.free j hj⟩
  rw [← he] at hv
  by_cases hj : c = j
  · subst hj
    rw [Array.getElem?_setIfInBounds_self_of_lt (by rw [cellsT_size]; exact hc)] at hv
    cases hv
    exact World.cell?_setCell_same w _ _ (h.at_ c u hu)
  · rw [Array.getElem?_setIfInBounds_ne hj] at hv
    rw [World.cell?_setCell_other w _ _ _ (fun e => hj (by have := congrArg Addr.off e; simpa using this))]
    exact h.at_ j v hv
theorem PAt.c_id (h : PAt w g q p) : w.cell? ⟨g, q, none⟩ = some (.int .u64 p.id) := h.at_ 0 _ rfl
theorem PAt.c_cost (h : PAt w g q p) : w.cell? ⟨g, q + 1, none⟩ = some (.int .u64 p.cost) := h.at_ 1 _ rfl
theorem PAt.c_on (h : PAt w g q p) : w.cell? ⟨g, q + 2, none⟩ = some (.bool p.on) := h.at_ 2 _ rfl
theorem PAt.c_admin (h : PAt w g q p) : w.cell? ⟨g, q + 3, none⟩ = some (.bool p.admin) := h.at_ 3 _ rfl
theorem PAt.c_oper (h : PAt w g q p) : w.cell? ⟨g, q + 4, none⟩ = some (.bool p.oper) := h.at_ 4 _ rfl
theorem PAt.c_source (h : PAt w g q p) : w.cell? ⟨g, q + 5, none⟩ = some (.int .i64 p.source) := h.at_ 5 _ rfl
theorem PAt.c_vec_root (h : PAt w g q p) : w.cell? ⟨g, q + 6, none⟩ = some (.int .u64 p.vec.root) := h.at_ 6 _ rfl
theorem PAt.c_vec_cost (h : PAt w g q p) : w.cell? ⟨g, q + 7, none⟩ = some (.int .u64 p.vec.cost) := h.at_ 7 _ rfl
theorem PAt.c_vec_bridge (h : PAt w g q p) : w.cell? ⟨g, q + 8, none⟩ = some (.int .u64 p.vec.bridge) := h.at_ 8 _ rfl
theorem PAt.c_vec_port (h : PAt w g q p) : w.cell? ⟨g, q + 9, none⟩ = some (.int .u64 p.vec.port) := h.at_ 9 _ rfl
theorem PAt.c_times_age (h : PAt w g q p) : w.cell? ⟨g, q + 10, none⟩ = some (.int .i64 p.times.age) := h.at_ 10 _ rfl
theorem PAt.c_times_max (h : PAt w g q p) : w.cell? ⟨g, q + 11, none⟩ = some (.int .i64 p.times.max) := h.at_ 11 _ rfl
theorem PAt.c_times_hello (h : PAt w g q p) : w.cell? ⟨g, q + 12, none⟩ = some (.int .i64 p.times.hello) := h.at_ 12 _ rfl
theorem PAt.c_times_delay (h : PAt w g q p) : w.cell? ⟨g, q + 13, none⟩ = some (.int .i64 p.times.delay) := h.at_ 13 _ rfl
theorem PAt.c_offer_root (h : PAt w g q p) : w.cell? ⟨g, q + 14, none⟩ = some (.int .u64 p.offer.root) := h.at_ 14 _ rfl
theorem PAt.c_offer_cost (h : PAt w g q p) : w.cell? ⟨g, q + 15, none⟩ = some (.int .u64 p.offer.cost) := h.at_ 15 _ rfl
theorem PAt.c_offer_bridge (h : PAt w g q p) : w.cell? ⟨g, q + 16, none⟩ = some (.int .u64 p.offer.bridge) := h.at_ 16 _ rfl
theorem PAt.c_offer_port (h : PAt w g q p) : w.cell? ⟨g, q + 17, none⟩ = some (.int .u64 p.offer.port) := h.at_ 17 _ rfl
theorem PAt.c_given_age (h : PAt w g q p) : w.cell? ⟨g, q + 18, none⟩ = some (.int .i64 p.given.age) := h.at_ 18 _ rfl
theorem PAt.c_given_max (h : PAt w g q p) : w.cell? ⟨g, q + 19, none⟩ = some (.int .i64 p.given.max) := h.at_ 19 _ rfl
theorem PAt.c_given_hello (h : PAt w g q p) : w.cell? ⟨g, q + 20, none⟩ = some (.int .i64 p.given.hello) := h.at_ 20 _ rfl
theorem PAt.c_given_delay (h : PAt w g q p) : w.cell? ⟨g, q + 21, none⟩ = some (.int .i64 p.given.delay) := h.at_ 21 _ rfl
theorem PAt.c_role (h : PAt w g q p) : w.cell? ⟨g, q + 22, none⟩ = some (.int .i64 p.role) := h.at_ 22 _ rfl
theorem PAt.c_selected (h : PAt w g q p) : w.cell? ⟨g, q + 23, none⟩ = some (.int .i64 p.selected) := h.at_ 23 _ rfl
theorem PAt.c_ready (h : PAt w g q p) : w.cell? ⟨g, q + 24, none⟩ = some (.bool p.ready) := h.at_ 24 _ rfl
theorem PAt.c_update (h : PAt w g q p) : w.cell? ⟨g, q + 25, none⟩ = some (.bool p.update) := h.at_ 25 _ rfl
theorem PAt.c_reselect (h : PAt w g q p) : w.cell? ⟨g, q + 26, none⟩ = some (.bool p.reselect) := h.at_ 26 _ rfl
theorem PAt.c_learn (h : PAt w g q p) : w.cell? ⟨g, q + 27, none⟩ = some (.bool p.learn) := h.at_ 27 _ rfl
theorem PAt.c_learning (h : PAt w g q p) : w.cell? ⟨g, q + 28, none⟩ = some (.bool p.learning) := h.at_ 28 _ rfl
theorem PAt.c_forward (h : PAt w g q p) : w.cell? ⟨g, q + 29, none⟩ = some (.bool p.forward) := h.at_ 29 _ rfl
theorem PAt.c_forwarding (h : PAt w g q p) : w.cell? ⟨g, q + 30, none⟩ = some (.bool p.forwarding) := h.at_ 30 _ rfl
theorem PAt.c_agree (h : PAt w g q p) : w.cell? ⟨g, q + 31, none⟩ = some (.bool p.agree) := h.at_ 31 _ rfl
theorem PAt.c_agreed (h : PAt w g q p) : w.cell? ⟨g, q + 32, none⟩ = some (.bool p.agreed) := h.at_ 32 _ rfl
theorem PAt.c_proposed (h : PAt w g q p) : w.cell? ⟨g, q + 33, none⟩ = some (.bool p.proposed) := h.at_ 33 _ rfl
theorem PAt.c_proposing (h : PAt w g q p) : w.cell? ⟨g, q + 34, none⟩ = some (.bool p.proposing) := h.at_ 34 _ rfl
theorem PAt.c_sync (h : PAt w g q p) : w.cell? ⟨g, q + 35, none⟩ = some (.bool p.sync) := h.at_ 35 _ rfl
theorem PAt.c_synced (h : PAt w g q p) : w.cell? ⟨g, q + 36, none⟩ = some (.bool p.synced) := h.at_ 36 _ rfl
theorem PAt.c_reroot (h : PAt w g q p) : w.cell? ⟨g, q + 37, none⟩ = some (.bool p.reroot) := h.at_ 37 _ rfl
theorem PAt.c_disputed (h : PAt w g q p) : w.cell? ⟨g, q + 38, none⟩ = some (.bool p.disputed) := h.at_ 38 _ rfl
theorem PAt.c_newInfo (h : PAt w g q p) : w.cell? ⟨g, q + 39, none⟩ = some (.bool p.newInfo) := h.at_ 39 _ rfl
theorem PAt.c_heardTc (h : PAt w g q p) : w.cell? ⟨g, q + 40, none⟩ = some (.bool p.heardTc) := h.at_ 40 _ rfl
theorem PAt.c_heardTcn (h : PAt w g q p) : w.cell? ⟨g, q + 41, none⟩ = some (.bool p.heardTcn) := h.at_ 41 _ rfl
theorem PAt.c_heardAck (h : PAt w g q p) : w.cell? ⟨g, q + 42, none⟩ = some (.bool p.heardAck) := h.at_ 42 _ rfl
theorem PAt.c_tcAck (h : PAt w g q p) : w.cell? ⟨g, q + 43, none⟩ = some (.bool p.tcAck) := h.at_ 43 _ rfl
theorem PAt.c_tcProp (h : PAt w g q p) : w.cell? ⟨g, q + 44, none⟩ = some (.bool p.tcProp) := h.at_ 44 _ rfl
theorem PAt.c_flush (h : PAt w g q p) : w.cell? ⟨g, q + 45, none⟩ = some (.bool p.flush) := h.at_ 45 _ rfl
theorem PAt.c_sendRstp (h : PAt w g q p) : w.cell? ⟨g, q + 46, none⟩ = some (.bool p.sendRstp) := h.at_ 46 _ rfl
theorem PAt.c_heardRstp (h : PAt w g q p) : w.cell? ⟨g, q + 47, none⟩ = some (.bool p.heardRstp) := h.at_ 47 _ rfl
theorem PAt.c_heardStp (h : PAt w g q p) : w.cell? ⟨g, q + 48, none⟩ = some (.bool p.heardStp) := h.at_ 48 _ rfl
theorem PAt.c_check (h : PAt w g q p) : w.cell? ⟨g, q + 49, none⟩ = some (.bool p.check) := h.at_ 49 _ rfl
theorem PAt.c_fd (h : PAt w g q p) : w.cell? ⟨g, q + 50, none⟩ = some (.int .i64 p.fd) := h.at_ 50 _ rfl
theorem PAt.c_rr (h : PAt w g q p) : w.cell? ⟨g, q + 51, none⟩ = some (.int .i64 p.rr) := h.at_ 51 _ rfl
theorem PAt.c_rb (h : PAt w g q p) : w.cell? ⟨g, q + 52, none⟩ = some (.int .i64 p.rb) := h.at_ 52 _ rfl
theorem PAt.c_tc (h : PAt w g q p) : w.cell? ⟨g, q + 53, none⟩ = some (.int .i64 p.tc) := h.at_ 53 _ rfl
theorem PAt.c_edge (h : PAt w g q p) : w.cell? ⟨g, q + 54, none⟩ = some (.int .i64 p.edge) := h.at_ 54 _ rfl
theorem PAt.c_md (h : PAt w g q p) : w.cell? ⟨g, q + 55, none⟩ = some (.int .i64 p.md) := h.at_ 55 _ rfl
theorem PAt.c_info (h : PAt w g q p) : w.cell? ⟨g, q + 56, none⟩ = some (.int .i64 p.info) := h.at_ 56 _ rfl
theorem PAt.c_hello (h : PAt w g q p) : w.cell? ⟨g, q + 57, none⟩ = some (.int .i64 p.hello) := h.at_ 57 _ rfl
theorem PAt.c_txCount (h : PAt w g q p) : w.cell? ⟨g, q + 58, none⟩ = some (.int .i64 p.txCount) := h.at_ 58 _ rfl
theorem PAt.c_change (h : PAt w g q p) : w.cell? ⟨g, q + 59, none⟩ = some (.int .i64 p.change) := h.at_ 59 _ rfl
theorem PAt.c_migrate (h : PAt w g q p) : w.cell? ⟨g, q + 60, none⟩ = some (.int .i64 p.migrate) := h.at_ 60 _ rfl
theorem PAt.s_on (h : PAt w g q p) (x : Bool) : PAt (w.setCell ⟨g, q + 2, none⟩ (.bool x)) g q { p with on := x } := h.s 2 _ (by omega) rfl
theorem PAt.s_oper (h : PAt w g q p) (x : Bool) : PAt (w.setCell ⟨g, q + 4, none⟩ (.bool x)) g q { p with oper := x } := h.s 4 _ (by omega) rfl
theorem PAt.s_source (h : PAt w g q p) (x : Int) : PAt (w.setCell ⟨g, q + 5, none⟩ (.int .i64 x)) g q { p with source := x } := h.s 5 _ (by omega) rfl
theorem PAt.s_role (h : PAt w g q p) (x : Int) : PAt (w.setCell ⟨g, q + 22, none⟩ (.int .i64 x)) g q { p with role := x } := h.s 22 _ (by omega) rfl
theorem PAt.f_role (h : PAt w g q p) : w.frozen? ⟨g, q + 22, none⟩ = false := h.free 22 (by omega)
theorem PAt.s_selected (h : PAt w g q p) (x : Int) : PAt (w.setCell ⟨g, q + 23, none⟩ (.int .i64 x)) g q { p with selected := x } := h.s 23 _ (by omega) rfl
theorem PAt.s_ready (h : PAt w g q p) (x : Bool) : PAt (w.setCell ⟨g, q + 24, none⟩ (.bool x)) g q { p with ready := x } := h.s 24 _ (by omega) rfl
theorem PAt.s_update (h : PAt w g q p) (x : Bool) : PAt (w.setCell ⟨g, q + 25, none⟩ (.bool x)) g q { p with update := x } := h.s 25 _ (by omega) rfl
theorem PAt.s_reselect (h : PAt w g q p) (x : Bool) : PAt (w.setCell ⟨g, q + 26, none⟩ (.bool x)) g q { p with reselect := x } := h.s 26 _ (by omega) rfl
theorem PAt.s_learn (h : PAt w g q p) (x : Bool) : PAt (w.setCell ⟨g, q + 27, none⟩ (.bool x)) g q { p with learn := x } := h.s 27 _ (by omega) rfl
theorem PAt.f_learn (h : PAt w g q p) : w.frozen? ⟨g, q + 27, none⟩ = false := h.free 27 (by omega)
theorem PAt.s_learning (h : PAt w g q p) (x : Bool) : PAt (w.setCell ⟨g, q + 28, none⟩ (.bool x)) g q { p with learning := x } := h.s 28 _ (by omega) rfl
theorem PAt.s_forward (h : PAt w g q p) (x : Bool) : PAt (w.setCell ⟨g, q + 29, none⟩ (.bool x)) g q { p with forward := x } := h.s 29 _ (by omega) rfl
theorem PAt.f_forward (h : PAt w g q p) : w.frozen? ⟨g, q + 29, none⟩ = false := h.free 29 (by omega)
theorem PAt.s_forwarding (h : PAt w g q p) (x : Bool) : PAt (w.setCell ⟨g, q + 30, none⟩ (.bool x)) g q { p with forwarding := x } := h.s 30 _ (by omega) rfl
theorem PAt.s_agree (h : PAt w g q p) (x : Bool) : PAt (w.setCell ⟨g, q + 31, none⟩ (.bool x)) g q { p with agree := x } := h.s 31 _ (by omega) rfl
theorem PAt.f_agree (h : PAt w g q p) : w.frozen? ⟨g, q + 31, none⟩ = false := h.free 31 (by omega)
theorem PAt.s_agreed (h : PAt w g q p) (x : Bool) : PAt (w.setCell ⟨g, q + 32, none⟩ (.bool x)) g q { p with agreed := x } := h.s 32 _ (by omega) rfl
theorem PAt.f_agreed (h : PAt w g q p) : w.frozen? ⟨g, q + 32, none⟩ = false := h.free 32 (by omega)
theorem PAt.s_proposed (h : PAt w g q p) (x : Bool) : PAt (w.setCell ⟨g, q + 33, none⟩ (.bool x)) g q { p with proposed := x } := h.s 33 _ (by omega) rfl
theorem PAt.f_proposed (h : PAt w g q p) : w.frozen? ⟨g, q + 33, none⟩ = false := h.free 33 (by omega)
theorem PAt.s_proposing (h : PAt w g q p) (x : Bool) : PAt (w.setCell ⟨g, q + 34, none⟩ (.bool x)) g q { p with proposing := x } := h.s 34 _ (by omega) rfl
theorem PAt.f_proposing (h : PAt w g q p) : w.frozen? ⟨g, q + 34, none⟩ = false := h.free 34 (by omega)
theorem PAt.s_sync (h : PAt w g q p) (x : Bool) : PAt (w.setCell ⟨g, q + 35, none⟩ (.bool x)) g q { p with sync := x } := h.s 35 _ (by omega) rfl
theorem PAt.f_sync (h : PAt w g q p) : w.frozen? ⟨g, q + 35, none⟩ = false := h.free 35 (by omega)
theorem PAt.s_synced (h : PAt w g q p) (x : Bool) : PAt (w.setCell ⟨g, q + 36, none⟩ (.bool x)) g q { p with synced := x } := h.s 36 _ (by omega) rfl
theorem PAt.f_synced (h : PAt w g q p) : w.frozen? ⟨g, q + 36, none⟩ = false := h.free 36 (by omega)
theorem PAt.s_reroot (h : PAt w g q p) (x : Bool) : PAt (w.setCell ⟨g, q + 37, none⟩ (.bool x)) g q { p with reroot := x } := h.s 37 _ (by omega) rfl
theorem PAt.f_reroot (h : PAt w g q p) : w.frozen? ⟨g, q + 37, none⟩ = false := h.free 37 (by omega)
theorem PAt.s_disputed (h : PAt w g q p) (x : Bool) : PAt (w.setCell ⟨g, q + 38, none⟩ (.bool x)) g q { p with disputed := x } := h.s 38 _ (by omega) rfl
theorem PAt.f_disputed (h : PAt w g q p) : w.frozen? ⟨g, q + 38, none⟩ = false := h.free 38 (by omega)
theorem PAt.s_newInfo (h : PAt w g q p) (x : Bool) : PAt (w.setCell ⟨g, q + 39, none⟩ (.bool x)) g q { p with newInfo := x } := h.s 39 _ (by omega) rfl
theorem PAt.f_newInfo (h : PAt w g q p) : w.frozen? ⟨g, q + 39, none⟩ = false := h.free 39 (by omega)
theorem PAt.s_heardTc (h : PAt w g q p) (x : Bool) : PAt (w.setCell ⟨g, q + 40, none⟩ (.bool x)) g q { p with heardTc := x } := h.s 40 _ (by omega) rfl
theorem PAt.s_heardTcn (h : PAt w g q p) (x : Bool) : PAt (w.setCell ⟨g, q + 41, none⟩ (.bool x)) g q { p with heardTcn := x } := h.s 41 _ (by omega) rfl
theorem PAt.s_heardAck (h : PAt w g q p) (x : Bool) : PAt (w.setCell ⟨g, q + 42, none⟩ (.bool x)) g q { p with heardAck := x } := h.s 42 _ (by omega) rfl
theorem PAt.f_heardAck (h : PAt w g q p) : w.frozen? ⟨g, q + 42, none⟩ = false := h.free 42 (by omega)
theorem PAt.s_tcAck (h : PAt w g q p) (x : Bool) : PAt (w.setCell ⟨g, q + 43, none⟩ (.bool x)) g q { p with tcAck := x } := h.s 43 _ (by omega) rfl
theorem PAt.f_tcAck (h : PAt w g q p) : w.frozen? ⟨g, q + 43, none⟩ = false := h.free 43 (by omega)
theorem PAt.s_tcProp (h : PAt w g q p) (x : Bool) : PAt (w.setCell ⟨g, q + 44, none⟩ (.bool x)) g q { p with tcProp := x } := h.s 44 _ (by omega) rfl
theorem PAt.f_tcProp (h : PAt w g q p) : w.frozen? ⟨g, q + 44, none⟩ = false := h.free 44 (by omega)
theorem PAt.s_flush (h : PAt w g q p) (x : Bool) : PAt (w.setCell ⟨g, q + 45, none⟩ (.bool x)) g q { p with flush := x } := h.s 45 _ (by omega) rfl
theorem PAt.f_flush (h : PAt w g q p) : w.frozen? ⟨g, q + 45, none⟩ = false := h.free 45 (by omega)
theorem PAt.s_sendRstp (h : PAt w g q p) (x : Bool) : PAt (w.setCell ⟨g, q + 46, none⟩ (.bool x)) g q { p with sendRstp := x } := h.s 46 _ (by omega) rfl
theorem PAt.s_heardRstp (h : PAt w g q p) (x : Bool) : PAt (w.setCell ⟨g, q + 47, none⟩ (.bool x)) g q { p with heardRstp := x } := h.s 47 _ (by omega) rfl
theorem PAt.s_heardStp (h : PAt w g q p) (x : Bool) : PAt (w.setCell ⟨g, q + 48, none⟩ (.bool x)) g q { p with heardStp := x } := h.s 48 _ (by omega) rfl
theorem PAt.s_check (h : PAt w g q p) (x : Bool) : PAt (w.setCell ⟨g, q + 49, none⟩ (.bool x)) g q { p with check := x } := h.s 49 _ (by omega) rfl
theorem PAt.s_fd (h : PAt w g q p) (x : Int) : PAt (w.setCell ⟨g, q + 50, none⟩ (.int .i64 x)) g q { p with fd := x } := h.s 50 _ (by omega) rfl
theorem PAt.f_fd (h : PAt w g q p) : w.frozen? ⟨g, q + 50, none⟩ = false := h.free 50 (by omega)
theorem PAt.s_rr (h : PAt w g q p) (x : Int) : PAt (w.setCell ⟨g, q + 51, none⟩ (.int .i64 x)) g q { p with rr := x } := h.s 51 _ (by omega) rfl
theorem PAt.f_rr (h : PAt w g q p) : w.frozen? ⟨g, q + 51, none⟩ = false := h.free 51 (by omega)
theorem PAt.s_rb (h : PAt w g q p) (x : Int) : PAt (w.setCell ⟨g, q + 52, none⟩ (.int .i64 x)) g q { p with rb := x } := h.s 52 _ (by omega) rfl
theorem PAt.f_rb (h : PAt w g q p) : w.frozen? ⟨g, q + 52, none⟩ = false := h.free 52 (by omega)
theorem PAt.s_tc (h : PAt w g q p) (x : Int) : PAt (w.setCell ⟨g, q + 53, none⟩ (.int .i64 x)) g q { p with tc := x } := h.s 53 _ (by omega) rfl
theorem PAt.f_tc (h : PAt w g q p) : w.frozen? ⟨g, q + 53, none⟩ = false := h.free 53 (by omega)
theorem PAt.s_edge (h : PAt w g q p) (x : Int) : PAt (w.setCell ⟨g, q + 54, none⟩ (.int .i64 x)) g q { p with edge := x } := h.s 54 _ (by omega) rfl
theorem PAt.f_edge (h : PAt w g q p) : w.frozen? ⟨g, q + 54, none⟩ = false := h.free 54 (by omega)
theorem PAt.s_md (h : PAt w g q p) (x : Int) : PAt (w.setCell ⟨g, q + 55, none⟩ (.int .i64 x)) g q { p with md := x } := h.s 55 _ (by omega) rfl
theorem PAt.s_info (h : PAt w g q p) (x : Int) : PAt (w.setCell ⟨g, q + 56, none⟩ (.int .i64 x)) g q { p with info := x } := h.s 56 _ (by omega) rfl
theorem PAt.s_hello (h : PAt w g q p) (x : Int) : PAt (w.setCell ⟨g, q + 57, none⟩ (.int .i64 x)) g q { p with hello := x } := h.s 57 _ (by omega) rfl
theorem PAt.s_txCount (h : PAt w g q p) (x : Int) : PAt (w.setCell ⟨g, q + 58, none⟩ (.int .i64 x)) g q { p with txCount := x } := h.s 58 _ (by omega) rfl
theorem PAt.s_change (h : PAt w g q p) (x : Int) : PAt (w.setCell ⟨g, q + 59, none⟩ (.int .i64 x)) g q { p with change := x } := h.s 59 _ (by omega) rfl
theorem PAt.f_change (h : PAt w g q p) : w.frozen? ⟨g, q + 59, none⟩ = false := h.free 59 (by omega)
theorem PAt.s_migrate (h : PAt w g q p) (x : Int) : PAt (w.setCell ⟨g, q + 60, none⟩ (.int .i64 x)) g q { p with migrate := x } := h.s 60 _ (by omega) rfl
end
/-- Block g alone has turned, and in it what lies at q alone; it holds X. -/
structure Ta (g q : Nat) (X : Pt) (w w' : World) : Prop where
  blk : PAt w' g q X
  os : w'.os = w.os
  tape : w'.tape = w.tape
  output : w'.output = w.output
  size : w.heap.size ≤ w'.heap.size
  block : ∀ i, i < w.heap.size → i ≠ g → w'.heap[i]? = w.heap[i]?
  far : ∀ j, j < q ∨ q + 61 ≤ j → w'.cell? ⟨g, j, none⟩ = w.cell? ⟨g, j, none⟩
  free : ∀ j, w'.frozen? ⟨g, j, none⟩ = w.frozen? ⟨g, j, none⟩
section
variable {g q : Nat} {X Y : Pt} {w w1 w2 : World}
theorem Ta.refl (h : PAt w g q X) : Ta g q X w w := ⟨h, rfl, rfl, rfl, Nat.le_refl _, fun _ _ _ => rfl, fun _ _ => rfl, fun _ => rfl⟩
theorem Ta.trans (h : Ta g q X w w1) (k : Ta g q Y w1 w2) : Ta g q Y w w2 :=
  ⟨k.blk, k.os.trans h.os, k.tape.trans h.tape, k.output.trans h.output, Nat.le_trans h.size k.size, fun i hi hn => (k.block i (Nat.lt_of_lt_of_le hi h.size) hn).trans (h.block i hi hn), fun j hj => (k.far j hj).trans (h.far j hj), fun j => (k.free j).trans (h.free j)⟩
theorem Ta.set (h : Ta g q X w w1) (c : Nat) (v : Value) (hc : c < 61) (hY : PAt (w1.setCell ⟨g, q + c, none⟩ v) g q Y) : Ta g q Y w (w1.setCell ⟨g, q + c, none⟩ v) :=
  ⟨hY, h.os, h.tape, h.output, by rw [size_set]; exact h.size, fun i hi hn => (Below.heap_setCell w1 ⟨g, q + c, none⟩ v i hn).trans (h.block i hi hn), fun j hj => by
    rw [World.cell?_setCell_other w1 _ _ _ (fun e => by have := congrArg Addr.off e; simp at this; omega)]
    exact h.far j hj, fun j => by rw [World.frozen?_setCell]; exact h.free j⟩
theorem frozen_below {w w1 : World} {g j : Nat} (hb : Below w.heap.size w w1) (hg : g < w.heap.size) : w1.frozen? ⟨g, j, none⟩ = w.frozen? ⟨g, j, none⟩ := by
  have h0 := hb.block g hg
  unfold World.frozen?
  simp only [h0]
theorem Ta.grow (h : Ta g q X w w1) (hb : Below w1.heap.size w1 w2) : Ta g q X w w2 :=
  ⟨h.blk.next hb, hb.os.trans h.os, hb.tape.trans h.tape, hb.output.trans h.output, Nat.le_trans h.size hb.size, fun i hi hn => (hb.block i (Nat.lt_of_lt_of_le hi h.size)).trans (h.block i hi hn),
    fun j hj => (hb.cell (p := ⟨g, j, none⟩) h.blk.lt).trans (h.far j hj), fun j => (frozen_below hb h.blk.lt).trans (h.free j)⟩
theorem Ta.before (h : Ta g q X w1 w2) (hb : Below w.heap.size w w1) (hg : g < w.heap.size) : Ta g q X w w2 :=
  ⟨h.blk, h.os.trans hb.os, h.tape.trans hb.tape, h.output.trans hb.output, Nat.le_trans hb.size h.size, fun i hi hn => (h.block i (Nat.lt_of_lt_of_le hi hb.size) hn).trans (hb.block i hi),
    fun j hj => (h.far j hj).trans (hb.cell (p := ⟨g, j, none⟩) hg), fun j => (h.free j).trans (frozen_below hb hg)⟩
theorem Ta.as (h : Ta g q X w w1) (e : X = Y) : Ta g q Y w w1 := e ▸ h
theorem Ta.drawN (h : Ta g q X w w1) (n : Nat) : Ta g q X w (w1.drewN n) := ⟨⟨h.blk.lt, h.blk.at_, h.blk.free⟩, h.os, h.tape, h.output, h.size, h.block, h.far, h.free⟩
theorem Ta.draw (h : Ta g q X w w1) : Ta g q X w w1.drew := ⟨⟨h.blk.lt, h.blk.at_, h.blk.free⟩, h.os, h.tape, h.output, h.size, h.block, h.far, h.free⟩
theorem Ta.at {i : Nat} (h : Ta g q X w w1) (hi : i < w.heap.size) (hn : i ≠ g) : w1.heap[i]? = w.heap[i]? := h.block i hi hn
theorem Ta.s_on (h : Ta g q X w w1) (x : Bool) : Ta g q { X with on := x } w (w1.setCell ⟨g, q + 2, none⟩ (.bool x)) := h.set 2 _ (by omega) (h.blk.s_on x)
theorem Ta.s_oper (h : Ta g q X w w1) (x : Bool) : Ta g q { X with oper := x } w (w1.setCell ⟨g, q + 4, none⟩ (.bool x)) := h.set 4 _ (by omega) (h.blk.s_oper x)
theorem Ta.s_source (h : Ta g q X w w1) (x : Int) : Ta g q { X with source := x } w (w1.setCell ⟨g, q + 5, none⟩ (.int .i64 x)) := h.set 5 _ (by omega) (h.blk.s_source x)
theorem Ta.s_role (h : Ta g q X w w1) (x : Int) : Ta g q { X with role := x } w (w1.setCell ⟨g, q + 22, none⟩ (.int .i64 x)) := h.set 22 _ (by omega) (h.blk.s_role x)
theorem Ta.s_selected (h : Ta g q X w w1) (x : Int) : Ta g q { X with selected := x } w (w1.setCell ⟨g, q + 23, none⟩ (.int .i64 x)) := h.set 23 _ (by omega) (h.blk.s_selected x)
theorem Ta.s_ready (h : Ta g q X w w1) (x : Bool) : Ta g q { X with ready := x } w (w1.setCell ⟨g, q + 24, none⟩ (.bool x)) := h.set 24 _ (by omega) (h.blk.s_ready x)
theorem Ta.s_update (h : Ta g q X w w1) (x : Bool) : Ta g q { X with update := x } w (w1.setCell ⟨g, q + 25, none⟩ (.bool x)) := h.set 25 _ (by omega) (h.blk.s_update x)
theorem Ta.s_reselect (h : Ta g q X w w1) (x : Bool) : Ta g q { X with reselect := x } w (w1.setCell ⟨g, q + 26, none⟩ (.bool x)) := h.set 26 _ (by omega) (h.blk.s_reselect x)
theorem Ta.s_learn (h : Ta g q X w w1) (x : Bool) : Ta g q { X with learn := x } w (w1.setCell ⟨g, q + 27, none⟩ (.bool x)) := h.set 27 _ (by omega) (h.blk.s_learn x)
theorem Ta.s_learning (h : Ta g q X w w1) (x : Bool) : Ta g q { X with learning := x } w (w1.setCell ⟨g, q + 28, none⟩ (.bool x)) := h.set 28 _ (by omega) (h.blk.s_learning x)
theorem Ta.s_forward (h : Ta g q X w w1) (x : Bool) : Ta g q { X with forward := x } w (w1.setCell ⟨g, q + 29, none⟩ (.bool x)) := h.set 29 _ (by omega) (h.blk.s_forward x)
theorem Ta.s_forwarding (h : Ta g q X w w1) (x : Bool) : Ta g q { X with forwarding := x } w (w1.setCell ⟨g, q + 30, none⟩ (.bool x)) := h.set 30 _ (by omega) (h.blk.s_forwarding x)
theorem Ta.s_agree (h : Ta g q X w w1) (x : Bool) : Ta g q { X with agree := x } w (w1.setCell ⟨g, q + 31, none⟩ (.bool x)) := h.set 31 _ (by omega) (h.blk.s_agree x)
theorem Ta.s_agreed (h : Ta g q X w w1) (x : Bool) : Ta g q { X with agreed := x } w (w1.setCell ⟨g, q + 32, none⟩ (.bool x)) := h.set 32 _ (by omega) (h.blk.s_agreed x)
theorem Ta.s_proposed (h : Ta g q X w w1) (x : Bool) : Ta g q { X with proposed := x } w (w1.setCell ⟨g, q + 33, none⟩ (.bool x)) := h.set 33 _ (by omega) (h.blk.s_proposed x)
theorem Ta.s_proposing (h : Ta g q X w w1) (x : Bool) : Ta g q { X with proposing := x } w (w1.setCell ⟨g, q + 34, none⟩ (.bool x)) := h.set 34 _ (by omega) (h.blk.s_proposing x)
theorem Ta.s_sync (h : Ta g q X w w1) (x : Bool) : Ta g q { X with sync := x } w (w1.setCell ⟨g, q + 35, none⟩ (.bool x)) := h.set 35 _ (by omega) (h.blk.s_sync x)
theorem Ta.s_synced (h : Ta g q X w w1) (x : Bool) : Ta g q { X with synced := x } w (w1.setCell ⟨g, q + 36, none⟩ (.bool x)) := h.set 36 _ (by omega) (h.blk.s_synced x)
theorem Ta.s_reroot (h : Ta g q X w w1) (x : Bool) : Ta g q { X with reroot := x } w (w1.setCell ⟨g, q + 37, none⟩ (.bool x)) := h.set 37 _ (by omega) (h.blk.s_reroot x)
theorem Ta.s_disputed (h : Ta g q X w w1) (x : Bool) : Ta g q { X with disputed := x } w (w1.setCell ⟨g, q + 38, none⟩ (.bool x)) := h.set 38 _ (by omega) (h.blk.s_disputed x)
theorem Ta.s_newInfo (h : Ta g q X w w1) (x : Bool) : Ta g q { X with newInfo := x } w (w1.setCell ⟨g, q + 39, none⟩ (.bool x)) := h.set 39 _ (by omega) (h.blk.s_newInfo x)
theorem Ta.s_heardTc (h : Ta g q X w w1) (x : Bool) : Ta g q { X with heardTc := x } w (w1.setCell ⟨g, q + 40, none⟩ (.bool x)) := h.set 40 _ (by omega) (h.blk.s_heardTc x)
theorem Ta.s_heardTcn (h : Ta g q X w w1) (x : Bool) : Ta g q { X with heardTcn := x } w (w1.setCell ⟨g, q + 41, none⟩ (.bool x)) := h.set 41 _ (by omega) (h.blk.s_heardTcn x)
theorem Ta.s_heardAck (h : Ta g q X w w1) (x : Bool) : Ta g q { X with heardAck := x } w (w1.setCell ⟨g, q + 42, none⟩ (.bool x)) := h.set 42 _ (by omega) (h.blk.s_heardAck x)
theorem Ta.s_tcAck (h : Ta g q X w w1) (x : Bool) : Ta g q { X with tcAck := x } w (w1.setCell ⟨g, q + 43, none⟩ (.bool x)) := h.set 43 _ (by omega) (h.blk.s_tcAck x)
theorem Ta.s_tcProp (h : Ta g q X w w1) (x : Bool) : Ta g q { X with tcProp := x } w (w1.setCell ⟨g, q + 44, none⟩ (.bool x)) := h.set 44 _ (by omega) (h.blk.s_tcProp x)
theorem Ta.s_flush (h : Ta g q X w w1) (x : Bool) : Ta g q { X with flush := x } w (w1.setCell ⟨g, q + 45, none⟩ (.bool x)) := h.set 45 _ (by omega) (h.blk.s_flush x)
theorem Ta.s_sendRstp (h : Ta g q X w w1) (x : Bool) : Ta g q { X with sendRstp := x } w (w1.setCell ⟨g, q + 46, none⟩ (.bool x)) := h.set 46 _ (by omega) (h.blk.s_sendRstp x)
theorem Ta.s_heardRstp (h : Ta g q X w w1) (x : Bool) : Ta g q { X with heardRstp := x } w (w1.setCell ⟨g, q + 47, none⟩ (.bool x)) := h.set 47 _ (by omega) (h.blk.s_heardRstp x)
theorem Ta.s_heardStp (h : Ta g q X w w1) (x : Bool) : Ta g q { X with heardStp := x } w (w1.setCell ⟨g, q + 48, none⟩ (.bool x)) := h.set 48 _ (by omega) (h.blk.s_heardStp x)
theorem Ta.s_check (h : Ta g q X w w1) (x : Bool) : Ta g q { X with check := x } w (w1.setCell ⟨g, q + 49, none⟩ (.bool x)) := h.set 49 _ (by omega) (h.blk.s_check x)
theorem Ta.s_fd (h : Ta g q X w w1) (x : Int) : Ta g q { X with fd := x } w (w1.setCell ⟨g, q + 50, none⟩ (.int .i64 x)) := h.set 50 _ (by omega) (h.blk.s_fd x)
theorem Ta.s_rr (h : Ta g q X w w1) (x : Int) : Ta g q { X with rr := x } w (w1.setCell ⟨g, q + 51, none⟩ (.int .i64 x)) := h.set 51 _ (by omega) (h.blk.s_rr x)
theorem Ta.s_rb (h : Ta g q X w w1) (x : Int) : Ta g q { X with rb := x } w (w1.setCell ⟨g, q + 52, none⟩ (.int .i64 x)) := h.set 52 _ (by omega) (h.blk.s_rb x)
theorem Ta.s_tc (h : Ta g q X w w1) (x : Int) : Ta g q { X with tc := x } w (w1.setCell ⟨g, q + 53, none⟩ (.int .i64 x)) := h.set 53 _ (by omega) (h.blk.s_tc x)
theorem Ta.s_edge (h : Ta g q X w w1) (x : Int) : Ta g q { X with edge := x } w (w1.setCell ⟨g, q + 54, none⟩ (.int .i64 x)) := h.set 54 _ (by omega) (h.blk.s_edge x)
theorem Ta.s_md (h : Ta g q X w w1) (x : Int) : Ta g q { X with md := x } w (w1.setCell ⟨g, q + 55, none⟩ (.int .i64 x)) := h.set 55 _ (by omega) (h.blk.s_md x)
theorem Ta.s_info (h : Ta g q X w w1) (x : Int) : Ta g q { X with info := x } w (w1.setCell ⟨g, q + 56, none⟩ (.int .i64 x)) := h.set 56 _ (by omega) (h.blk.s_info x)
theorem Ta.s_hello (h : Ta g q X w w1) (x : Int) : Ta g q { X with hello := x } w (w1.setCell ⟨g, q + 57, none⟩ (.int .i64 x)) := h.set 57 _ (by omega) (h.blk.s_hello x)
theorem Ta.s_txCount (h : Ta g q X w w1) (x : Int) : Ta g q { X with txCount := x } w (w1.setCell ⟨g, q + 58, none⟩ (.int .i64 x)) := h.set 58 _ (by omega) (h.blk.s_txCount x)
theorem Ta.s_change (h : Ta g q X w w1) (x : Int) : Ta g q { X with change := x } w (w1.setCell ⟨g, q + 59, none⟩ (.int .i64 x)) := h.set 59 _ (by omega) (h.blk.s_change x)
theorem Ta.s_migrate (h : Ta g q X w w1) (x : Int) : Ta g q { X with migrate := x } w (w1.setCell ⟨g, q + 60, none⟩ (.int .i64 x)) := h.set 60 _ (by omega) (h.blk.s_migrate x)
end
end Go.Proofs.YtldobcfejldbiaaGreatDoor

namespace Go.Proofs.YtldobcfejldbiaaGreatDoor
set_option linter.unusedVariables false
set_option linter.unusedSimpArgs false
open Go.RowKit Vm Rm Bm Im

theorem isBlocked_w (n : Int) (R : Bool) (w : World) (hR : Hid (decide (n = 0 ∨ n = 3 ∨ n = 4) = R)) :
    Calls Tryz.prog 211 #[.int .i64 n] w fun e w' => e = .returned (.bool R) ∧ w = w' := by
  rw [← hR.out]
  clear hR
  go_enter Tryz.func211, Tryz.ntmps211
  go_wp2
  all_goals go_ret
  all_goals (refine ⟨?_, rfl⟩; refine ret_val ?_; have e : ∀ k : Int, (n == k) = decide (n = k) := fun _ => rfl; simp_all)

set_option maxHeartbeats 1000000 in
theorem discards_w (g q : Nat) (p : Pt) (R : Bool) (w : World) (h : PAt w g q p) (hR : Hid (stillB p = R)) :
    Calls Tryz.prog 230 #[.pointer (some ⟨g, q, none⟩)] w fun e w' => e = .returned (.bool R) ∧ w = w' := by
  rw [← hR.out]
  clear hR
  unfold stillB
  have c_learning := h.c_learning
  obtain ⟨x_learning, e_learning⟩ : ∃ x, p.learning = x := ⟨_, rfl⟩
  rw [e_learning] at c_learning
  simp only [e_learning]
  clear e_learning
  have c_forwarding := h.c_forwarding
  obtain ⟨x_forwarding, e_forwarding⟩ : ∃ x, p.forwarding = x := ⟨_, rfl⟩
  rw [e_forwarding] at c_forwarding
  simp only [e_forwarding]
  clear e_forwarding
  clear h
  go_enter Tryz.func230, Tryz.ntmps230
  go_wp2
  all_goals go_ret
  all_goals (refine ⟨?_, rfl⟩; refine ret_val ?_; simp_all)
def propB (p : Pt) : Bool := p.proposed && !p.agree

set_option maxHeartbeats 1000000 in
theorem isProposed_w (g q : Nat) (p : Pt) (R : Bool) (w : World) (h : PAt w g q p) (hR : Hid (propB p = R)) :
    Calls Tryz.prog 231 #[.pointer (some ⟨g, q, none⟩)] w fun e w' => e = .returned (.bool R) ∧ w = w' := by
  rw [← hR.out]
  clear hR
  unfold propB
  have c_proposed := h.c_proposed
  obtain ⟨x_proposed, e_proposed⟩ : ∃ x, p.proposed = x := ⟨_, rfl⟩
  rw [e_proposed] at c_proposed
  simp only [e_proposed]
  clear e_proposed
  have c_agree := h.c_agree
  obtain ⟨x_agree, e_agree⟩ : ∃ x, p.agree = x := ⟨_, rfl⟩
  rw [e_agree] at c_agree
  simp only [e_agree]
  clear e_agree
  clear h
  go_enter Tryz.func231, Tryz.ntmps231
  go_wp2
  all_goals go_ret
  all_goals (refine ⟨?_, rfl⟩; refine ret_val ?_; simp_all)
def closedB (p : Pt) : Bool := !p.learn || !p.forward

set_option maxHeartbeats 1000000 in
theorem isClosed_w (g q : Nat) (p : Pt) (R : Bool) (w : World) (h : PAt w g q p) (hR : Hid (closedB p = R)) :
    Calls Tryz.prog 252 #[.pointer (some ⟨g, q, none⟩)] w fun e w' => e = .returned (.bool R) ∧ w = w' := by
  rw [← hR.out]
  clear hR
  unfold closedB
  have c_learn := h.c_learn
  obtain ⟨x_learn, e_learn⟩ : ∃ x, p.learn = x := ⟨_, rfl⟩
  rw [e_learn] at c_learn
  simp only [e_learn]
  clear e_learn
  have c_forward := h.c_forward
  obtain ⟨x_forward, e_forward⟩ : ∃ x, p.forward = x := ⟨_, rfl⟩
  rw [e_forward] at c_forward
  simp only [e_forward]
  clear e_forward
  clear h
  go_enter Tryz.func252, Tryz.ntmps252
  go_wp2
  all_goals go_ret
  all_goals (refine ⟨?_, rfl⟩; refine ret_val ?_; simp_all)

set_option maxHeartbeats 1000000 in
theorem mustClose_w (g q : Nat) (p : Pt) (R : Bool) (w : World) (h : PAt w g q p) (hR : Hid (desStops p = R)) :
    Calls Tryz.prog 261 #[.pointer (some ⟨g, q, none⟩)] w fun e w' => e = .returned (.bool R) ∧ w = w' := by
  rw [← hR.out]
  clear hR
  unfold desStops
  have c_sync := h.c_sync
  obtain ⟨x_sync, e_sync⟩ : ∃ x, p.sync = x := ⟨_, rfl⟩
  rw [e_sync] at c_sync
  simp only [e_sync]
  clear e_sync
  have c_synced := h.c_synced
  obtain ⟨x_synced, e_synced⟩ : ∃ x, p.synced = x := ⟨_, rfl⟩
  rw [e_synced] at c_synced
  simp only [e_synced]
  clear e_synced
  have c_reroot := h.c_reroot
  obtain ⟨x_reroot, e_reroot⟩ : ∃ x, p.reroot = x := ⟨_, rfl⟩
  rw [e_reroot] at c_reroot
  simp only [e_reroot]
  clear e_reroot
  have c_disputed := h.c_disputed
  obtain ⟨x_disputed, e_disputed⟩ : ∃ x, p.disputed = x := ⟨_, rfl⟩
  rw [e_disputed] at c_disputed
  simp only [e_disputed]
  clear e_disputed
  have c_rr := h.c_rr
  obtain ⟨z_rr0, e_rr0⟩ : ∃ z, decide (p.rr = 0) = z := ⟨_, rfl⟩
  have d_rr0 : (p.rr == 0) = z_rr0 := by rw [← e_rr0]; rfl
  rw [e_rr0]
  clear e_rr0
  clear h
  cases x_sync <;> cases x_reroot <;> cases z_rr0
  all_goals
    go_enter Tryz.func261, Tryz.ntmps261
    go_wp2
    all_goals go_ret
    all_goals (refine ⟨?_, rfl⟩; refine ret_val ?_; simp_all)

set_option maxHeartbeats 1000000 in
theorem desMay_w (g q : Nat) (p : Pt) (R : Bool) (w : World) (h : PAt w g q p) (hR : Hid (desMay p = R)) :
    Calls Tryz.prog 264 #[.pointer (some ⟨g, q, none⟩)] w fun e w' => e = .returned (.bool R) ∧ w = w' := by
  rw [← hR.out]
  clear hR
  unfold desMay
  have c_agreed := h.c_agreed
  obtain ⟨x_agreed, e_agreed⟩ : ∃ x, p.agreed = x := ⟨_, rfl⟩
  rw [e_agreed] at c_agreed
  simp only [e_agreed]
  clear e_agreed
  have c_oper := h.c_oper
  obtain ⟨x_oper, e_oper⟩ : ∃ x, p.oper = x := ⟨_, rfl⟩
  rw [e_oper] at c_oper
  simp only [e_oper]
  clear e_oper
  have c_reroot := h.c_reroot
  obtain ⟨x_reroot, e_reroot⟩ : ∃ x, p.reroot = x := ⟨_, rfl⟩
  rw [e_reroot] at c_reroot
  simp only [e_reroot]
  clear e_reroot
  have c_sync := h.c_sync
  obtain ⟨x_sync, e_sync⟩ : ∃ x, p.sync = x := ⟨_, rfl⟩
  rw [e_sync] at c_sync
  simp only [e_sync]
  clear e_sync
  have c_disputed := h.c_disputed
  obtain ⟨x_disputed, e_disputed⟩ : ∃ x, p.disputed = x := ⟨_, rfl⟩
  rw [e_disputed] at c_disputed
  simp only [e_disputed]
  clear e_disputed
  have c_fd := h.c_fd
  obtain ⟨z_fd0, e_fd0⟩ : ∃ z, decide (p.fd = 0) = z := ⟨_, rfl⟩
  have d_fd0 : (p.fd == 0) = z_fd0 := by rw [← e_fd0]; rfl
  rw [e_fd0]
  clear e_fd0
  have c_rr := h.c_rr
  obtain ⟨z_rr0, e_rr0⟩ : ∃ z, decide (p.rr = 0) = z := ⟨_, rfl⟩
  have d_rr0 : (p.rr == 0) = z_rr0 := by rw [← e_rr0]; rfl
  rw [e_rr0]
  clear e_rr0
  clear h
  cases z_fd0 <;> cases z_rr0
  all_goals
    go_enter Tryz.func264, Tryz.ntmps264
    go_wp2
    all_goals go_ret
    all_goals (refine ⟨?_, rfl⟩; refine ret_val ?_; simp_all)

set_option maxHeartbeats 1000000 in
theorem rerooted1_w (g q : Nat) (p : Pt) (R : Bool) (w : World) (h : PAt w g q p) (hR : Hid (rerootedO p = R)) :
    Calls Tryz.prog 272 #[.pointer (some ⟨g, q, none⟩)] w fun e w' => e = .returned (.bool R) ∧ Below w.heap.size w w' := by
  rw [← hR.out]
  clear hR
  unfold rerootedO
  have c_rr := h.c_rr
  obtain ⟨z_rr0, e_rr0⟩ : ∃ z, decide (p.rr = 0) = z := ⟨_, rfl⟩
  have d_rr0 : (p.rr == 0) = z_rr0 := by rw [← e_rr0]; rfl
  rw [e_rr0]
  clear e_rr0
  have c_role := h.c_role
  obtain ⟨z_role1, e_role1⟩ : ∃ z, decide (p.role = 1) = z := ⟨_, rfl⟩
  have d_role1 : (p.role == 1) = z_role1 := by rw [← e_role1]; rfl
  rw [e_role1]
  clear e_role1
  clear h
  go_enter Tryz.func272, Tryz.ntmps272
  go_wp2
  all_goals go_ret
  all_goals (refine ⟨?_, by first | exact Below.refl _ _ | exact (Below.refl _ _).drew | exact below_drewN (Below.refl _ _) _⟩; refine ret_val ?_; simp_all)

set_option maxHeartbeats 1000000 in
theorem synced1_w (g q : Nat) (p : Pt) (R : Bool) (w : World) (h : PAt w g q p) (hR : Hid (syncedO p = R)) :
    Calls Tryz.prog 271 #[.pointer (some ⟨g, q, none⟩)] w fun e w' => e = .returned (.bool R) ∧ Below w.heap.size w w' := by
  rw [← hR.out]
  clear hR
  unfold syncedO
  have c_ready := h.c_ready
  have c_synced := h.c_synced
  have c_role := h.c_role
  have c_selected := h.c_selected
  obtain ⟨x, e_x⟩ : ∃ x, p.ready = x := ⟨_, rfl⟩
  rw [e_x] at c_ready ⊢
  obtain ⟨y, e_y⟩ : ∃ y, p.synced = y := ⟨_, rfl⟩
  rw [e_y] at c_synced ⊢
  obtain ⟨z, e_z⟩ : ∃ z, decide (p.role = p.selected) = z := ⟨_, rfl⟩
  have d_z : (p.role == p.selected) = z := by rw [← e_z]; rfl
  rw [e_z]
  obtain ⟨u, e_u⟩ : ∃ u, decide (p.role = 1) = u := ⟨_, rfl⟩
  have d_u : (p.role == 1) = u := by rw [← e_u]; rfl
  rw [e_u]
  clear h e_x e_y e_z e_u
  cases x <;> cases z <;> cases u <;> cases y
  all_goals
    go_enter Tryz.func271, Tryz.ntmps271
    go_wp2_with fail
    go_quiet (fail)
    go_wp2
    all_goals go_ret
    all_goals (refine ⟨?_, by first | exact Below.refl _ _ | exact (Below.refl _ _).drew | exact below_drewN (Below.refl _ _) _⟩; refine ret_val ?_; simp_all)
end Go.Proofs.YtldobcfejldbiaaGreatDoor

namespace Go.Proofs.YtldobcfejldbiaaGreatDoor
set_option linter.unusedVariables false
set_option linter.unusedSimpArgs false
open Go.RowKit Vm Rm Bm Im

/-! ### A row and a port of it -/
theorem WRow.pat {w : World} {g k : Nat} {l : List Pt} {p : Pt} (h : WRow w g l) (hp : l[k]? = some p) : PAt w g (k * 61) p := by
  have hk := (List.getElem?_eq_some_iff.1 hp).1
  refine ⟨h.lt, fun c v hv => h.at_ k p hp c v (by rw [Array.getElem?_toList]; exact hv), fun j hj => ?_⟩
  exact (h.at61 hk j hj).2
theorem Ta.wrow {w w' : World} {g k : Nat} {l : List Pt} {X : Pt} (t : Ta g (k * 61) X w w') (h : WRow w g l) (hk : k < l.length) : WRow w' g (l.set k X) := by
  refine ⟨t.blk.lt, fun j p hp => ?_, ?_⟩
  · by_cases hj : k = j
    · subst hj
      rw [List.getElem?_set_self hk] at hp
      cases hp
      exact fun c v hv => t.blk.at_ c v (by rw [← Array.getElem?_toList]; exact hv)
    · rw [List.getElem?_set_ne hj] at hp
      intro c v hv
      have hc : c < 61 := by have := (List.getElem?_eq_some_iff.1 hv).1; rw [cellsT_len] at this; exact this
      rw [t.far (j * 61 + c) (by omega)]
      exact h.at_ j p hp c v hv
  · rw [List.length_set]
    intro j hj
    have h0 := h.free j hj
    refine ⟨?_, (t.free (0 + j)).trans h0.2⟩
    by_cases hin : k * 61 ≤ 0 + j ∧ 0 + j < k * 61 + 61
    · obtain ⟨v, hv⟩ : ∃ v, (cellsT X)[0 + j - k * 61]? = some v := ⟨_, Array.getElem?_eq_getElem (by rw [cellsT_size]; omega)⟩
      have := t.blk.at_ _ v hv
      rw [show k * 61 + (0 + j - k * 61) = 0 + j by omega] at this
      rw [this]; rfl
    · rw [t.far (0 + j) (by omega)]
      exact h0.1
theorem Ta.kp {w w' : World} {g q : Nat} {X : Pt} (t : Ta g q X w w') : Kp g w w' := ⟨t.os, t.tape, t.output, t.size, t.block⟩
theorem Kp.refl' (g : Nat) (w : World) : Kp g w w := ⟨rfl, rfl, rfl, Nat.le_refl _, fun _ _ _ => rfl⟩
theorem Kp.trans' {g : Nat} {w w1 w2 : World} (h : Kp g w w1) (k : Kp g w1 w2) : Kp g w w2 :=
  ⟨k.os.trans h.os, k.tape.trans h.tape, k.output.trans h.output, Nat.le_trans h.size k.size, fun i hi hn => (k.block i (Nat.lt_of_lt_of_le hi h.size) hn).trans (h.block i hi hn)⟩
theorem Kp.of {g : Nat} {w w1 : World} (h : Below w.heap.size w w1) : Kp g w w1 := ⟨h.os, h.tape, h.output, h.size, fun i hi _ => h.block i hi⟩

/-! ### A seat -/
abbrev scl (t : Tm) (g n cap k q : Nat) : Array Value := #[.int .i64 t.age, .int .i64 t.max, .int .i64 t.hello, .int .i64 t.delay, .slice (some ⟨g, 0, none⟩) n cap, .int .i64 ((k : Nat) : Int), .pointer (some ⟨g, q, none⟩)]
abbrev sv (t : Tm) (g n cap k q : Nat) : Value := .agg (scl t g n cap k q)
def SBk (w : World) (b : Nat) (t : Tm) (g n cap k q : Nat) : Prop := w.heap[b]? = some (.cells (scl t g n cap k q) 231 (0, 0))
section
variable {w w' : World} {b g n cap k q : Nat} {t : Tm}
theorem SBk.lt (h : SBk w b t g n cap k q) : b < w.heap.size := (Array.getElem?_eq_some_iff.1 h).1
theorem SBk.same (h : SBk w b t g n cap k q) (e : w'.heap[b]? = w.heap[b]?) : SBk w' b t g n cap k q := e.trans h
theorem SBk.next (h : SBk w b t g n cap k q) (hb : Below w.heap.size w w') : SBk w' b t g n cap k q := (hb.block b h.lt).trans h
theorem SBk.kp {g' : Nat} (h : SBk w b t g n cap k q) (hk : Kp g' w w') (hne : b ≠ g') : SBk w' b t g n cap k q := (hk.block b h.lt hne).trans h
theorem sbk_new (w : World) : SBk (w.alloc (.cells (scl t g n cap k q) 231)) w.heap.size t g n cap k q := heap_alloc_new w _
theorem SBk.cells (h : SBk w b t g n cap k q) : w.cell? ⟨b, 0, none⟩ = some (.int .i64 t.age) ∧ w.cell? ⟨b, 1, none⟩ = some (.int .i64 t.max) ∧ w.cell? ⟨b, 2, none⟩ = some (.int .i64 t.hello) ∧ w.cell? ⟨b, 3, none⟩ = some (.int .i64 t.delay) ∧
    w.cell? ⟨b, 4, none⟩ = some (.slice (some ⟨g, 0, none⟩) n cap) ∧ w.cell? ⟨b, 5, none⟩ = some (.int .i64 ((k : Nat) : Int)) ∧ w.cell? ⟨b, 6, none⟩ = some (.pointer (some ⟨g, q, none⟩)) := by
  unfold SBk at h
  refine ⟨?_, ?_, ?_, ?_, ?_, ?_, ?_⟩ <;> simp [World.cell?, h]
end

/-! ### Of all others -/
theorem others_iff (F : Pt → Bool) (l : List Pt) (k : Nat) : othersB F l k = true ↔ ∀ i p, l[i]? = some p → i = k ∨ F p = true := by
  unfold othersB
  rw [List.all_eq_true]
  constructor
  · intro h i p hp
    have := h (p, i) (List.mem_zipIdx_iff_getElem?.2 hp)
    simpa using this
  · intro h x hx
    have := h x.2 x.1 (List.mem_zipIdx_iff_getElem?.1 hx)
    simpa using this
theorem oneS_is (t : Tm) (g n cap k q : Nat) (w : World) : ∃ (W : World) (nb : Nat), Hid (w.alloc (.cells (scl t g n cap k q) 231) = W) ∧ Hid (w.heap.size = nb) ∧ SBk W nb t g n cap k q ∧ Below nb w W ∧ nb < W.heap.size :=
  ⟨_, _, Lib.hid rfl, Lib.hid rfl, sbk_new w, below_box w _, by rw [size_box]; omega⟩
def ToInv (F : Pt → Bool) (l : List Pt) (n k : Nat) (w : World) (v : Value) (wr : World) : Prop :=
  ∃ j : Nat, j ≤ n ∧ v = .int .i64 (j : Nat) ∧ (∀ i p, i < j → l[i]? = some p → i = k ∨ F p = true) ∧ Below w.heap.size w wr

set_option maxRecDepth 20000 in
set_option maxHeartbeats 1000000 in
theorem allOthers_w (f : Nat) (F : Pt → Bool) (t : Tm) (g n cap k q : Nat) (l : List Pt) (R : Bool) (w : World) (hr : WRow w g l) (hn : l.length = n) (hl : n ≤ 1000)
    (hent : ∀ (a : Array Value) (w : World), Sem.run Tryz.prog (callFunc f a) w = .ok (.enter f a) w)
    (hcall : ∀ (w : World) (q : Nat) (p : Pt), PAt w g q p → Calls Tryz.prog f #[.pointer (some ⟨g, q, none⟩)] w fun e w' => e = .returned (.bool (F p)) ∧ Below w.heap.size w w') (hR : Hid (othersB F l k = R)) :
    Calls Tryz.prog 270 #[sv t g n cap k q, .func (.func f) #[] #[]] w fun e w' => e = .returned (.bool R) ∧ Below w.heap.size w w' := by
  obtain ⟨W, sb, HW, HS, k0, kB, kL⟩ := oneS_is t g n cap k q w
  have S0 := Lib.hid k0
  have B0 := Lib.hid kB
  have HR := Lib.hid (hr.next (HS.out ▸ kB))
  have HL := Lib.hid kL
  have HN := Lib.hid hn
  have HC := Lib.hid hcall
  have HE := Lib.hid hent
  obtain ⟨c0, c1, c2, c3, c4, c5, c6⟩ := k0.cells
  clear hr hn hcall hent k0 kB kL
  unfold sv scl
  go_enter Tryz.func270, Tryz.ntmps270
  go_upto_region 1 with (fail)
  refine wp_to (W := W) (by exact HW.out.symm) ?_
  rw [HS.out]
  go_wp2_with fail
  go_loopw [9] (fun v wr => ToInv F l n k W v wr) (fun v _ => n - (intOf v).toNat)
  case atStart => exact ⟨0, Nat.zero_le _, rfl, fun i p h => absurd h (by omega), Below.refl _ _⟩
  case round =>
    obtain ⟨j, hj, rfl, hno, hG⟩ := hrel
    have HG := Lib.hid hG
    have HNO := Lib.hid hno
    obtain ⟨c0, c1, c2, c3, c4, c5, c6⟩ := (S0.out.next hG).cells
    clear hG hno
    have hfin : Below w.heap.size w wr := (HS.out ▸ B0.out : Below w.heap.size w W).trans (HG.out.mono (by have := HL.out; have := HS.out; omega))
    have HF := Lib.hid hfin
    clear hfin
    by_cases hjl : j < n
    · obtain ⟨p, hx⟩ := at_some (l := l) (k := j) (by rw [HN.out]; exact hjl)
      have HX := Lib.hid hx
      have hki : (j : Int) < n := by omega
      by_cases hjk : j = k
      · subst hjk
        have hb : ((j : Int) != (j : Int)) = false := by simp
        clear hx
        go_wp2_with fail
        exact ⟨⟨j + 1, by omega, by go_num, fun i p hi hp => by
          by_cases e : i = j
          · exact .inl e
          · exact HNO.out i p (by omega) hp, HG.out⟩, by simp [intOf]; omega⟩
      · have hb : ((j : Int) != (k : Int)) = true := by simp; omega
        have hcall := HC.out wr (j * 61) p ((HR.out.next HG.out).pat hx)
        have hent := HE.out
        clear hx
        obtain ⟨D, hD⟩ : ∃ D, F p = D := ⟨_, rfl⟩
        rw [hD] at hcall
        cases D with
        | false =>
          have hy : R = false := by
            rw [← hR.out]
            cases h : othersB F l k with
            | false => rfl
            | true =>
              rcases (others_iff F l k).1 h j p HX.out with e | e
              · exact absurd e hjk
              · rw [hD] at e; cases e
          clear hD
          go_wp2_with (refine hcall.mono ?_; clear hcall; rintro e w1 ⟨rfl, hG1⟩)
          go_ret
          exact ⟨by rw [hy]; rfl, bw_trans HF.out hG1⟩
        | true =>
          have HD := Lib.hid hD
          clear hD
          go_wp2_with (refine hcall.mono ?_; clear hcall; rintro e w1 ⟨rfl, hG1⟩)
          exact ⟨⟨j + 1, by omega, by go_num, fun i p' hi hp => by
            by_cases e : i = j
            · subst e
              rw [HX.out] at hp
              cases hp
              exact .inr HD.out
            · exact HNO.out i p' (by omega) hp, bw_trans HG.out hG1⟩, by simp [intOf]; omega⟩
    · obtain rfl : j = n := by omega
      have hy : R = true := by
        rw [← hR.out]
        exact (others_iff F l k).2 fun i p hp => HNO.out i p (by have := (List.getElem?_eq_some_iff.1 hp).1; have := HN.out; omega) hp
      go_wp2
      go_ret
      exact ⟨by rw [hy]; rfl, HF.out⟩

set_option maxRecDepth 20000 in
set_option maxHeartbeats 1000000 in
theorem othersSynced_w (t : Tm) (g n cap k q : Nat) (l : List Pt) (R : Bool) (w : World) (hr : WRow w g l) (hn : l.length = n) (hl : n ≤ 1000) (hR : Hid (othersB syncedO l k = R)) :
    Calls Tryz.prog 268 #[sv t g n cap k q] w fun e w' => e = .returned (.bool R) ∧ Below w.heap.size w w' := by
  have S0 := Lib.hid (sbk_new (t := t) (g := g) (n := n) (cap := cap) (k := k) (q := q) w)
  have HC := Lib.hid (fun w' (h : Below w.heap.size w w') => allOthers_w 271 syncedO t g n cap k q l R w' (hr.next h) hn hl (fun _ _ => by kernel_rfl) (fun w q p h => synced1_w g q p _ w h (Lib.hid rfl)) hR)
  obtain ⟨c0, c1, c2, c3, c4, c5, c6⟩ := S0.out.cells
  clear S0 hr hn hl hR
  unfold scl at *
  unfold sv at *
  have hB := below_box w (.cells #[.int .i64 t.age, .int .i64 t.max, .int .i64 t.hello, .int .i64 t.delay, .slice (some ⟨g, 0, none⟩) n cap, .int .i64 ((k : Nat) : Int), .pointer (some ⟨g, q, none⟩)] 231)
  have HCC := Lib.hid (HC.out _ hB)
  have HB := Lib.hid hB
  clear hB HC
  go_enter Tryz.func268, Tryz.ntmps268
  go_wp2_with (go_at_call 270; (with_reducible refine HCC.out.mono ?_); rintro e w1 ⟨rfl, hG1⟩)
  go_ret
  exact ⟨rfl, bw_trans HB.out hG1⟩

set_option maxRecDepth 20000 in
set_option maxHeartbeats 1000000 in
theorem othersRerooted_w (t : Tm) (g n cap k q : Nat) (l : List Pt) (R : Bool) (w : World) (hr : WRow w g l) (hn : l.length = n) (hl : n ≤ 1000) (hR : Hid (othersB rerootedO l k = R)) :
    Calls Tryz.prog 269 #[sv t g n cap k q] w fun e w' => e = .returned (.bool R) ∧ Below w.heap.size w w' := by
  have S0 := Lib.hid (sbk_new (t := t) (g := g) (n := n) (cap := cap) (k := k) (q := q) w)
  have HC := Lib.hid (fun w' (h : Below w.heap.size w w') => allOthers_w 272 rerootedO t g n cap k q l R w' (hr.next h) hn hl (fun _ _ => by kernel_rfl) (fun w q p h => rerooted1_w g q p _ w h (Lib.hid rfl)) hR)
  obtain ⟨c0, c1, c2, c3, c4, c5, c6⟩ := S0.out.cells
  clear S0 hr hn hl hR
  unfold scl at *
  unfold sv at *
  have hB := below_box w (.cells #[.int .i64 t.age, .int .i64 t.max, .int .i64 t.hello, .int .i64 t.delay, .slice (some ⟨g, 0, none⟩) n cap, .int .i64 ((k : Nat) : Int), .pointer (some ⟨g, q, none⟩)] 231)
  have HCC := Lib.hid (HC.out _ hB)
  have HB := Lib.hid hB
  clear hB HC
  go_enter Tryz.func269, Tryz.ntmps269
  go_wp2_with (go_at_call 270; (with_reducible refine HCC.out.mono ?_); rintro e w1 ⟨rfl, hG1⟩)
  go_ret
  exact ⟨rfl, bw_trans HB.out hG1⟩

/-! ### All are to sync, or to reroot -/
def syncN (l : List Pt) (k j : Nat) : List Pt := l.mapIdx fun i p => if i < j ∧ ¬ i = k then { p with sync := true } else p
theorem syncN_zero (l : List Pt) (k : Nat) : syncN l k 0 = l := by
  unfold syncN
  apply List.ext_getElem?
  intro j
  simp
theorem syncN_len (l : List Pt) (k j : Nat) : (syncN l k j).length = l.length := by unfold syncN; simp
theorem syncN_at {l : List Pt} {k j : Nat} {p : Pt} (h : l[j]? = some p) : (syncN l k j)[j]? = some p := by unfold syncN; simp [h]
theorem syncN_own {l : List Pt} {k j : Nat} {p : Pt} (h : l[k]? = some p) : (syncN l k j)[k]? = some p := by unfold syncN; simp [h]
theorem syncN_skip (l : List Pt) (k : Nat) : syncN l k k = syncN l k (k + 1) := by
  unfold syncN
  apply List.ext_getElem?
  intro i
  simp only [List.getElem?_mapIdx]
  congr 1
  funext p
  by_cases h : i = k
  · subst h; simp
  · have : (i < k ∧ ¬ i = k) ↔ (i < k + 1 ∧ ¬ i = k) := by omega
    simp only [this]
theorem syncN_set {l : List Pt} {k j : Nat} {p : Pt} (h : l[j]? = some p) (hjk : ¬ j = k) : (syncN l k j).set j { p with sync := true } = syncN l k (j + 1) := by
  unfold syncN
  have hj : j < l.length := (List.getElem?_eq_some_iff.1 h).1
  apply List.ext_getElem?
  intro i
  by_cases hi : j = i
  · subst hi
    rw [List.getElem?_set_self (by simpa using hj)]
    simp [h, hjk]
  · rw [List.getElem?_set_ne hi]
    simp only [List.getElem?_mapIdx]
    congr 1
    funext p
    have : (i < j ∧ ¬ i = k) ↔ (i < j + 1 ∧ ¬ i = k) := by omega
    simp only [this]
theorem syncN_all {l : List Pt} {k : Nat} {p : Pt} (h : l[k]? = some p) (X : Pt) : (syncN l k l.length).set k X = l.mapIdx (spreadAt ⟨X, true, false⟩ k) := by
  unfold syncN
  have hk : k < l.length := (List.getElem?_eq_some_iff.1 h).1
  apply List.ext_getElem?
  intro i
  by_cases hi : k = i
  · subst hi
    rw [List.getElem?_set_self (by simpa using hk)]
    simp [h, spreadAt]
  · rw [List.getElem?_set_ne hi]
    simp only [List.getElem?_mapIdx]
    cases hl : l[i]? with
    | none => rfl
    | some r =>
      have : i < l.length := (List.getElem?_eq_some_iff.1 hl).1
      have hne : ¬ i = k := fun e => hi e.symm
      simp [spreadAt, hne, this]
def rerootN (l : List Pt) (j : Nat) : List Pt := l.mapIdx fun i p => if i < j then { p with reroot := true } else p
theorem rerootN_zero (l : List Pt) : rerootN l 0 = l := by
  unfold rerootN
  apply List.ext_getElem?
  intro j
  simp
theorem rerootN_len (l : List Pt) (j : Nat) : (rerootN l j).length = l.length := by unfold rerootN; simp
theorem rerootN_at {l : List Pt} {j : Nat} {p : Pt} (h : l[j]? = some p) : (rerootN l j)[j]? = some p := by unfold rerootN; simp [h]
theorem rerootN_set {l : List Pt} {j : Nat} {p : Pt} (h : l[j]? = some p) : (rerootN l j).set j { p with reroot := true } = rerootN l (j + 1) := by
  unfold rerootN
  have hj : j < l.length := (List.getElem?_eq_some_iff.1 h).1
  apply List.ext_getElem?
  intro i
  by_cases hi : j = i
  · subst hi
    rw [List.getElem?_set_self (by simpa using hj)]
    simp [h]
  · rw [List.getElem?_set_ne hi]
    simp only [List.getElem?_mapIdx]
    congr 1
    funext p
    have : (i < j) ↔ (i < j + 1) := by omega
    simp only [this]
theorem rerootN_all {l : List Pt} {k : Nat} {p : Pt} (h : l[k]? = some p) : rerootN l l.length = l.mapIdx (spreadAt ⟨p, false, true⟩ k) := by
  unfold rerootN
  apply List.ext_getElem?
  intro i
  simp only [List.getElem?_mapIdx]
  cases hl : l[i]? with
  | none => rfl
  | some r =>
    have hil : i < l.length := (List.getElem?_eq_some_iff.1 hl).1
    by_cases hi : i = k
    · subst hi
      rw [h] at hl
      cases hl
      simp [spreadAt, hil]
    · simp [spreadAt, hi, hil]
def TsInv (l : List Pt) (n k g : Nat) (W : World) (v : Value) (wr : World) : Prop :=
  ∃ j : Nat, j ≤ n ∧ v = .int .i64 (j : Nat) ∧ WRow wr g (syncN l k j) ∧ Kp g W wr
def TrInv (l : List Pt) (n g : Nat) (W : World) (v : Value) (wr : World) : Prop :=
  ∃ j : Nat, j ≤ n ∧ v = .int .i64 (j : Nat) ∧ WRow wr g (rerootN l j) ∧ Kp g W wr

set_option maxRecDepth 20000 in
set_option maxHeartbeats 1000000 in
theorem syncOthers_w (t : Tm) (g n cap k : Nat) (l : List Pt) (p : Pt) (w : World) (hr : WRow w g l) (hn : l.length = n) (hl : n ≤ 1000) (hp : l[k]? = some p) :
    Calls Tryz.prog 232 #[sv t g n cap k (k * 61)] w fun e w' => e = .returned (.tuple #[]) ∧ WRow w' g (l.mapIdx (spreadAt ⟨{ p with proposed := false }, true, false⟩ k)) ∧ Kp g w w' := by
  obtain ⟨q, hq⟩ : ∃ q, k * 61 = q := ⟨_, rfl⟩
  rw [hq]
  obtain ⟨W, sb, HW, HS, k0, kB, kL⟩ := oneS_is t g n cap k q w
  have HQ := Lib.hid hq
  have S0 := Lib.hid k0
  have B0 := Lib.hid kB
  have HR := Lib.hid (hr.next (HS.out ▸ kB))
  have hgl := hr.lt
  rw [HS.out] at hgl
  have HL := Lib.hid kL
  have HN := Lib.hid hn
  have HP := Lib.hid hp
  obtain ⟨c0, c1, c2, c3, c4, c5, c6⟩ := k0.cells
  clear hr hn k0 kB kL hq hp
  unfold sv scl
  go_enter Tryz.func232, Tryz.ntmps232
  go_upto_region 1 with (fail)
  refine wp_to (W := W) (by exact HW.out.symm) ?_
  rw [HS.out]
  go_wp2_with fail
  go_loopw [6] (fun v wr => TsInv l n k g W v wr) (fun v _ => n - (intOf v).toNat)
  case atStart => exact ⟨0, Nat.zero_le _, rfl, by rw [syncN_zero]; exact HR.out, Kp.refl' g W⟩
  case round =>
    obtain ⟨j, hj, rfl, hW, hK⟩ := hrel
    have HK := Lib.hid hK
    have HWR := Lib.hid hW
    have hne : sb ≠ g := by omega
    have SB := Lib.hid (S0.out.kp hK hne)
    obtain ⟨c0, c1, c2, c3, c4, c5, c6⟩ := SB.out.cells
    clear hK hW
    by_cases hjl : j < n
    · obtain ⟨p', hx⟩ := at_some (l := l) (k := j) (by rw [HN.out]; exact hjl)
      have HX := Lib.hid hx
      have hki : (j : Int) < n := by omega
      by_cases hjk : j = k
      · subst hjk
        have hb : ((j : Int) != (j : Int)) = false := by simp
        clear hx
        go_wp2_with fail
        exact ⟨⟨j + 1, by omega, by go_num, by rw [← syncN_skip]; exact HWR.out, HK.out⟩, by simp [intOf]; omega⟩
      · have hb : ((j : Int) != (k : Int)) = true := by simp; omega
        have PA := Lib.hid (HWR.out.pat (syncN_at hx (k := k)))
        have c_sync := PA.out.c_sync
        have f_sync := PA.out.f_sync
        clear hx
        go_wp2_with fail
        have T := (Ta.refl PA.out).s_sync true
        exact ⟨⟨j + 1, by omega, by go_num, by rw [← syncN_set HX.out hjk]; exact T.wrow HWR.out (by rw [syncN_len, HN.out]; exact hjl), HK.out.trans' T.kp⟩, by simp [intOf]; omega⟩
    · obtain rfl : j = n := by omega
      have PA := Lib.hid (HQ.out ▸ HWR.out.pat (syncN_own HP.out (j := j)) : PAt wr g q p)
      have c_p := PA.out.c_proposed
      have f_p := PA.out.f_proposed
      go_wp2
      go_end0
      have T := (Ta.refl PA.out).s_proposed false
      refine ⟨rfl, ?_, ?_⟩
      · rw [← syncN_all HP.out, HN.out]
        have hk := (List.getElem?_eq_some_iff.1 HP.out).1
        exact (HQ.out.symm ▸ T : Ta g (k * 61) _ wr _).wrow HWR.out (by rw [syncN_len]; exact hk)
      · exact ((Kp.of (HS.out ▸ B0.out)).trans' HK.out).trans' T.kp

set_option maxRecDepth 20000 in
set_option maxHeartbeats 1000000 in
theorem rerootAll_w (t : Tm) (g n cap k q : Nat) (l : List Pt) (p : Pt) (w : World) (hr : WRow w g l) (hn : l.length = n) (hl : n ≤ 1000) (hp : l[k]? = some p) :
    Calls Tryz.prog 245 #[sv t g n cap k q] w fun e w' => e = .returned (.tuple #[]) ∧ WRow w' g (l.mapIdx (spreadAt ⟨p, false, true⟩ k)) ∧ Kp g w w' := by
  obtain ⟨W, sb, HW, HS, k0, kB, kL⟩ := oneS_is t g n cap k q w
  have S0 := Lib.hid k0
  have B0 := Lib.hid kB
  have HR := Lib.hid (hr.next (HS.out ▸ kB))
  have hgl := hr.lt
  rw [HS.out] at hgl
  have HN := Lib.hid hn
  have HP := Lib.hid hp
  obtain ⟨c0, c1, c2, c3, c4, c5, c6⟩ := k0.cells
  clear hr hn k0 kB kL hp
  unfold sv scl
  go_enter Tryz.func245, Tryz.ntmps245
  go_upto_region 1 with (fail)
  refine wp_to (W := W) (by exact HW.out.symm) ?_
  rw [HS.out]
  go_wp2_with fail
  go_loopw [6] (fun v wr => TrInv l n g W v wr) (fun v _ => n - (intOf v).toNat)
  case atStart => exact ⟨0, Nat.zero_le _, rfl, by rw [rerootN_zero]; exact HR.out, Kp.refl' g W⟩
  case round =>
    obtain ⟨j, hj, rfl, hW, hK⟩ := hrel
    have HK := Lib.hid hK
    have HWR := Lib.hid hW
    have hne : sb ≠ g := by omega
    have SB := Lib.hid (S0.out.kp hK hne)
    obtain ⟨c0, c1, c2, c3, c4, c5, c6⟩ := SB.out.cells
    clear hK hW
    by_cases hjl : j < n
    · obtain ⟨p', hx⟩ := at_some (l := l) (k := j) (by rw [HN.out]; exact hjl)
      have HX := Lib.hid hx
      have hki : (j : Int) < n := by omega
      have PA := Lib.hid (HWR.out.pat (rerootN_at hx))
      have c_sync := PA.out.c_reroot
      have f_sync := PA.out.f_reroot
      clear hx
      go_wp2_with fail
      have T := (Ta.refl PA.out).s_reroot true
      exact ⟨⟨j + 1, by omega, by go_num, by rw [← rerootN_set HX.out]; exact T.wrow HWR.out (by rw [rerootN_len, HN.out]; exact hjl), HK.out.trans' T.kp⟩, by simp [intOf]; omega⟩
    · obtain rfl : j = n := by omega
      go_wp2
      go_end0
      refine ⟨rfl, ?_, ?_⟩
      · rw [← rerootN_all HP.out, HN.out]
        exact HWR.out
      · exact (Kp.of (HS.out ▸ B0.out)).trans' HK.out
end Go.Proofs.YtldobcfejldbiaaGreatDoor

namespace Go.Proofs.YtldobcfejldbiaaGreatDoor
set_option linter.unusedVariables false
set_option linter.unusedSimpArgs false
open Go.RowKit Vm Rm Bm Im

abbrev pv (g q : Nat) : Value := .pointer (some ⟨g, q, none⟩)
/-- Of 0 what is waited for is Max, of all others Delay. -/
def heldI (t : Tm) (p : Pt) : Int := if p.role = 0 then t.max else t.delay

set_option maxHeartbeats 1000000 in
theorem heldFd_w (t : Tm) (g n cap k q : Nat) (p : Pt) (R : Int) (w : World) (h : PAt w g q p) (hR : Hid (heldI t p = R)) :
    Calls Tryz.prog 228 #[sv t g n cap k q] w fun e w' => e = .returned (.int .i64 R) ∧ Below w.heap.size w w' := by
  obtain ⟨W, sb, HW, HS, k0, kB, kL⟩ := oneS_is t g n cap k q w
  have B0 := Lib.hid kB
  have PA := h.next (HS.out ▸ kB)
  have c_role := PA.c_role
  obtain ⟨c0, c1, c2, c3, c4, c5, c6⟩ := k0.cells
  clear h k0 kB kL PA
  rw [← hR.out]
  clear hR
  unfold heldI
  unfold sv scl
  go_enter Tryz.func228, Tryz.ntmps228
  go_upto_region 1 with (fail)
  refine wp_to (W := W) (by exact HW.out.symm) ?_
  rw [HS.out]
  go_wp2
  all_goals go_ret
  all_goals (refine ⟨?_, HS.out ▸ B0.out⟩; refine ret_val ?_; have e : ∀ k : Int, (p.role == k) = decide (p.role = k) := fun _ => rfl; simp_all)

set_option maxHeartbeats 1000000 in
theorem mayAgree_w (t : Tm) (g n cap k q : Nat) (l : List Pt) (p : Pt) (R : Bool) (w : World) (hr : WRow w g l) (hn : l.length = n) (hl : n ≤ 1000) (hp : l[k]? = some p) (hq : k * 61 = q) (hR : Hid (agreesB (othersB syncedO l k) p = R)) :
    Calls Tryz.prog 234 #[sv t g n cap k q] w fun e w' => e = .returned (.bool R) ∧ Below w.heap.size w w' := by
  obtain ⟨W, sb, HW, HS, k0, kB, kL⟩ := oneS_is t g n cap k q w
  have B0 := Lib.hid (HS.out ▸ kB : Below w.heap.size w W)
  have S0 := Lib.hid k0
  have hrW := hr.next B0.out
  have HR := Lib.hid hrW
  have PA := Lib.hid (hq ▸ hrW.pat hp : PAt W g q p)
  obtain ⟨O, hO⟩ : ∃ O, othersB syncedO l k = O := ⟨_, rfl⟩
  have CO := Lib.hid (othersSynced_w t g n cap k q l O W hrW hn hl (Lib.hid hO))
  rw [← hR.out, hO]
  clear hR hO hrW hr hn hl hp hq kB kL
  unfold agreesB
  have c_agree := PA.out.c_agree
  have c_proposed := PA.out.c_proposed
  obtain ⟨c0, c1, c2, c3, c4, c5, c6⟩ := k0.cells
  clear k0
  obtain ⟨x, e_x⟩ : ∃ x, p.agree = x := ⟨_, rfl⟩
  rw [e_x] at c_agree ⊢
  obtain ⟨y, e_y⟩ : ∃ y, p.proposed = y := ⟨_, rfl⟩
  rw [e_y] at c_proposed ⊢
  have CPA := Lib.hid (fun w' (hb : Below W.heap.size W w') => e_x ▸ (PA.out.next hb).c_agree)
  have CPP := Lib.hid (fun w' (hb : Below W.heap.size W w') => e_y ▸ (PA.out.next hb).c_proposed)
  clear e_x e_y PA
  unfold sv scl at *
  cases x <;> cases O
  all_goals
    go_enter Tryz.func234, Tryz.ntmps234
    go_upto_region 1 with (fail)
    refine wp_to (W := W) (by exact HW.out.symm) ?_
    rw [HS.out]
    go_wp2_with (go_at_call 268; (with_reducible refine CO.out.mono ?_); rintro e w1 ⟨rfl, hb1⟩; have c_a1 := CPA.out _ hb1; have c_p1 := CPP.out _ hb1)
    all_goals go_ret
    all_goals refine ⟨(by refine ret_val ?_; simp_all), ?_⟩
    all_goals first | exact B0.out | exact bw_trans B0.out hb1

def rootMayB (ro : Bool) (p : Pt) : Bool := decide (p.fd = 0) || (decide (p.rb = 0) && (p.sendRstp && ro))
set_option maxHeartbeats 1000000 in
theorem rootMayOpen_w (t : Tm) (g n cap k q : Nat) (l : List Pt) (p : Pt) (R : Bool) (w : World) (hr : WRow w g l) (hn : l.length = n) (hl : n ≤ 1000) (hp : l[k]? = some p) (hq : k * 61 = q) (hR : Hid (rootMayB (othersB rerootedO l k) p = R)) :
    Calls Tryz.prog 251 #[sv t g n cap k q] w fun e w' => e = .returned (.bool R) ∧ Below w.heap.size w w' := by
  obtain ⟨W, sb, HW, HS, k0, kB, kL⟩ := oneS_is t g n cap k q w
  have B0 := Lib.hid (HS.out ▸ kB : Below w.heap.size w W)
  have S0 := Lib.hid k0
  have hrW := hr.next B0.out
  have HR := Lib.hid hrW
  have PA := Lib.hid (hq ▸ hrW.pat hp : PAt W g q p)
  obtain ⟨O, hO⟩ : ∃ O, othersB rerootedO l k = O := ⟨_, rfl⟩
  have CO := Lib.hid (othersRerooted_w t g n cap k q l O W hrW hn hl (Lib.hid hO))
  rw [← hR.out, hO]
  clear hR hO hrW hr hn hl hp hq kB kL
  unfold rootMayB
  have c_fd := PA.out.c_fd
  obtain ⟨c0, c1, c2, c3, c4, c5, c6⟩ := k0.cells
  clear k0
  obtain ⟨x, e_x⟩ : ∃ x, decide (p.fd = 0) = x := ⟨_, rfl⟩
  have d_x : (p.fd == 0) = x := by rw [← e_x]; rfl
  rw [e_x]
  obtain ⟨y, e_y⟩ : ∃ y, decide (p.rb = 0) = y := ⟨_, rfl⟩
  have d_y : (p.rb == 0) = y := by rw [← e_y]; rfl
  rw [e_y]
  obtain ⟨z, e_z⟩ : ∃ z, p.sendRstp = z := ⟨_, rfl⟩
  rw [e_z]
  have CPA := Lib.hid (fun w' (hb : Below W.heap.size W w') => (PA.out.next hb).c_rb)
  have CPP := Lib.hid (fun w' (hb : Below W.heap.size W w') => e_z ▸ (PA.out.next hb).c_sendRstp)
  clear e_x e_y e_z PA
  unfold sv scl at *
  cases x <;> cases O <;> cases y <;> cases z
  all_goals
    go_enter Tryz.func251, Tryz.ntmps251
    go_upto_region 1 with (fail)
    refine wp_to (W := W) (by exact HW.out.symm) ?_
    rw [HS.out]
    go_wp2_with (go_at_call 269; (with_reducible refine CO.out.mono ?_); rintro e w1 ⟨rfl, hb1⟩; have c_a1 := CPA.out _ hb1; have c_p1 := CPP.out _ hb1)
    all_goals go_ret
    all_goals refine ⟨(by refine ret_val ?_; simp_all), ?_⟩
    all_goals first | exact B0.out | exact bw_trans B0.out hb1
end Go.Proofs.YtldobcfejldbiaaGreatDoor
