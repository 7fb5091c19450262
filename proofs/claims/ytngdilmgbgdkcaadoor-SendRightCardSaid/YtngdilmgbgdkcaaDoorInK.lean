/-
  Layers 10 and 11: a port's 61 cells as one array; a port's block of memory, of type T.
-/
import Derived.Test.YtngdilmgbgdkcaaDoorInMath2
import Derived.Test.YtngdilmgbgdkcaaDoorRoB
import Derived.Laws.Rows
import Derived.Laws.Tables
namespace Go.Proofs.YtngdilmgbgdkcaaDoor
set_option linter.unusedVariables false
set_option linter.unusedSimpArgs false
open Go.RowKit Vm Rm Bm Im

def cellsT (p : Pt) : Array Value := #[.int .u64 p.id, .int .u64 p.cost, .bool p.on, .bool p.admin, .bool p.oper, .int .i64 p.source, .int .u64 p.vec.root, .int .u64 p.vec.cost, .int .u64 p.vec.bridge, .int .u64 p.vec.port, .int .i64 p.times.age, .int .i64 p.times.max, .int .i64 p.times.hello, .int .i64 p.times.delay, .int .u64 p.offer.root, .int .u64 p.offer.cost, .int .u64 p.offer.bridge, .int .u64 p.offer.port, .int .i64 p.given.age, .int .i64 p.given.max, .int .i64 p.given.hello, .int .i64 p.given.delay, .int .i64 p.role, .int .i64 p.selected, .bool p.ready, .bool p.update, .bool p.reselect, .bool p.learn, .bool p.learning, .bool p.forward, .bool p.forwarding, .bool p.agree, .bool p.agreed, .bool p.proposed, .bool p.proposing, .bool p.sync, .bool p.synced, .bool p.reroot, .bool p.disputed, .bool p.newInfo, .bool p.heardTc, .bool p.heardTcn, .bool p.heardAck, .bool p.tcAck, .bool p.tcProp, .bool p.flush, .bool p.sendRstp, .bool p.heardRstp, .bool p.heardStp, .bool p.check, .int .i64 p.fd, .int .i64 p.rr, .int .i64 p.rb, .int .i64 p.tc, .int .i64 p.edge, .int .i64 p.md, .int .i64 p.info, .int .i64 p.hello, .int .i64 p.txCount, .int .i64 p.change, .int .i64 p.migrate]
theorem cellsT_size (p : Pt) : (cellsT p).size = 61 := rfl
theorem cellsT_one (p : Pt) : (cellsT p).all (·.oneCell') = true := by simp [cellsT, Value.oneCell']
def PtBlk (T : TypeId) (w : World) (b : Nat) (p : Pt) : Prop := w.heap[b]? = some (.cells (cellsT p) T (0, 0))
section
variable {T : TypeId} {w w' : World} {b : Nat} {p : Pt}
theorem PtBlk.lt (h : PtBlk T w b p) : b < w.heap.size := (Array.getElem?_eq_some_iff.1 h).1
theorem PtBlk.same (h : PtBlk T w b p) (hb : w'.heap[b]? = w.heap[b]?) : PtBlk T w' b p := hb.trans h
theorem PtBlk.next (h : PtBlk T w b p) (hb : Below w.heap.size w w') : PtBlk T w' b p := h.same (hb.block b h.lt)
theorem ptblk_new (T : TypeId) (w : World) (p : Pt) : PtBlk T (w.alloc (.cells (cellsT p) T)) w.heap.size p := heap_alloc_new w _
theorem PtBlk.free (h : PtBlk T w b p) (j : Nat) : w.frozen? ⟨b, j, none⟩ = false := by
  unfold PtBlk at h
  simp [World.frozen?, h]
theorem PtBlk.row (h : PtBlk T w b p) (q : Pt) : PtBlk T (w.setRow b (cellsT q)) b q := setRow_heap w b _ _ T _ h
/-! Each field's cell; a field stored. -/
theorem PtBlk.c_id (h : PtBlk T w b p) : w.cell? ⟨b, 0, none⟩ = some (.int .u64 p.id) := (cell_of_row w b 0 (cellsT p) T _ h).trans rfl
theorem PtBlk.c_cost (h : PtBlk T w b p) : w.cell? ⟨b, 1, none⟩ = some (.int .u64 p.cost) := (cell_of_row w b 1 (cellsT p) T _ h).trans rfl
theorem PtBlk.c_on (h : PtBlk T w b p) : w.cell? ⟨b, 2, none⟩ = some (.bool p.on) := (cell_of_row w b 2 (cellsT p) T _ h).trans rfl
theorem PtBlk.c_admin (h : PtBlk T w b p) : w.cell? ⟨b, 3, none⟩ = some (.bool p.admin) := (cell_of_row w b 3 (cellsT p) T _ h).trans rfl
theorem PtBlk.c_oper (h : PtBlk T w b p) : w.cell? ⟨b, 4, none⟩ = some (.bool p.oper) := (cell_of_row w b 4 (cellsT p) T _ h).trans rfl
theorem PtBlk.c_source (h : PtBlk T w b p) : w.cell? ⟨b, 5, none⟩ = some (.int .i64 p.source) := (cell_of_row w b 5 (cellsT p) T _ h).trans rfl
theorem PtBlk.c_vec_root (h : PtBlk T w b p) : w.cell? ⟨b, 6, none⟩ = some (.int .u64 p.vec.root) := (cell_of_row w b 6 (cellsT p) T _ h).trans rfl
theorem PtBlk.c_vec_cost (h : PtBlk T w b p) : w.cell? ⟨b, 7, none⟩ = some (.int .u64 p.vec.cost) := (cell_of_row w b 7 (cellsT p) T _ h).trans rfl
theorem PtBlk.c_vec_bridge (h : PtBlk T w b p) : w.cell? ⟨b, 8, none⟩ = some (.int .u64 p.vec.bridge) := (cell_of_row w b 8 (cellsT p) T _ h).trans rfl
theorem PtBlk.c_vec_port (h : PtBlk T w b p) : w.cell? ⟨b, 9, none⟩ = some (.int .u64 p.vec.port) := (cell_of_row w b 9 (cellsT p) T _ h).trans rfl
theorem PtBlk.c_times_age (h : PtBlk T w b p) : w.cell? ⟨b, 10, none⟩ = some (.int .i64 p.times.age) := (cell_of_row w b 10 (cellsT p) T _ h).trans rfl
theorem PtBlk.c_times_max (h : PtBlk T w b p) : w.cell? ⟨b, 11, none⟩ = some (.int .i64 p.times.max) := (cell_of_row w b 11 (cellsT p) T _ h).trans rfl
theorem PtBlk.c_times_hello (h : PtBlk T w b p) : w.cell? ⟨b, 12, none⟩ = some (.int .i64 p.times.hello) := (cell_of_row w b 12 (cellsT p) T _ h).trans rfl
theorem PtBlk.c_times_delay (h : PtBlk T w b p) : w.cell? ⟨b, 13, none⟩ = some (.int .i64 p.times.delay) := (cell_of_row w b 13 (cellsT p) T _ h).trans rfl
theorem PtBlk.c_offer_root (h : PtBlk T w b p) : w.cell? ⟨b, 14, none⟩ = some (.int .u64 p.offer.root) := (cell_of_row w b 14 (cellsT p) T _ h).trans rfl
theorem PtBlk.c_offer_cost (h : PtBlk T w b p) : w.cell? ⟨b, 15, none⟩ = some (.int .u64 p.offer.cost) := (cell_of_row w b 15 (cellsT p) T _ h).trans rfl
theorem PtBlk.c_offer_bridge (h : PtBlk T w b p) : w.cell? ⟨b, 16, none⟩ = some (.int .u64 p.offer.bridge) := (cell_of_row w b 16 (cellsT p) T _ h).trans rfl
theorem PtBlk.c_offer_port (h : PtBlk T w b p) : w.cell? ⟨b, 17, none⟩ = some (.int .u64 p.offer.port) := (cell_of_row w b 17 (cellsT p) T _ h).trans rfl
theorem PtBlk.c_given_age (h : PtBlk T w b p) : w.cell? ⟨b, 18, none⟩ = some (.int .i64 p.given.age) := (cell_of_row w b 18 (cellsT p) T _ h).trans rfl
theorem PtBlk.c_given_max (h : PtBlk T w b p) : w.cell? ⟨b, 19, none⟩ = some (.int .i64 p.given.max) := (cell_of_row w b 19 (cellsT p) T _ h).trans rfl
theorem PtBlk.c_given_hello (h : PtBlk T w b p) : w.cell? ⟨b, 20, none⟩ = some (.int .i64 p.given.hello) := (cell_of_row w b 20 (cellsT p) T _ h).trans rfl
theorem PtBlk.c_given_delay (h : PtBlk T w b p) : w.cell? ⟨b, 21, none⟩ = some (.int .i64 p.given.delay) := (cell_of_row w b 21 (cellsT p) T _ h).trans rfl
theorem PtBlk.c_role (h : PtBlk T w b p) : w.cell? ⟨b, 22, none⟩ = some (.int .i64 p.role) := (cell_of_row w b 22 (cellsT p) T _ h).trans rfl
theorem PtBlk.c_selected (h : PtBlk T w b p) : w.cell? ⟨b, 23, none⟩ = some (.int .i64 p.selected) := (cell_of_row w b 23 (cellsT p) T _ h).trans rfl
theorem PtBlk.c_ready (h : PtBlk T w b p) : w.cell? ⟨b, 24, none⟩ = some (.bool p.ready) := (cell_of_row w b 24 (cellsT p) T _ h).trans rfl
theorem PtBlk.c_update (h : PtBlk T w b p) : w.cell? ⟨b, 25, none⟩ = some (.bool p.update) := (cell_of_row w b 25 (cellsT p) T _ h).trans rfl
theorem PtBlk.c_reselect (h : PtBlk T w b p) : w.cell? ⟨b, 26, none⟩ = some (.bool p.reselect) := (cell_of_row w b 26 (cellsT p) T _ h).trans rfl
theorem PtBlk.c_learn (h : PtBlk T w b p) : w.cell? ⟨b, 27, none⟩ = some (.bool p.learn) := (cell_of_row w b 27 (cellsT p) T _ h).trans rfl
theorem PtBlk.c_learning (h : PtBlk T w b p) : w.cell? ⟨b, 28, none⟩ = some (.bool p.learning) := (cell_of_row w b 28 (cellsT p) T _ h).trans rfl
theorem PtBlk.c_forward (h : PtBlk T w b p) : w.cell? ⟨b, 29, none⟩ = some (.bool p.forward) := (cell_of_row w b 29 (cellsT p) T _ h).trans rfl
theorem PtBlk.c_forwarding (h : PtBlk T w b p) : w.cell? ⟨b, 30, none⟩ = some (.bool p.forwarding) := (cell_of_row w b 30 (cellsT p) T _ h).trans rfl
theorem PtBlk.c_agree (h : PtBlk T w b p) : w.cell? ⟨b, 31, none⟩ = some (.bool p.agree) := (cell_of_row w b 31 (cellsT p) T _ h).trans rfl
theorem PtBlk.c_agreed (h : PtBlk T w b p) : w.cell? ⟨b, 32, none⟩ = some (.bool p.agreed) := (cell_of_row w b 32 (cellsT p) T _ h).trans rfl
theorem PtBlk.c_proposed (h : PtBlk T w b p) : w.cell? ⟨b, 33, none⟩ = some (.bool p.proposed) := (cell_of_row w b 33 (cellsT p) T _ h).trans rfl
theorem PtBlk.c_proposing (h : PtBlk T w b p) : w.cell? ⟨b, 34, none⟩ = some (.bool p.proposing) := (cell_of_row w b 34 (cellsT p) T _ h).trans rfl
theorem PtBlk.c_sync (h : PtBlk T w b p) : w.cell? ⟨b, 35, none⟩ = some (.bool p.sync) := (cell_of_row w b 35 (cellsT p) T _ h).trans rfl
theorem PtBlk.c_synced (h : PtBlk T w b p) : w.cell? ⟨b, 36, none⟩ = some (.bool p.synced) := (cell_of_row w b 36 (cellsT p) T _ h).trans rfl
theorem PtBlk.c_reroot (h : PtBlk T w b p) : w.cell? ⟨b, 37, none⟩ = some (.bool p.reroot) := (cell_of_row w b 37 (cellsT p) T _ h).trans rfl
theorem PtBlk.c_disputed (h : PtBlk T w b p) : w.cell? ⟨b, 38, none⟩ = some (.bool p.disputed) := (cell_of_row w b 38 (cellsT p) T _ h).trans rfl
theorem PtBlk.c_newInfo (h : PtBlk T w b p) : w.cell? ⟨b, 39, none⟩ = some (.bool p.newInfo) := (cell_of_row w b 39 (cellsT p) T _ h).trans rfl
theorem PtBlk.c_heardTc (h : PtBlk T w b p) : w.cell? ⟨b, 40, none⟩ = some (.bool p.heardTc) := (cell_of_row w b 40 (cellsT p) T _ h).trans rfl
theorem PtBlk.c_heardTcn (h : PtBlk T w b p) : w.cell? ⟨b, 41, none⟩ = some (.bool p.heardTcn) := (cell_of_row w b 41 (cellsT p) T _ h).trans rfl
theorem PtBlk.c_heardAck (h : PtBlk T w b p) : w.cell? ⟨b, 42, none⟩ = some (.bool p.heardAck) := (cell_of_row w b 42 (cellsT p) T _ h).trans rfl
theorem PtBlk.c_tcAck (h : PtBlk T w b p) : w.cell? ⟨b, 43, none⟩ = some (.bool p.tcAck) := (cell_of_row w b 43 (cellsT p) T _ h).trans rfl
theorem PtBlk.c_tcProp (h : PtBlk T w b p) : w.cell? ⟨b, 44, none⟩ = some (.bool p.tcProp) := (cell_of_row w b 44 (cellsT p) T _ h).trans rfl
theorem PtBlk.c_flush (h : PtBlk T w b p) : w.cell? ⟨b, 45, none⟩ = some (.bool p.flush) := (cell_of_row w b 45 (cellsT p) T _ h).trans rfl
theorem PtBlk.c_sendRstp (h : PtBlk T w b p) : w.cell? ⟨b, 46, none⟩ = some (.bool p.sendRstp) := (cell_of_row w b 46 (cellsT p) T _ h).trans rfl
theorem PtBlk.c_heardRstp (h : PtBlk T w b p) : w.cell? ⟨b, 47, none⟩ = some (.bool p.heardRstp) := (cell_of_row w b 47 (cellsT p) T _ h).trans rfl
theorem PtBlk.c_heardStp (h : PtBlk T w b p) : w.cell? ⟨b, 48, none⟩ = some (.bool p.heardStp) := (cell_of_row w b 48 (cellsT p) T _ h).trans rfl
theorem PtBlk.c_check (h : PtBlk T w b p) : w.cell? ⟨b, 49, none⟩ = some (.bool p.check) := (cell_of_row w b 49 (cellsT p) T _ h).trans rfl
theorem PtBlk.c_fd (h : PtBlk T w b p) : w.cell? ⟨b, 50, none⟩ = some (.int .i64 p.fd) := (cell_of_row w b 50 (cellsT p) T _ h).trans rfl
theorem PtBlk.c_rr (h : PtBlk T w b p) : w.cell? ⟨b, 51, none⟩ = some (.int .i64 p.rr) := (cell_of_row w b 51 (cellsT p) T _ h).trans rfl
theorem PtBlk.c_rb (h : PtBlk T w b p) : w.cell? ⟨b, 52, none⟩ = some (.int .i64 p.rb) := (cell_of_row w b 52 (cellsT p) T _ h).trans rfl
theorem PtBlk.c_tc (h : PtBlk T w b p) : w.cell? ⟨b, 53, none⟩ = some (.int .i64 p.tc) := (cell_of_row w b 53 (cellsT p) T _ h).trans rfl
theorem PtBlk.c_edge (h : PtBlk T w b p) : w.cell? ⟨b, 54, none⟩ = some (.int .i64 p.edge) := (cell_of_row w b 54 (cellsT p) T _ h).trans rfl
theorem PtBlk.c_md (h : PtBlk T w b p) : w.cell? ⟨b, 55, none⟩ = some (.int .i64 p.md) := (cell_of_row w b 55 (cellsT p) T _ h).trans rfl
theorem PtBlk.c_info (h : PtBlk T w b p) : w.cell? ⟨b, 56, none⟩ = some (.int .i64 p.info) := (cell_of_row w b 56 (cellsT p) T _ h).trans rfl
theorem PtBlk.c_hello (h : PtBlk T w b p) : w.cell? ⟨b, 57, none⟩ = some (.int .i64 p.hello) := (cell_of_row w b 57 (cellsT p) T _ h).trans rfl
theorem PtBlk.c_txCount (h : PtBlk T w b p) : w.cell? ⟨b, 58, none⟩ = some (.int .i64 p.txCount) := (cell_of_row w b 58 (cellsT p) T _ h).trans rfl
theorem PtBlk.c_change (h : PtBlk T w b p) : w.cell? ⟨b, 59, none⟩ = some (.int .i64 p.change) := (cell_of_row w b 59 (cellsT p) T _ h).trans rfl
theorem PtBlk.c_migrate (h : PtBlk T w b p) : w.cell? ⟨b, 60, none⟩ = some (.int .i64 p.migrate) := (cell_of_row w b 60 (cellsT p) T _ h).trans rfl
theorem PtBlk.s_id (h : PtBlk T w b p) (x : Int) : PtBlk T (w.setCell ⟨b, 0, none⟩ (.int .u64 x)) b { p with id := x } := by unfold PtBlk at h ⊢; exact blk_set h rfl
theorem PtBlk.s_cost (h : PtBlk T w b p) (x : Int) : PtBlk T (w.setCell ⟨b, 1, none⟩ (.int .u64 x)) b { p with cost := x } := by unfold PtBlk at h ⊢; exact blk_set h rfl
theorem PtBlk.s_on (h : PtBlk T w b p) (x : Bool) : PtBlk T (w.setCell ⟨b, 2, none⟩ (.bool x)) b { p with on := x } := by unfold PtBlk at h ⊢; exact blk_set h rfl
theorem PtBlk.s_admin (h : PtBlk T w b p) (x : Bool) : PtBlk T (w.setCell ⟨b, 3, none⟩ (.bool x)) b { p with admin := x } := by unfold PtBlk at h ⊢; exact blk_set h rfl
theorem PtBlk.s_oper (h : PtBlk T w b p) (x : Bool) : PtBlk T (w.setCell ⟨b, 4, none⟩ (.bool x)) b { p with oper := x } := by unfold PtBlk at h ⊢; exact blk_set h rfl
theorem PtBlk.s_source (h : PtBlk T w b p) (x : Int) : PtBlk T (w.setCell ⟨b, 5, none⟩ (.int .i64 x)) b { p with source := x } := by unfold PtBlk at h ⊢; exact blk_set h rfl
theorem PtBlk.s_role (h : PtBlk T w b p) (x : Int) : PtBlk T (w.setCell ⟨b, 22, none⟩ (.int .i64 x)) b { p with role := x } := by unfold PtBlk at h ⊢; exact blk_set h rfl
theorem PtBlk.s_selected (h : PtBlk T w b p) (x : Int) : PtBlk T (w.setCell ⟨b, 23, none⟩ (.int .i64 x)) b { p with selected := x } := by unfold PtBlk at h ⊢; exact blk_set h rfl
theorem PtBlk.s_ready (h : PtBlk T w b p) (x : Bool) : PtBlk T (w.setCell ⟨b, 24, none⟩ (.bool x)) b { p with ready := x } := by unfold PtBlk at h ⊢; exact blk_set h rfl
theorem PtBlk.s_update (h : PtBlk T w b p) (x : Bool) : PtBlk T (w.setCell ⟨b, 25, none⟩ (.bool x)) b { p with update := x } := by unfold PtBlk at h ⊢; exact blk_set h rfl
theorem PtBlk.s_reselect (h : PtBlk T w b p) (x : Bool) : PtBlk T (w.setCell ⟨b, 26, none⟩ (.bool x)) b { p with reselect := x } := by unfold PtBlk at h ⊢; exact blk_set h rfl
theorem PtBlk.s_learn (h : PtBlk T w b p) (x : Bool) : PtBlk T (w.setCell ⟨b, 27, none⟩ (.bool x)) b { p with learn := x } := by unfold PtBlk at h ⊢; exact blk_set h rfl
theorem PtBlk.s_learning (h : PtBlk T w b p) (x : Bool) : PtBlk T (w.setCell ⟨b, 28, none⟩ (.bool x)) b { p with learning := x } := by unfold PtBlk at h ⊢; exact blk_set h rfl
theorem PtBlk.s_forward (h : PtBlk T w b p) (x : Bool) : PtBlk T (w.setCell ⟨b, 29, none⟩ (.bool x)) b { p with forward := x } := by unfold PtBlk at h ⊢; exact blk_set h rfl
theorem PtBlk.s_forwarding (h : PtBlk T w b p) (x : Bool) : PtBlk T (w.setCell ⟨b, 30, none⟩ (.bool x)) b { p with forwarding := x } := by unfold PtBlk at h ⊢; exact blk_set h rfl
theorem PtBlk.s_agree (h : PtBlk T w b p) (x : Bool) : PtBlk T (w.setCell ⟨b, 31, none⟩ (.bool x)) b { p with agree := x } := by unfold PtBlk at h ⊢; exact blk_set h rfl
theorem PtBlk.s_agreed (h : PtBlk T w b p) (x : Bool) : PtBlk T (w.setCell ⟨b, 32, none⟩ (.bool x)) b { p with agreed := x } := by unfold PtBlk at h ⊢; exact blk_set h rfl
theorem PtBlk.s_proposed (h : PtBlk T w b p) (x : Bool) : PtBlk T (w.setCell ⟨b, 33, none⟩ (.bool x)) b { p with proposed := x } := by unfold PtBlk at h ⊢; exact blk_set h rfl
theorem PtBlk.s_proposing (h : PtBlk T w b p) (x : Bool) : PtBlk T (w.setCell ⟨b, 34, none⟩ (.bool x)) b { p with proposing := x } := by unfold PtBlk at h ⊢; exact blk_set h rfl
theorem PtBlk.s_sync (h : PtBlk T w b p) (x : Bool) : PtBlk T (w.setCell ⟨b, 35, none⟩ (.bool x)) b { p with sync := x } := by unfold PtBlk at h ⊢; exact blk_set h rfl
theorem PtBlk.s_synced (h : PtBlk T w b p) (x : Bool) : PtBlk T (w.setCell ⟨b, 36, none⟩ (.bool x)) b { p with synced := x } := by unfold PtBlk at h ⊢; exact blk_set h rfl
theorem PtBlk.s_reroot (h : PtBlk T w b p) (x : Bool) : PtBlk T (w.setCell ⟨b, 37, none⟩ (.bool x)) b { p with reroot := x } := by unfold PtBlk at h ⊢; exact blk_set h rfl
theorem PtBlk.s_disputed (h : PtBlk T w b p) (x : Bool) : PtBlk T (w.setCell ⟨b, 38, none⟩ (.bool x)) b { p with disputed := x } := by unfold PtBlk at h ⊢; exact blk_set h rfl
theorem PtBlk.s_newInfo (h : PtBlk T w b p) (x : Bool) : PtBlk T (w.setCell ⟨b, 39, none⟩ (.bool x)) b { p with newInfo := x } := by unfold PtBlk at h ⊢; exact blk_set h rfl
theorem PtBlk.s_heardTc (h : PtBlk T w b p) (x : Bool) : PtBlk T (w.setCell ⟨b, 40, none⟩ (.bool x)) b { p with heardTc := x } := by unfold PtBlk at h ⊢; exact blk_set h rfl
theorem PtBlk.s_heardTcn (h : PtBlk T w b p) (x : Bool) : PtBlk T (w.setCell ⟨b, 41, none⟩ (.bool x)) b { p with heardTcn := x } := by unfold PtBlk at h ⊢; exact blk_set h rfl
theorem PtBlk.s_heardAck (h : PtBlk T w b p) (x : Bool) : PtBlk T (w.setCell ⟨b, 42, none⟩ (.bool x)) b { p with heardAck := x } := by unfold PtBlk at h ⊢; exact blk_set h rfl
theorem PtBlk.s_tcAck (h : PtBlk T w b p) (x : Bool) : PtBlk T (w.setCell ⟨b, 43, none⟩ (.bool x)) b { p with tcAck := x } := by unfold PtBlk at h ⊢; exact blk_set h rfl
theorem PtBlk.s_tcProp (h : PtBlk T w b p) (x : Bool) : PtBlk T (w.setCell ⟨b, 44, none⟩ (.bool x)) b { p with tcProp := x } := by unfold PtBlk at h ⊢; exact blk_set h rfl
theorem PtBlk.s_flush (h : PtBlk T w b p) (x : Bool) : PtBlk T (w.setCell ⟨b, 45, none⟩ (.bool x)) b { p with flush := x } := by unfold PtBlk at h ⊢; exact blk_set h rfl
theorem PtBlk.s_sendRstp (h : PtBlk T w b p) (x : Bool) : PtBlk T (w.setCell ⟨b, 46, none⟩ (.bool x)) b { p with sendRstp := x } := by unfold PtBlk at h ⊢; exact blk_set h rfl
theorem PtBlk.s_heardRstp (h : PtBlk T w b p) (x : Bool) : PtBlk T (w.setCell ⟨b, 47, none⟩ (.bool x)) b { p with heardRstp := x } := by unfold PtBlk at h ⊢; exact blk_set h rfl
theorem PtBlk.s_heardStp (h : PtBlk T w b p) (x : Bool) : PtBlk T (w.setCell ⟨b, 48, none⟩ (.bool x)) b { p with heardStp := x } := by unfold PtBlk at h ⊢; exact blk_set h rfl
theorem PtBlk.s_check (h : PtBlk T w b p) (x : Bool) : PtBlk T (w.setCell ⟨b, 49, none⟩ (.bool x)) b { p with check := x } := by unfold PtBlk at h ⊢; exact blk_set h rfl
theorem PtBlk.s_fd (h : PtBlk T w b p) (x : Int) : PtBlk T (w.setCell ⟨b, 50, none⟩ (.int .i64 x)) b { p with fd := x } := by unfold PtBlk at h ⊢; exact blk_set h rfl
theorem PtBlk.s_rr (h : PtBlk T w b p) (x : Int) : PtBlk T (w.setCell ⟨b, 51, none⟩ (.int .i64 x)) b { p with rr := x } := by unfold PtBlk at h ⊢; exact blk_set h rfl
theorem PtBlk.s_rb (h : PtBlk T w b p) (x : Int) : PtBlk T (w.setCell ⟨b, 52, none⟩ (.int .i64 x)) b { p with rb := x } := by unfold PtBlk at h ⊢; exact blk_set h rfl
theorem PtBlk.s_tc (h : PtBlk T w b p) (x : Int) : PtBlk T (w.setCell ⟨b, 53, none⟩ (.int .i64 x)) b { p with tc := x } := by unfold PtBlk at h ⊢; exact blk_set h rfl
theorem PtBlk.s_edge (h : PtBlk T w b p) (x : Int) : PtBlk T (w.setCell ⟨b, 54, none⟩ (.int .i64 x)) b { p with edge := x } := by unfold PtBlk at h ⊢; exact blk_set h rfl
theorem PtBlk.s_md (h : PtBlk T w b p) (x : Int) : PtBlk T (w.setCell ⟨b, 55, none⟩ (.int .i64 x)) b { p with md := x } := by unfold PtBlk at h ⊢; exact blk_set h rfl
theorem PtBlk.s_info (h : PtBlk T w b p) (x : Int) : PtBlk T (w.setCell ⟨b, 56, none⟩ (.int .i64 x)) b { p with info := x } := by unfold PtBlk at h ⊢; exact blk_set h rfl
theorem PtBlk.s_hello (h : PtBlk T w b p) (x : Int) : PtBlk T (w.setCell ⟨b, 57, none⟩ (.int .i64 x)) b { p with hello := x } := by unfold PtBlk at h ⊢; exact blk_set h rfl
theorem PtBlk.s_txCount (h : PtBlk T w b p) (x : Int) : PtBlk T (w.setCell ⟨b, 58, none⟩ (.int .i64 x)) b { p with txCount := x } := by unfold PtBlk at h ⊢; exact blk_set h rfl
theorem PtBlk.s_change (h : PtBlk T w b p) (x : Int) : PtBlk T (w.setCell ⟨b, 59, none⟩ (.int .i64 x)) b { p with change := x } := by unfold PtBlk at h ⊢; exact blk_set h rfl
theorem PtBlk.s_migrate (h : PtBlk T w b p) (x : Int) : PtBlk T (w.setCell ⟨b, 60, none⟩ (.int .i64 x)) b { p with migrate := x } := by unfold PtBlk at h ⊢; exact blk_set h rfl
end
end Go.Proofs.YtngdilmgbgdkcaaDoor
