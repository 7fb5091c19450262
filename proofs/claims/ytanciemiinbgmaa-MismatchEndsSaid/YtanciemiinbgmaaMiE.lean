/-
  Layer 9: sync.Once, the first time and again; Hear's closure.
-/
import Derived.Test.YtanciemiinbgmaaMiD
import Derived.Defers
import Derived.Laws.Pointers
import Derived.Laws.LoneSync
import Derived.RegionTactic
import Derived.RegionCalls
import Derived.ChangeAlike
import Derived.Laws.NewBlocks
namespace Go.Proofs.Ytanciemiinbgmaa
set_option linter.unusedVariables false
set_option linter.unusedSimpArgs false
open Go.RowKit Go.Maps Pm Mm

theorem disable_ (w : World) : (callFunc 71 #[]).run Try.prog w = .ok (.value (.tuple #[])) w := run_call_mark0 Try.func71 (by kernel_rfl) (by kernel_rfl) (by kernel_rfl) .disable (by kernel_rfl) w
theorem enable_ (w : World) : (callFunc 73 #[]).run Try.prog w = .ok (.value (.tuple #[])) w := run_call_mark0 Try.func73 (by kernel_rfl) (by kernel_rfl) (by kernel_rfl) .enable (by kernel_rfl) w
theorem acquire_ (a : Addr) (w : World) : (callFunc 74 #[.pointer (some a)]).run Try.prog w = .ok (.value (.tuple #[])) w := run_call_marked Try.func74 (by kernel_rfl) (by kernel_rfl) (by kernel_rfl) .acquire (by kernel_rfl) a w
theorem releaseMerge_ (a : Addr) (w : World) : (callFunc 76 #[.pointer (some a)]).run Try.prog w = .ok (.value (.tuple #[])) w := run_call_marked Try.func76 (by kernel_rfl) (by kernel_rfl) (by kernel_rfl) .releaseMerge (by kernel_rfl) a w

set_option maxRecDepth 100000 in
set_option maxHeartbeats 1600000 in
/-- '(*sync/atomic.Bool).Store(true)', entered as a deferred call: the cell holds 1. -/
theorem store_deferred (a : Addr) (x : Value) (u : FrameMode) (w : World) (hc : w.cell? a = some x) (hz : w.frozen? a = false) :
    CallsD Try.prog 52 #[.pointer (some a), .bool true] u w fun e u' w' => u' = u ∧ (e = .returned (.tuple #[]) ∧ w' = w.drew.setCell a (.int .u32 1)) := by
  have hc' : w.drew.cell? a = some x := by go_simp
  have hz' : w.drew.frozen? a = false := by go_simp
  have hst := run_call_store (P := Try.prog) Try.func58 (by kernel_rfl) (by kernel_rfl) (by kernel_rfl) (by kernel_rfl) (k := .u32) (y := 1) hc' hz'
  go_enter_d Try.func52, Try.ntmps52
  go_wp2
  go_region_calls
  all_goals (go_end0; exact ⟨rfl, rfl⟩)

set_option maxRecDepth 100000 in
set_option maxHeartbeats 1600000 in
/-- '(*sync.Mutex).Unlock', entered as a deferred call, the lock held and nobody waiting (state 1): state 0. -/
theorem unlock_deferred (a : Addr) (u : FrameMode) (w : World) (hc : w.cell? a = some (.int .i32 1)) (hz : w.frozen? a = false) :
    CallsD Try.prog 51 #[.pointer (some a)] u w fun e u' w' => u' = u ∧ (e = .returned (.tuple #[]) ∧ w' = w.setCell a (.int .i32 0)) := by
  have hd := disable_
  have he := enable_
  have hr := releaseMerge_
  have hadd := run_call_add (P := Try.prog) Try.func77 (by kernel_rfl) (by kernel_rfl) (by kernel_rfl) .i32 (by kernel_rfl) (y := -1) (s := 0) hc hz (by simp [go_sem]; rfl)
  have hcv := run_convert_to_unsafe (P := Try.prog) (src := 119) (dst := 123) Try.underlying119 Try.underlying123 (by kernel_rfl) hc
  go_enter_d Try.func51, Try.ntmps51
  go_wp2
  go_end0
  go_wp2
  go_end0
  exact ⟨rfl, rfl⟩

set_option maxRecDepth 100000 in
set_option maxHeartbeats 1600000 in
/-- '(*sync.Mutex).Lock', the lock free (state 0): state 1. -/
theorem lock_free (a : Addr) (w : World) (hc : w.cell? a = some (.int .i32 0)) (hz : w.frozen? a = false) :
    Calls Try.prog 50 #[.pointer (some a)] w fun e w' => e = .returned (.tuple #[]) ∧ w' = w.setCell a (.int .i32 1) := by
  have hd := disable_
  have he := enable_
  have ha := acquire_
  have hcas := run_call_cas_hit (P := Try.prog) Try.func72 (by kernel_rfl) (by kernel_rfl) (by kernel_rfl) .i32 (by kernel_rfl) (y := 1) hc hz
  have hc' : (w.setCell a (.int .i32 1)).cell? a = some (.int .i32 1) := World.cell?_setCell_same w a _ hc
  have hcv := run_convert_to_unsafe (P := Try.prog) (src := 119) (dst := 123) Try.underlying119 Try.underlying123 (by kernel_rfl) hc'
  go_enter Try.func50, Try.ntmps50
  go_wp2
  first | go_end0 | (simp only [Exit.inBlock, Exit.then]; refine bodyPost_ret (results_none rfl _ _ _) rfl ?_) | refine bodyPost_ret (results_none rfl _ _ _) rfl ?_
  go_wp2
  go_end0
  exact ⟨rfl, rfl⟩

/-- A block of one cell. -/
def One (T : TypeId) (w : World) (b : Nat) (x : Value) : Prop := w.heap[b]? = some (.cells #[x] T (0, 0))
theorem One.lt {T : TypeId} {w : World} {b : Nat} {x : Value} (h : One T w b x) : b < w.heap.size := (Array.getElem?_eq_some_iff.1 h).1
theorem One.same {T : TypeId} {w w' : World} {b : Nat} {x : Value} (h : One T w b x) (hb : w'.heap[b]? = w.heap[b]?) : One T w' b x := hb.trans h
theorem One.next {T : TypeId} {w w' : World} {b : Nat} {x : Value} (h : One T w b x) (hb : Below w.heap.size w w') : One T w' b x := h.same (hb.block b h.lt)
theorem One.cell {T : TypeId} {w : World} {b : Nat} {x : Value} (h : One T w b x) : w.cell? ⟨b, 0, none⟩ = some x := by
  unfold One at h
  simp [World.cell?, h]
theorem One.free {T : TypeId} {w : World} {b : Nat} {x : Value} (h : One T w b x) : w.frozen? ⟨b, 0, none⟩ = false := by
  unfold One at h
  simp [World.frozen?, h]
theorem one_new (T : TypeId) (w : World) (x : Value) : One T (w.alloc (.cells #[x] T)) w.heap.size x := heap_alloc_new w _
theorem One.other {T : TypeId} {w : World} {b c : Nat} {x : Value} (h : One T w b x) (j : Nat) (v : Value) (hne : b ≠ c) : One T (w.setCell ⟨c, j, none⟩ v) b x := (Below.heap_setCell w ⟨c, j, none⟩ v b hne).trans h

/-- What Hear's closure is called with: the three variables that it captures. -/
structure Caps (w : World) (b rp dp gp : Nat) (r d : Int) : Prop where
  r_ : One 3 w rp (.int .i64 r)
  d_ : One 3 w dp (.int .i64 d)
  g_ : One 31 w gp (.pointer (some ⟨b, 0, none⟩))
  nr : rp ≠ b
  nd : dp ≠ b
  ng : gp ≠ b
theorem Caps.same {w w' : World} {b rp dp gp : Nat} {r d : Int} (h : Caps w b rp dp gp r d) (hk : ∀ i, i < w.heap.size → i ≠ b → w'.heap[i]? = w.heap[i]?) : Caps w' b rp dp gp r d :=
  ⟨h.r_.same (hk rp h.r_.lt h.nr), h.d_.same (hk dp h.d_.lt h.nd), h.g_.same (hk gp h.g_.lt h.ng), h.nr, h.nd, h.ng⟩
theorem Caps.set {w : World} {b rp dp gp : Nat} {r d : Int} (h : Caps w b rp dp gp r d) (j : Nat) (v : Value) : Caps (w.setCell ⟨b, j, none⟩ v) b rp dp gp r d :=
  h.same fun i _ hi => Below.heap_setCell w ⟨b, j, none⟩ v i hi

/-- '(*sync.Once).doSlow', not yet done and the lock free. -/
def onceW (w : World) (b : Nat) (r d : Int) : World := ((((w.setCell ⟨b, 8, none⟩ (.int .i32 1)).setCell ⟨b, 10, none⟩ (.int .i64 r)).setCell ⟨b, 11, none⟩ (.int .i64 d)).drew.setCell ⟨b, 7, none⟩ (.int .u32 1)).setCell ⟨b, 8, none⟩ (.int .i32 0)
set_option maxRecDepth 100000 in
set_option maxHeartbeats 1600000 in
theorem slow_any (b rp dp gp : Nat) (r d : Int) (s : Gs) (w : World) (h : GBlk w b s) (hc : Caps w b rp dp gp r d) (hd : s.done = 0) (hs : s.state = 0) :
    Calls Try.prog 43 #[.pointer (some ⟨b, 7, none⟩), .func (.func 32) #[] #[.pointer (some ⟨rp, 0, none⟩), .pointer (some ⟨dp, 0, none⟩), .pointer (some ⟨gp, 0, none⟩)]] w fun e w' => e = .returned (.tuple #[]) ∧ w' = onceW w b r d := by
  obtain ⟨_, _, _, _, _, _, _, h0, h1, _, _⟩ := h.cells
  rw [hd] at h0
  rw [hs] at h1
  have f1 := h.free 8
  have H1 := h.state_ 1
  have C1 := hc.set 8 (.int .i32 1)
  have H2 := H1.first_ r d
  obtain ⟨_, _, _, _, _, _, _, q0, _, _, _⟩ := H1.cells
  rw [show ({ s with state := 1 } : Gs).done = 0 from hd] at q0
  have g10 := H1.free 10
  have g11 : ((w.setCell ⟨b, 8, none⟩ (.int .i32 1)).setCell ⟨b, 10, none⟩ (.int .i64 r)).frozen? ⟨b, 11, none⟩ = false := by simpa using H1.free 11
  obtain ⟨_, _, _, _, _, _, _, _, _, y10, y11⟩ := H1.cells
  have r1 := C1.r_.cell
  have d1 := C1.d_.cell
  have p1 := C1.g_.cell
  have hl := run_call_load (P := Try.prog) Try.func49 (by kernel_rfl) (by kernel_rfl) (by kernel_rfl) .u32 (by kernel_rfl) (w := w.setCell ⟨b, 8, none⟩ (.int .i32 1)) (a := ⟨b, 7, none⟩) (x := 0) q0
  have hnot : ∀ (x : Bool) (w : World), (Op.unary .not (.bool x)).run Try.prog w = .ok (.bool (!x)) w := fun _ _ => rfl
  obtain ⟨_, _, _, _, _, _, _, z7, z8, _, _⟩ := H2.cells
  have e7 := H2.free 7
  have e8 := H2.free 8
  go_enter_defers Try.func43, Try.ntmps43
  go_wp2_with (go_at_call 50; refine (lock_free ⟨b, 8, none⟩ _ h1 f1).mono ?_; rintro e w' ⟨rfl, rfl⟩)
  go_wp2
  go_end0
  go_wp2
  refine leaves_cons (f := 52) (args := #[.pointer (some ⟨b, 7, none⟩), .bool true]) (by simp) (by simp [go_sem]) ?_
  refine (store_deferred ⟨b, 7, none⟩ _ .returning _ z7 e7).mono ?_
  rintro e u' w'' ⟨rfl, rfl, rfl⟩
  refine leaves_cons (f := 51) (args := #[.pointer (some ⟨b, 8, none⟩)]) (by simp [settle]) (by simp [go_sem]) ?_
  refine (unlock_deferred ⟨b, 8, none⟩ _ _ ?_ (by simpa using e8)).mono ?_
  · refine (World.cell?_setCell_other _ ⟨b, 7, none⟩ ⟨b, 8, none⟩ _ (by simp)).trans ?_
    exact z8
  rintro e u' w'' ⟨rfl, rfl, rfl⟩
  simp [Leaves, settle, results, Try.results43, onceW]

set_option maxRecDepth 100000 in
set_option maxHeartbeats 1600000 in
/-- '(*sync.Once).Do', not yet done. -/
theorem do_first (b rp dp gp : Nat) (r d : Int) (s : Gs) (w : World) (h : GBlk w b s) (hc : Caps w b rp dp gp r d) (hd : s.done = 0) (hs : s.state = 0) :
    Calls Try.prog 31 #[.pointer (some ⟨b, 7, none⟩), .func (.func 32) #[] #[.pointer (some ⟨rp, 0, none⟩), .pointer (some ⟨dp, 0, none⟩), .pointer (some ⟨gp, 0, none⟩)]] w fun e w' => e = .returned (.tuple #[]) ∧ w' = onceW w b r d := by
  obtain ⟨_, _, _, _, _, _, _, h0, _, _, _⟩ := h.cells
  rw [hd] at h0
  have hS := slow_any b rp dp gp r d s w h hc hd hs
  have hl := run_call_load (P := Try.prog) Try.func49 (by kernel_rfl) (by kernel_rfl) (by kernel_rfl) .u32 (by kernel_rfl) h0
  have hnot : ∀ (x : Bool) (w : World), (Op.unary .not (.bool x)).run Try.prog w = .ok (.bool (!x)) w := fun _ _ => rfl
  clear h hc
  go_enter Try.func31, Try.ntmps31
  go_wp2_with (first | (go_at_call 43; refine hS.mono ?_; rintro e w' ⟨rfl, rfl⟩) | (go_at_call 42; go_in))
  go_end0
  exact ⟨rfl, rfl⟩

/-- '(*sync.Once).Do', done already: the function is not called. -/
theorem do_done (a : Addr) (x : Int) (hx : ¬ x = 0) (fv : Value) (w : World) (h0 : w.cell? a = some (.int .u32 x)) :
    Calls Try.prog 31 #[.pointer (some a), fv] w fun e w' => e = .returned (.tuple #[]) ∧ w' = w := by
  have hl := run_call_load (P := Try.prog) Try.func49 (by kernel_rfl) (by kernel_rfl) (by kernel_rfl) .u32 (by kernel_rfl) h0
  have hnot : ∀ (x : Bool) (w : World), (Op.unary .not (.bool x)).run Try.prog w = .ok (.bool (!x)) w := fun _ _ => rfl
  have hd' : (x != 0) = true := by simp [hx]
  go_enter Try.func31, Try.ntmps31
  go_wp2
  go_end0
  exact ⟨rfl, rfl⟩

theorem once_blk {w : World} {b : Nat} {s : Gs} (h : GBlk w b s) (r d : Int) (hs : s.state = 0) : GBlk (onceW w b r d) b { s with done := 1, r := r, d := d } := by
  have H2 := (h.state_ 1).first_ r d
  have H3 : GBlk (((w.setCell ⟨b, 8, none⟩ (.int .i32 1)).setCell ⟨b, 10, none⟩ (.int .i64 r)).setCell ⟨b, 11, none⟩ (.int .i64 d)).drew b { s with state := 1, r := r, d := d } := H2
  have H4 := (H3.done_ 1).state_ 0
  have e : ({ s with done := 1, r := r, d := d } : Gs) = { s with state := 0, r := r, d := d, done := 1 } := by rw [← hs]
  rw [e]
  exact H4
theorem once_kept (w : World) (b mb : Nat) (r d : Int) : Kept2 b mb w (onceW w b r d) := by
  have k0 := kept2_set (tb := b) (mb := mb) w 8 (.int .i32 1)
  have k1 := kept2_set (tb := b) (mb := mb) (w.setCell ⟨b, 8, none⟩ (.int .i32 1)) 10 (.int .i64 r)
  have k2 := kept2_set (tb := b) (mb := mb) ((w.setCell ⟨b, 8, none⟩ (.int .i32 1)).setCell ⟨b, 10, none⟩ (.int .i64 r)) 11 (.int .i64 d)
  have k012 := (k0.trans k1).trans k2
  have k3 : Kept2 b mb (((w.setCell ⟨b, 8, none⟩ (.int .i32 1)).setCell ⟨b, 10, none⟩ (.int .i64 r)).setCell ⟨b, 11, none⟩ (.int .i64 d)) (((w.setCell ⟨b, 8, none⟩ (.int .i32 1)).setCell ⟨b, 10, none⟩ (.int .i64 r)).setCell ⟨b, 11, none⟩ (.int .i64 d)).drew := kept2_below ((Below.refl _ _).drew)
  have k4 := k012.trans k3
  have k5 := kept2_set (tb := b) (mb := mb) (((w.setCell ⟨b, 8, none⟩ (.int .i32 1)).setCell ⟨b, 10, none⟩ (.int .i64 r)).setCell ⟨b, 11, none⟩ (.int .i64 d)).drew 7 (.int .u32 1)
  have k6 := kept2_set (tb := b) (mb := mb) ((((w.setCell ⟨b, 8, none⟩ (.int .i32 1)).setCell ⟨b, 10, none⟩ (.int .i64 r)).setCell ⟨b, 11, none⟩ (.int .i64 d)).drew.setCell ⟨b, 7, none⟩ (.int .u32 1)) 8 (.int .i32 0)
  exact (k4.trans k5).trans k6
end Go.Proofs.Ytanciemiinbgmaa
