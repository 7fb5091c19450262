/-
  Layer 9: a guard's block of memory; the small functions: within, rightVlan, rightTime, goOn, agrees, blocks, Heard, First; the atomics.
-/
import Derived.Test.YtanciemiinbgmaaMiC
import Derived.OwnWalk
namespace Go.Proofs.Ytanciemiinbgmaa
set_option linter.unusedVariables false
set_option linter.unusedSimpArgs false
open Go.RowKit Go.Maps Pm Mm

/-- A guard's cells: its port's set-up, the Hello time, its time, the map, how often, the Once's two, what was first. -/
structure Gs where
  t : Bool
  n : Int
  a : Option Addr
  len : Nat
  cap : Nat
  hello : Int
  now : Int
  mb : Nat
  heard : Int
  done : Int
  state : Int
  r : Int
  d : Int
def GBlk (w : World) (b : Nat) (s : Gs) : Prop :=
  w.heap[b]? = some (.cells #[.bool s.t, .int .i64 s.n, .slice s.a s.len s.cap, .int .i64 s.hello, .int .i64 s.now, .map (some s.mb), .int .i64 s.heard, .int .u32 s.done, .int .i32 s.state, .int .u32 0, .int .i64 s.r, .int .i64 s.d] 75 (0, 0))
theorem GBlk.lt {w : World} {b : Nat} {s : Gs} (h : GBlk w b s) : b < w.heap.size := (Array.getElem?_eq_some_iff.1 h).1
theorem GBlk.same {w w' : World} {b : Nat} {s : Gs} (h : GBlk w b s) (hb : w'.heap[b]? = w.heap[b]?) : GBlk w' b s := hb.trans h
theorem GBlk.next {w w' : World} {b : Nat} {s : Gs} (h : GBlk w b s) (hb : Below w.heap.size w w') : GBlk w' b s := h.same (hb.block b h.lt)
theorem GBlk.cells {w : World} {b : Nat} {s : Gs} (h : GBlk w b s) :
    w.cell? ⟨b, 0, none⟩ = some (.bool s.t) ∧ w.cell? ⟨b, 1, none⟩ = some (.int .i64 s.n) ∧ w.cell? ⟨b, 2, none⟩ = some (.slice s.a s.len s.cap) ∧ w.cell? ⟨b, 3, none⟩ = some (.int .i64 s.hello) ∧
      w.cell? ⟨b, 4, none⟩ = some (.int .i64 s.now) ∧ w.cell? ⟨b, 5, none⟩ = some (.map (some s.mb)) ∧ w.cell? ⟨b, 6, none⟩ = some (.int .i64 s.heard) ∧ w.cell? ⟨b, 7, none⟩ = some (.int .u32 s.done) ∧
      w.cell? ⟨b, 8, none⟩ = some (.int .i32 s.state) ∧ w.cell? ⟨b, 10, none⟩ = some (.int .i64 s.r) ∧ w.cell? ⟨b, 11, none⟩ = some (.int .i64 s.d) := by
  unfold GBlk at h
  refine ⟨?_, ?_, ?_, ?_, ?_, ?_, ?_, ?_, ?_, ?_, ?_⟩ <;> simp [World.cell?, h]
theorem GBlk.free {w : World} {b : Nat} {s : Gs} (h : GBlk w b s) (j : Nat) : w.frozen? ⟨b, j, none⟩ = false := by
  unfold GBlk at h
  simp [World.frozen?, h]
theorem GBlk.now_ {w : World} {b : Nat} {s : Gs} (h : GBlk w b s) (x : Int) : GBlk (w.setCell ⟨b, 4, none⟩ (.int .i64 x)) b { s with now := x } := by unfold GBlk at h ⊢; exact blk_set h rfl
theorem GBlk.heard_ {w : World} {b : Nat} {s : Gs} (h : GBlk w b s) (x : Int) : GBlk (w.setCell ⟨b, 6, none⟩ (.int .i64 x)) b { s with heard := x } := by unfold GBlk at h ⊢; exact blk_set h rfl
theorem GBlk.done_ {w : World} {b : Nat} {s : Gs} (h : GBlk w b s) (x : Int) : GBlk (w.setCell ⟨b, 7, none⟩ (.int .u32 x)) b { s with done := x } := by unfold GBlk at h ⊢; exact blk_set h rfl
theorem GBlk.state_ {w : World} {b : Nat} {s : Gs} (h : GBlk w b s) (x : Int) : GBlk (w.setCell ⟨b, 8, none⟩ (.int .i32 x)) b { s with state := x } := by unfold GBlk at h ⊢; exact blk_set h rfl
theorem GBlk.first_ {w : World} {b : Nat} {s : Gs} (h : GBlk w b s) (x y : Int) : GBlk ((w.setCell ⟨b, 10, none⟩ (.int .i64 x)).setCell ⟨b, 11, none⟩ (.int .i64 y)) b { s with r := x, d := y } := by
  unfold GBlk at h ⊢
  have h0 := blk_set (i := 10) (x := .int .i64 x) (cs' := #[.bool s.t, .int .i64 s.n, .slice s.a s.len s.cap, .int .i64 s.hello, .int .i64 s.now, .map (some s.mb), .int .i64 s.heard, .int .u32 s.done, .int .i32 s.state, .int .u32 0, .int .i64 x, .int .i64 s.d]) h rfl
  exact blk_set h0 rfl

/-- Nothing that was there has turned, but a guard's two blocks. -/
structure Kept2 (tb mb : Nat) (w w' : World) : Prop where
  os : w'.os = w.os
  tape : w'.tape = w.tape
  output : w'.output = w.output
  size : w.heap.size ≤ w'.heap.size
  block : ∀ i, i < w.heap.size → i ≠ tb → i ≠ mb → w'.heap[i]? = w.heap[i]?
theorem Kept2.refl (tb mb : Nat) (w : World) : Kept2 tb mb w w := ⟨rfl, rfl, rfl, Nat.le_refl _, fun _ _ _ _ => rfl⟩
theorem Kept2.trans {tb mb : Nat} {a b c : World} (h : Kept2 tb mb a b) (k : Kept2 tb mb b c) : Kept2 tb mb a c :=
  ⟨k.os.trans h.os, k.tape.trans h.tape, k.output.trans h.output, Nat.le_trans h.size k.size, fun i hi h1 h2 => (k.block i (Nat.lt_of_lt_of_le hi h.size) h1 h2).trans (h.block i hi h1 h2)⟩
theorem kept2_below {tb mb : Nat} {w w' : World} (h : Below w.heap.size w w') : Kept2 tb mb w w' := ⟨h.os, h.tape, h.output, h.size, fun i hi _ _ => h.block i hi⟩
theorem kept2_set {tb mb : Nat} (w : World) (j : Nat) (v : Value) : Kept2 tb mb w (w.setCell ⟨tb, j, none⟩ v) :=
  ⟨rfl, rfl, rfl, by show w.heap.size ≤ (w.heap.modify _ _).size; simp, fun i _ h1 _ => Below.heap_setCell w ⟨tb, j, none⟩ v i h1⟩
theorem kept2_turned {tb mb : Nat} {w w' : World} (h : w.mapTurned w' mb) : Kept2 tb mb w w' := by
  have g := h.grown
  exact ⟨g.os, g.tape, g.output, g.size, fun i hi _ h2 => g.block i hi (fun e => h2 (by cases e; rfl))⟩
theorem Kept2.below {tb mb B : Nat} {a w w' : World} (h : Kept2 tb mb w w') (hb : Below B a w) (h1 : B ≤ tb) (h2 : B ≤ mb) (h3 : B ≤ w.heap.size) : Below B a w' :=
  ⟨h.os.trans hb.os, h.tape.trans hb.tape, h.output.trans hb.output, Nat.le_trans hb.size h.size, fun i hi => (h.block i (by omega) (by omega) (by omega)).trans (hb.block i hi)⟩
theorem mapTurned_other {w w' : World} {mb i : Nat} (h : w.mapTurned w' mb) (hi : i < w.heap.size) (hne : i ≠ mb) : w'.heap[i]? = w.heap[i]? :=
  h.grown.block i hi (fun e => hne (by cases e; rfl))

/-! ### The ranges -/
set_option maxHeartbeats 400000 in
theorem within_any (n a b : Int) (w : World) :
    Calls Try.prog 20 #[.int .i64 n, .int .i64 a, .int .i64 b] w fun e w' => e = .returned (.bool (decide (a ≤ n ∧ n ≤ b))) ∧ w = w' := by
  go_enter Try.func20, Try.ntmps20
  go_wp2
  all_goals go_ret
  all_goals refine ⟨ret_bool ?_, rfl⟩
  all_goals (rw [Bool.eq_iff_iff]; simp; omega)
set_option maxHeartbeats 400000 in
theorem mvlan_any (n : Int) (w : World) :
    Calls Try.prog 26 #[.int .i64 n] w fun e w' => e = .returned (.bool (vlanB n)) ∧ w = w' := by
  go_enter Try.func26, Try.ntmps26
  go_wp2_with (go_at_call 20; refine (within_any _ _ _ _).mono ?_; rintro e w' ⟨rfl, rfl⟩)
  go_ret
  refine ⟨ret_bool ?_, rfl⟩
  unfold vlanB; rw [Bool.eq_iff_iff]; simp
set_option maxHeartbeats 400000 in
theorem mtime_any (n : Int) (w : World) :
    Calls Try.prog 27 #[.int .i64 n] w fun e w' => e = .returned (.bool (timeB n)) ∧ w = w' := by
  go_enter Try.func27, Try.ntmps27
  go_wp2_with (go_at_call 20; refine (within_any _ _ _ _).mono ?_; rintro e w' ⟨rfl, rfl⟩)
  go_ret
  refine ⟨ret_bool ?_, rfl⟩
  unfold timeB; rw [Bool.eq_iff_iff]; simp

/-! ### The atomics -/
set_option maxHeartbeats 400000 in
theorem add_any (b o : Nat) (x : Int) (w : World) (h0 : 0 ≤ x) (h1 : x ≤ 1000000000) (hc : w.cell? ⟨b, o, none⟩ = some (.int .i64 x)) (hz : w.frozen? ⟨b, o, none⟩ = false) :
    Calls Try.prog 30 #[.pointer (some ⟨b, o, none⟩), .int .i64 1] w fun e w' => e = .returned (.int .i64 (x + 1)) ∧ w.setCell ⟨b, o, none⟩ (.int .i64 (x + 1)) = w' := by
  have hadd := run_call_add (P := Try.prog) Try.func41 (by kernel_rfl) (by kernel_rfl) (by kernel_rfl) .i64 (by kernel_rfl) (y := 1) (s := x + 1) hc hz (by simp [go_sem, IntKind.wrap_i64]; omega)
  go_enter Try.func30, Try.ntmps30
  go_wp2
  go_ret
  exact ⟨rfl, rfl⟩
set_option maxHeartbeats 400000 in
theorem load_any (b o : Nat) (x : Int) (w : World) (hc : w.cell? ⟨b, o, none⟩ = some (.int .i64 x)) :
    Calls Try.prog 37 #[.pointer (some ⟨b, o, none⟩)] w fun e w' => e = .returned (.int .i64 x) ∧ w = w' := by
  have hl := run_call_load (P := Try.prog) Try.func47 (by kernel_rfl) (by kernel_rfl) (by kernel_rfl) .i64 (by kernel_rfl) hc
  go_enter Try.func37, Try.ntmps37
  go_wp2
  go_ret
  exact ⟨rfl, rfl⟩

/-! ### The small ones -/
set_option maxHeartbeats 400000 in
theorem heard_any (b : Nat) (s : Gs) (w : World) (h : GBlk w b s) :
    Calls Try.prog 17 #[.pointer (some ⟨b, 0, none⟩)] w fun e w' => e = .returned (.int .i64 s.heard) ∧ w = w' := by
  obtain ⟨c0, c1, c2, c3, c4, c5, c6, c7, c8, c10, c11⟩ := h.cells
  have hl := load_any b 6 s.heard w c6
  clear h
  go_enter Try.func17, Try.ntmps17
  go_wp2_with (go_at_call 37; refine hl.mono ?_; rintro e w' ⟨rfl, rfl⟩)
  go_ret
  exact ⟨rfl, rfl⟩
set_option maxHeartbeats 400000 in
theorem goOn_any (b : Nat) (s : Gs) (t : Int) (w : World) (h : GBlk w b s) :
    Calls Try.prog 28 #[.pointer (some ⟨b, 0, none⟩), .int .i64 t] w fun e w' => e = .returned (.tuple #[]) ∧ w.setCell ⟨b, 4, none⟩ (.int .i64 (if s.now < t then t else s.now)) = w' := by
  obtain ⟨c0, c1, c2, c3, c4, c5, c6, c7, c8, c10, c11⟩ := h.cells
  have f4 := h.free 4
  clear h
  go_enter Try.func28, Try.ntmps28
  go_wp2
  all_goals go_end0
  all_goals exact ⟨rfl, rfl⟩
set_option maxHeartbeats 400000 in
theorem agrees_any (b : Nat) (s : Gs) (r d : Int) (w : World) (h : GBlk w b s) :
    Calls Try.prog 29 #[.pointer (some ⟨b, 0, none⟩), .int .i64 r, .int .i64 d] w fun e w' => e = .returned (.bool (decide (s.t = true ∧ r = d))) ∧ w = w' := by
  obtain ⟨c0, c1, c2, c3, c4, c5, c6, c7, c8, c10, c11⟩ := h.cells
  obtain ⟨T, hT⟩ : ∃ T, s.t = T := ⟨_, rfl⟩
  rw [hT] at c0 ⊢
  clear h hT
  cases T <;> go_enter Try.func29, Try.ntmps29
  all_goals go_wp2
  all_goals go_ret
  all_goals refine ⟨ret_bool ?_, rfl⟩
  all_goals (rw [Bool.eq_iff_iff]; simp)
set_option maxHeartbeats 400000 in
theorem blocks_any (b n : Nat) (s : Gs) (f : Int → Int) (v : Int) (w : World) (h : GBlk w b s) (hm : IsMm w s.mb f n) (hv : inI64 v) :
    Calls Try.prog 34 #[.pointer (some ⟨b, 0, none⟩), .int .i64 v] w fun e w' => e = .returned (.bool (decide (s.now < f v))) ∧ Below w.heap.size w w' := by
  obtain ⟨c0, c1, c2, c3, c4, c5, c6, c7, c8, c10, c11⟩ := h.cells
  have hr : ∀ nq, (Instr.lookup 56 (.map (some s.mb)) (.int .i64 v) false).run Try.prog (w.drewN nq) = .ok (.int .i64 (f v)) (w.drewN nq) := fun nq => (hm.same (w' := w.drewN nq) rfl).look hv
  have hr0 := hm.look hv
  clear h hm
  go_enter Try.func34, Try.ntmps34
  go_wp2
  go_quiet (fail)
  go_wp2
  go_ret
  exact ⟨rfl, below_drewN (Below.refl _ _) _⟩
set_option maxHeartbeats 400000 in
theorem first_any (b : Nat) (s : Gs) (w : World) (h : GBlk w b s) :
    Calls Try.prog 16 #[.pointer (some ⟨b, 0, none⟩)] w fun e w' => e = .returned (.tuple #[.int .i64 s.r, .int .i64 s.d, .bool (decide (0 < s.heard))]) ∧ Below w.heap.size w w' := by
  have C0 := Lib.hid (heard_any b s w.drew h)
  obtain ⟨c0, c1, c2, c3, c4, c5, c6, c7, c8, c10, c11⟩ := h.cells
  have S0 : w.cell? ⟨b, 10, none⟩ = some (.int .i64 s.r) ∧ w.cell? ⟨b, 11, none⟩ = some (.int .i64 s.d) := ⟨c10, c11⟩
  have S1 : w.drew.cell? ⟨b, 10, none⟩ = some (.int .i64 s.r) ∧ w.drew.cell? ⟨b, 11, none⟩ = some (.int .i64 s.d) := ⟨c10, c11⟩
  clear h c0 c1 c2 c3 c4 c5 c6 c7 c8 c10 c11
  go_enter Try.func16, Try.ntmps16
  go_wp2_with fail
  go_region_held3 (fun w' => w'.cell? ⟨b, 10, none⟩ = some (.int .i64 s.r) ∧ w'.cell? ⟨b, 11, none⟩ = some (.int .i64 s.d)) (first | exact S0 | exact S1) (first | (go_at_call 17; (with_reducible refine (C0.out).mono ?_); rintro e w' ⟨rfl, rfl⟩))
  all_goals go_wp2_with fail
  all_goals go_ret3
  all_goals exact ⟨rfl, (Below.refl _ _).drew⟩
end Go.Proofs.Ytanciemiinbgmaa
