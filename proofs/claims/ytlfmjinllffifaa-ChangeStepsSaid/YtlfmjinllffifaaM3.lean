/-
  Layer 11: what is done to a port through its address (deeds), and behind, which does some in order.
  Layer 11: behind, which does some deeds to a port, in order.
  Layer 11: Power, Age, Settle.
  Layer 11: what is asked of a BPDU and of times (no port in it): Supersedes, ticks, TimesOf, Role, has, holds.
  Layer 10, as layer 11 asks it: what was heard, of a port and a BPDU that is right and no notice.
  Layer 11: deeds that go by a BPDU: heedTc, record, dispute, agree, giveWay; what meet and answer hand back; settle.
  Layer 11: giveWay, settle; what meet, answer and choose hand back.
  Layer 11: the deed settle.
  Layer 11: Settle; meet and answer; Hear.
  Layer 11: Hear.
  Layer 11: a row of ports, in memory; Clone; whether one of them is to be chosen anew.
  Layer 11: whether a port is to be chosen anew; a bridge's times; given times; New.
  Layer 11: New; given times; what layer 8 is told of the ports.
-/
import Derived.Test.YtlfmjinllffifaaM2
import Derived.Maps.AppendAt
import Derived.Deep.AppendLies
import Derived.Deep.MidRow
import Derived.Lib.SliceRun
namespace Go.Proofs.Ytlfmjinllffifaa
set_option linter.unusedVariables false
set_option linter.unusedSimpArgs false
open Go.RowKit Vm Rm Bm Im

def zeroP : Pt := ⟨0, 0, false, false, false, 0, zeroV, zeroT, zeroV, zeroT, 0, 0, false, false, false, false, false, false, false, false, false, false, false, false, false, false, false, false, false, false, false, false, false, false, false, false, false, false, 0, 0, 0, 0, 0, 0, 0, 0, 0, 0, 0⟩
theorem infoRP : (Try.prog.info? 54).map (·.size) = some 61 := by kernel_rfl
theorem infoSP : (Try.prog.info? 47).map (·.size) = some 61 := by kernel_rfl
theorem wp_to {P : Program} {c : Code} {Q : Exit → Act → World → Prop} {a : Act} {w W : World} (h : W = w) (H : c.wp P Q a W) : c.wp P Q a w := h ▸ H
theorem PtBlk.far {T : TypeId} {w : World} {b c : Nat} {p : Pt} (h : PtBlk T w b p) (j : Nat) (v : Value) (hne : b ≠ c) : PtBlk T (w.setCell ⟨c, j, none⟩ v) b p := (Below.heap_setCell w ⟨c, j, none⟩ v b hne).trans h
theorem below_row {B : Nat} {a w : World} (h : Below B a w) {g : Nat} (hg : B ≤ g) (cs : Array Value) : Below B a (w.setRow g cs) :=
  ⟨h.os, h.tape, h.output, by show _ ≤ (w.heap.modify _ _).size; rw [Array.size_modify]; exact h.size, fun i hi => (show (w.heap.modify g _)[i]? = w.heap[i]? from by rw [Array.getElem?_modify, if_neg (by omega)]).trans (h.block i hi)⟩

theorem PtBlk.stores {T : TypeId} {w : World} {b : Nat} {p : Pt} (h : PtBlk T w b p) (q : Pt) : Sem.run Try.prog (storeCells ⟨b, 0, none⟩ (cellsT q).toList) w = .ok () (w.setRow b (cellsT q)) := by
  have := run_storeCells_from (P := Try.prog) b T (cellsT q).toList 0 (cellsT p) w h (by rw [Array.length_toList, cellsT_size, cellsT_size]) (fun v hv => by
    have h1 := cellsT_one q
    rw [Array.all_eq_true_iff_forall_mem] at h1
    exact h1 v (by simpa using hv))
  simpa using this
theorem PtBlk.loads {T : TypeId} {w : World} {b : Nat} {p : Pt} (h : PtBlk T w b p) : Sem.run Try.prog (loadCells ⟨b, 0, none⟩ 61) w = .ok (cellsT p) w := by
  have hl := run_loadCells_list (P := Try.prog) w ⟨b, 0, none⟩ (cellsT p).toList (fun j v hv => by
      have hadd : (⟨b, 0, none⟩ : Addr).add j = ⟨b, j, none⟩ := by unfold Addr.add; split <;> simp_all
      rw [hadd, cell_of_row w b j (cellsT p) T _ h]
      simpa using hv)
  simpa [cellsT_size] using hl

theorem PtBlk.s_vec {T : TypeId} {w : World} {b : Nat} {p : Pt} (h : PtBlk T w b p) (x0 x1 x2 x3 : Int) : PtBlk T ((((w.setCell ⟨b, 6, none⟩ (.int .u64 x0)).setCell ⟨b, 7, none⟩ (.int .u64 x1)).setCell ⟨b, 8, none⟩ (.int .u64 x2)).setCell ⟨b, 9, none⟩ (.int .u64 x3)) b { p with vec := ⟨x0, x1, x2, x3⟩ } := by
  unfold PtBlk at h ⊢
  exact blk_set (blk_set (blk_set (blk_set h rfl) rfl) rfl) rfl
theorem PtBlk.s_times {T : TypeId} {w : World} {b : Nat} {p : Pt} (h : PtBlk T w b p) (x0 x1 x2 x3 : Int) : PtBlk T ((((w.setCell ⟨b, 10, none⟩ (.int .i64 x0)).setCell ⟨b, 11, none⟩ (.int .i64 x1)).setCell ⟨b, 12, none⟩ (.int .i64 x2)).setCell ⟨b, 13, none⟩ (.int .i64 x3)) b { p with times := ⟨x0, x1, x2, x3⟩ } := by
  unfold PtBlk at h ⊢
  exact blk_set (blk_set (blk_set (blk_set h rfl) rfl) rfl) rfl
theorem PtBlk.s_offer {T : TypeId} {w : World} {b : Nat} {p : Pt} (h : PtBlk T w b p) (x0 x1 x2 x3 : Int) : PtBlk T ((((w.setCell ⟨b, 14, none⟩ (.int .u64 x0)).setCell ⟨b, 15, none⟩ (.int .u64 x1)).setCell ⟨b, 16, none⟩ (.int .u64 x2)).setCell ⟨b, 17, none⟩ (.int .u64 x3)) b { p with offer := ⟨x0, x1, x2, x3⟩ } := by
  unfold PtBlk at h ⊢
  exact blk_set (blk_set (blk_set (blk_set h rfl) rfl) rfl) rfl
theorem PtBlk.s_given {T : TypeId} {w : World} {b : Nat} {p : Pt} (h : PtBlk T w b p) (x0 x1 x2 x3 : Int) : PtBlk T ((((w.setCell ⟨b, 18, none⟩ (.int .i64 x0)).setCell ⟨b, 19, none⟩ (.int .i64 x1)).setCell ⟨b, 20, none⟩ (.int .i64 x2)).setCell ⟨b, 21, none⟩ (.int .i64 x3)) b { p with given := ⟨x0, x1, x2, x3⟩ } := by
  unfold PtBlk at h ⊢
  exact blk_set (blk_set (blk_set (blk_set h rfl) rfl) rfl) rfl

/-- Block b alone has turned; it holds X. -/
structure Tn (T : TypeId) (b : Nat) (X : Pt) (w w' : World) : Prop where
  blk : PtBlk T w' b X
  os : w'.os = w.os
  tape : w'.tape = w.tape
  output : w'.output = w.output
  size : w.heap.size ≤ w'.heap.size
  block : ∀ i, i < w.heap.size → i ≠ b → w'.heap[i]? = w.heap[i]?
section
variable {T : TypeId} {b : Nat} {X Y : Pt} {w w1 w2 : World}
theorem Tn.refl (h : PtBlk T w b X) : Tn T b X w w := ⟨h, rfl, rfl, rfl, Nat.le_refl _, fun _ _ _ => rfl⟩
theorem Tn.trans (h : Tn T b X w w1) (k : Tn T b Y w1 w2) : Tn T b Y w w2 :=
  ⟨k.blk, k.os.trans h.os, k.tape.trans h.tape, k.output.trans h.output, Nat.le_trans h.size k.size, fun i hi hn => (k.block i (Nat.lt_of_lt_of_le hi h.size) hn).trans (h.block i hi hn)⟩
theorem Tn.below {B : Nat} {a : World} (h : Tn T b X w w1) (hb : Below B a w) (h1 : B ≤ b) (h2 : B ≤ w.heap.size) : Below B a w1 :=
  ⟨h.os.trans hb.os, h.tape.trans hb.tape, h.output.trans hb.output, Nat.le_trans hb.size h.size, fun i hi => (h.block i (by omega) (by omega)).trans (hb.block i hi)⟩
theorem Tn.set (h : Tn T b X w w1) (j : Nat) (v : Value) (hY : PtBlk T (w1.setCell ⟨b, j, none⟩ v) b Y) : Tn T b Y w (w1.setCell ⟨b, j, none⟩ v) :=
  ⟨hY, h.os, h.tape, h.output, by show _ ≤ (w1.heap.modify _ _).size; rw [Array.size_modify]; exact h.size, fun i hi hn => (Below.heap_setCell w1 ⟨b, j, none⟩ v i hn).trans (h.block i hi hn)⟩
theorem Tn.grow (h : Tn T b X w w1) (hb : Below w1.heap.size w1 w2) : Tn T b X w w2 :=
  ⟨h.blk.next hb, hb.os.trans h.os, hb.tape.trans h.tape, hb.output.trans h.output, Nat.le_trans h.size hb.size, fun i hi hn => (hb.block i (Nat.lt_of_lt_of_le hi h.size)).trans (h.block i hi hn)⟩
theorem Tn.as (h : Tn T b X w w1) (e : X = Y) : Tn T b Y w w1 := e ▸ h
theorem Tn.at (h : Tn T b X w w1) {i : Nat} (hi : i < w.heap.size) (hn : i ≠ b) : w1.heap[i]? = w.heap[i]? := h.block i hi hn
theorem Tn.cell {p : Addr} (h : Tn T b X w w1) (hi : p.block < w.heap.size) (hn : p.block ≠ b) : w1.cell? p = w.cell? p := by
  unfold World.cell?
  rw [h.block p.block hi hn]
end
/-- What may be in the way of a store, and what it does. -/
theorem tn_drawN {T : TypeId} {b : Nat} {X : Pt} {w w1 : World} (h : Tn T b X w w1) (n : Nat) : Tn T b X w (w1.drewN n) := ⟨h.blk, h.os, h.tape, h.output, h.size, h.block⟩
theorem tn_draw {T : TypeId} {b : Nat} {X : Pt} {w w1 : World} (h : Tn T b X w w1) : Tn T b X w w1.drew := ⟨h.blk, h.os, h.tape, h.output, h.size, h.block⟩


end Go.Proofs.Ytlfmjinllffifaa

namespace Go.Proofs.Ytlfmjinllffifaa
set_option linter.unusedVariables false
set_option linter.unusedSimpArgs false
open Go.RowKit Vm Rm Bm Im

/-- A row of deeds: function f k, with what it captured. -/
def DRow (w : World) (g n : Nat) (f : Nat → Nat) (c : Nat → Array Value) : Prop :=
  g < w.heap.size ∧ ∀ k, k < n → w.cell? ⟨g, k, none⟩ = some (.func (.func (f k)) #[] (c k))
theorem DRow.next {w w' : World} {g n : Nat} {f : Nat → Nat} {c : Nat → Array Value} (h : DRow w g n f c) (hb : Below w.heap.size w w') : DRow w' g n f c :=
  ⟨Nat.lt_of_lt_of_le h.1 hb.size, fun k hk => (hb.cell (p := ⟨g, k, none⟩) h.1).trans (h.2 k hk)⟩
/-- Behind a world w, this deed turns a port X into Y. -/
def Does (w0 : World) (f : Nat) (c : Array Value) (X Y : Pt) : Prop :=
  (∀ (a : Array Value) (w : World), Sem.run Try.prog (callFunc f a) w = .ok (.enter f a) w) ∧ ∀ (w : World) (b : Nat), PtBlk 47 w b X → Below w0.heap.size w0 w → w0.heap.size ≤ b →
    Calls Try.prog f (#[.pointer (some ⟨b, 0, none⟩)] ++ c) w fun e w' => e = .returned (.tuple #[]) ∧ Tn 47 b Y w w'
theorem twoP_is (T : TypeId) (w : World) (p : Pt) : ∃ (W : World) (nb : Nat), Hid (((w.alloc (.cells (cellsT p) T)).alloc (.cells (cellsT zeroP) T)) = W) ∧ Hid (w.heap.size = nb) ∧ PtBlk T W nb p ∧ PtBlk T W (nb + 1) zeroP ∧ Below nb w W := by
  refine ⟨_, _, Lib.hid rfl, Lib.hid rfl, ?_, ?_, ?_⟩
  · exact heap_alloc2_old w _ _
  · exact heap_alloc2_new w _ _
  · exact bw_alloc (below_box w _) _
def BInv (st : Nat → Pt) (n nb : Nat) (w0 : World) (i : Value) (wr : World) : Prop :=
  ∃ k : Nat, k ≤ n ∧ i = .int .i64 (k : Nat) ∧ PtBlk 47 wr nb (st k) ∧ PtBlk 47 wr (nb + 1) zeroP ∧ Below nb w0 wr ∧ nb + 2 ≤ wr.heap.size

end Go.Proofs.Ytlfmjinllffifaa

namespace Go.Proofs.Ytlfmjinllffifaa
set_option linter.unusedVariables false
set_option linter.unusedSimpArgs false
open Go.RowKit Vm Rm Bm Im

theorem does_as {w : World} {f : Nat} {c : Array Value} {X Y Z : Pt} (h : Does w f c X Y) (e : Y = Z) : Does w f c X Z := e ▸ h
end Go.Proofs.Ytlfmjinllffifaa

namespace Go.Proofs.Ytlfmjinllffifaa
set_option linter.unusedVariables false
set_option linter.unusedSimpArgs false
open Go.RowKit Vm Rm Bm Im

/-- The cells of two vectors. -/
abbrev Two (w : World) (b1 b2 : Nat) (r c b p r' c' b' p' : Int) : Prop :=
  (w.cell? ⟨b1, 0, none⟩ = some (.int .u64 r) ∧ w.cell? ⟨b1, 1, none⟩ = some (.int .u64 c) ∧ w.cell? ⟨b1, 2, none⟩ = some (.int .u64 b) ∧ w.cell? ⟨b1, 3, none⟩ = some (.int .u64 p)) ∧ (w.cell? ⟨b2, 0, none⟩ = some (.int .u64 r') ∧ w.cell? ⟨b2, 1, none⟩ = some (.int .u64 c') ∧ w.cell? ⟨b2, 2, none⟩ = some (.int .u64 b') ∧ w.cell? ⟨b2, 3, none⟩ = some (.int .u64 p'))

abbrev tv (a m h d : Int) : Value := .agg #[.int .i64 a, .int .i64 m, .int .i64 h, .int .i64 d]
theorem run_tmEq (a m h d a' m' h' d' : Int) (w : World) :
    Sem.run Try.prog (binOp .eql 24 (tv a m h d) (tv a' m' h' d')) w = .ok (.bool (decide ((⟨a, m, h, d⟩ : Tm) = ⟨a', m', h', d'⟩))) w := by
  unfold tv
  go_simp
  repeat' split
  all_goals simp_all
theorem run_tmNe (a m h d a' m' h' d' : Int) (w : World) :
    Sem.run Try.prog (binOp .neq 24 (tv a m h d) (tv a' m' h' d')) w = .ok (.bool (!decide ((⟨a, m, h, d⟩ : Tm) = ⟨a', m', h', d'⟩))) w := by
  unfold tv
  go_simp
  repeat' split
  all_goals simp_all
theorem run_vcNe (r c b p r' c' b' p' : Int) (w : World) :
    Sem.run Try.prog (binOp .neq 45 (vv r c b p) (vv r' c' b' p')) w = .ok (.bool (!decide ((⟨r, c, b, p⟩ : Vc) = ⟨r', c', b', p'⟩))) w := by
  unfold vv
  go_simp
  repeat' split
  all_goals simp_all
/-- A block of times. -/
def TBk (T : TypeId) (w : World) (b : Nat) (a m h d : Int) : Prop := w.heap[b]? = some (.cells #[.int .i64 a, .int .i64 m, .int .i64 h, .int .i64 d] T (0, 0))
section
variable {T : TypeId} {w w' : World} {b : Nat} {a m h d : Int}
theorem TBk.lt (H : TBk T w b a m h d) : b < w.heap.size := (Array.getElem?_eq_some_iff.1 H).1
theorem TBk.next (H : TBk T w b a m h d) (hb : Below w.heap.size w w') : TBk T w' b a m h d := (hb.block b H.lt).trans H
theorem TBk.cells (H : TBk T w b a m h d) : w.cell? ⟨b, 0, none⟩ = some (.int .i64 a) ∧ w.cell? ⟨b, 1, none⟩ = some (.int .i64 m) ∧ w.cell? ⟨b, 2, none⟩ = some (.int .i64 h) ∧ w.cell? ⟨b, 3, none⟩ = some (.int .i64 d) := by
  unfold TBk at H
  refine ⟨?_, ?_, ?_, ?_⟩ <;> simp [World.cell?, H]
theorem TBk.free (H : TBk T w b a m h d) (j : Nat) : w.frozen? ⟨b, j, none⟩ = false := by
  unfold TBk at H
  simp [World.frozen?, H]
theorem tbk_new (T : TypeId) (w : World) (a m h d : Int) : TBk T (w.alloc (.cells #[.int .i64 a, .int .i64 m, .int .i64 h, .int .i64 d] T)) w.heap.size a m h d := heap_alloc_new w _
theorem TBk.set4 (H : TBk T w b a m h d) (a' m' h' d' : Int) : TBk T ((((w.setCell ⟨b, 0, none⟩ (.int .i64 a')).setCell ⟨b, 1, none⟩ (.int .i64 m')).setCell ⟨b, 2, none⟩ (.int .i64 h')).setCell ⟨b, 3, none⟩ (.int .i64 d')) b a' m' h' d' := by
  unfold TBk at H ⊢
  exact blk_set (blk_set (blk_set (blk_set H rfl) rfl) rfl) rfl
theorem TBk.far (H : TBk T w b a m h d) {c : Nat} (j : Nat) (v : Value) (hne : b ≠ c) : TBk T (w.setCell ⟨c, j, none⟩ v) b a m h d := (Below.heap_setCell w ⟨c, j, none⟩ v b hne).trans H
end
theorem ret_val {a b : Value} (h : a = b) : Ending.returned a = .returned b := by rw [h]

end Go.Proofs.Ytlfmjinllffifaa

namespace Go.Proofs.Ytlfmjinllffifaa
set_option linter.unusedVariables false
set_option linter.unusedSimpArgs false
open Go.RowKit Vm Rm Bm Im

/-- A port's numbers are of their kinds. -/
structure PtOk (p : Pt) : Prop where
  id : Vm.u64B p.id
  cost : Vm.u64B p.cost
  source : inI64 p.source
  vec : p.vec.ok
  age : inI64 p.times.age
/-- A BPDU's numbers are of their kinds. -/
structure BpOk (q : Bp) : Prop where
  root : Vm.u64B q.root
  cost : Vm.u64B q.cost
  bridge : Vm.u64B q.bridge
  port : Vm.u64B q.port
def bcells (q : Bp) : Array Value := #[.int .i64 q.kind, .int .i64 q.flags, .int .u64 q.root, .int .u64 q.cost, .int .u64 q.bridge, .int .u64 q.port, .int .i64 q.age, .int .i64 q.max, .int .i64 q.hello, .int .i64 q.delay]
theorem pb_is (T T' : TypeId) (w : World) (p : Pt) (q : Bp) : ∃ (W : World) (nb : Nat), Hid (((w.alloc (.cells (cellsT p) T)).alloc (.cells (bcells q) T')) = W) ∧ Hid (w.heap.size = nb) ∧ PtBlk T W nb p ∧ BBlk T' W (nb + 1) q ∧ Below nb w W := by
  refine ⟨_, _, Lib.hid rfl, Lib.hid rfl, ?_, ?_, ?_⟩
  · exact heap_alloc2_old w _ _
  · exact heap_alloc2_new w _ _
  · exact bw_alloc (below_box w _) _
/-- What a walk reads of a port's vector and times, and of a BPDU's. -/
def RdP (w : World) (b : Nat) (p : Pt) : Prop :=
  w.cell? ⟨b, 6, none⟩ = some (.int .u64 p.vec.root) ∧ w.cell? ⟨b, 7, none⟩ = some (.int .u64 p.vec.cost) ∧ w.cell? ⟨b, 8, none⟩ = some (.int .u64 p.vec.bridge) ∧ w.cell? ⟨b, 9, none⟩ = some (.int .u64 p.vec.port) ∧ w.cell? ⟨b, 10, none⟩ = some (.int .i64 p.times.age) ∧ w.cell? ⟨b, 11, none⟩ = some (.int .i64 p.times.max) ∧ w.cell? ⟨b, 12, none⟩ = some (.int .i64 p.times.hello) ∧ w.cell? ⟨b, 13, none⟩ = some (.int .i64 p.times.delay)
theorem PtBlk.rd {T : TypeId} {w : World} {b : Nat} {p : Pt} (h : PtBlk T w b p) : RdP w b p := ⟨h.c_vec_root, h.c_vec_cost, h.c_vec_bridge, h.c_vec_port, h.c_times_age, h.c_times_max, h.c_times_hello, h.c_times_delay⟩
theorem BBlk.rd {T : TypeId} {w : World} {b : Nat} {q : Bp} (h : BBlk T w b q) : BBoxed w b q.kind q.flags q.root q.cost q.bridge q.port q.age q.max q.hello q.delay := BBlk.cells (by cases q; exact h)
/-- What was heard of a designated port. -/
def desP (p : Pt) (q : Bp) : Int := if p.source = 3 ∧ vecOf q = p.vec ∧ timesOf q = p.times then 2 else if superB (vecOf q) p.vec = true then 1 else 3


end Go.Proofs.Ytlfmjinllffifaa

namespace Go.Proofs.Ytlfmjinllffifaa
set_option linter.unusedVariables false
set_option linter.unusedSimpArgs false
open Go.RowKit Vm Rm Bm Im

/-- A BPDU that is heard: its numbers are within their bounds. -/
structure BpHd (q : Bp) : Prop where
  kind : q.kind = 1 ∨ q.kind = 3
  age : 0 ≤ q.age ∧ q.age ≤ 65535
  max : 0 ≤ q.max ∧ q.max ≤ 65535
  hello : 0 ≤ q.hello ∧ q.hello ≤ 65535
  delay : 0 ≤ q.delay ∧ q.delay ≤ 65535
  flags : 0 ≤ q.flags ∧ q.flags ≤ 255
theorem heard_hd {q : Bp} (h : heardB q = true) : BpHd q := by
  unfold heardB at h
  simp only [Bool.and_eq_true, Bool.not_eq_true', decide_eq_false_iff_not] at h
  obtain ⟨h, h2⟩ := h
  unfold rightB at h
  rw [if_neg h2] at h
  by_cases hk : q.kind = 1 ∨ q.kind = 3
  · rw [if_pos hk] at h
    unfold numsB withinB at h
    simp only [Bool.and_eq_true, decide_eq_true_eq] at h
    exact ⟨hk, h.2.2.2.1, h.2.2.2.2.1, h.2.2.2.2.2.1, h.2.2.2.2.2.2, h.1⟩
  · rw [if_neg hk] at h
    cases h
theorem BBlk.same {T : TypeId} {w w1 : World} {b : Nat} {q : Bp} (h : BBlk T w b q) (hb : w1.heap[b]? = w.heap[b]?) : BBlk T w1 b q := hb.trans h
abbrev bq (q : Bp) : Value := bv q.kind q.flags q.root q.cost q.bridge q.port q.age q.max q.hello q.delay
theorem bqblk_new (T : TypeId) (w : World) (q : Bp) : BBlk T (w.alloc (.cells #[.int .i64 q.kind, .int .i64 q.flags, .int .u64 q.root, .int .u64 q.cost, .int .u64 q.bridge, .int .u64 q.port, .int .i64 q.age, .int .i64 q.max, .int .i64 q.hello, .int .i64 q.delay] T)) w.heap.size q := heap_alloc_new w _
def heedP (p : Pt) (q : Bp) : Pt := { p with heardTc := p.heardTc || bitB q.flags 0 }
def rec1P (p : Pt) (q : Bp) : Pt := { p with proposed := p.proposed || (decide (q.kind = 3) && bitB q.flags 1), heardAck := p.heardAck || (!decide (q.kind = 3) && bitB q.flags 7) }
def infoN (q : Bp) : Int := if (timesOf q).age + 1 > (timesOf q).max then 0 else 3 * (timesOf q).hello
theorem record_is (p : Pt) (q : Bp) : recordP p q = { heedP (rec1P p q) q with info := infoN q } := rfl
def giveP (p : Pt) (q : Bp) : Pt := { p with agreed := false, proposing := false, agree := p.agree && decide (vecOf q = p.vec), synced := p.synced && decide (vecOf q = p.vec), vec := vecOf q, times := timesOf q, source := 3, reselect := true, ready := false }
theorem super_is (p : Pt) (q : Bp) : superP p q = recordP (giveP p q) q := rfl


end Go.Proofs.Ytlfmjinllffifaa

namespace Go.Proofs.Ytlfmjinllffifaa
set_option linter.unusedVariables false
set_option linter.unusedSimpArgs false
open Go.RowKit Vm Rm Bm Im

theorem size_set (w : World) (b j : Nat) (v : Value) : (w.setCell ⟨b, j, none⟩ v).heap.size = w.heap.size := by show (w.heap.modify _ _).size = _; rw [Array.size_modify]
abbrev put4t (w : World) (b : Nat) (x m h d : Int) : World :=
  ((((w.setCell ⟨b, 10, none⟩ (.int .i64 x)).setCell ⟨b, 11, none⟩ (.int .i64 m)).setCell ⟨b, 12, none⟩ (.int .i64 h)).setCell ⟨b, 13, none⟩ (.int .i64 d))
abbrev put4v (w : World) (b : Nat) (r c br q : Int) : World :=
  ((((w.setCell ⟨b, 6, none⟩ (.int .u64 r)).setCell ⟨b, 7, none⟩ (.int .u64 c)).setCell ⟨b, 8, none⟩ (.int .u64 br)).setCell ⟨b, 9, none⟩ (.int .u64 q))
structure Kp (b : Nat) (w w' : World) : Prop where
  os : w'.os = w.os
  tape : w'.tape = w.tape
  output : w'.output = w.output
  size : w.heap.size ≤ w'.heap.size
  block : ∀ i, i < w.heap.size → i ≠ b → w'.heap[i]? = w.heap[i]?
theorem Tn.kp {T : TypeId} {b : Nat} {X : Pt} {w w1 : World} (t : Tn T b X w w1) : Kp b w w1 := ⟨t.os, t.tape, t.output, t.size, t.block⟩
theorem Kp.set {b : Nat} {w w1 : World} (h : Kp b w w1) (j : Nat) (v : Value) : Kp b w (w1.setCell ⟨b, j, none⟩ v) :=
  ⟨h.os, h.tape, h.output, by rw [size_set]; exact h.size, fun i hi hn => (Below.heap_setCell w1 ⟨b, j, none⟩ v i hn).trans (h.block i hi hn)⟩
theorem Kp.tn {T : TypeId} {b : Nat} {X : Pt} {w w1 : World} (h : Kp b w w1) (k : PtBlk T w1 b X) : Tn T b X w w1 := ⟨k, h.os, h.tape, h.output, h.size, h.block⟩
theorem BBlk.drew {T : TypeId} {w : World} {b : Nat} {q : Bp} (h : BBlk T w b q) : BBlk T w.drew b q := h
theorem Tn.put4v {T : TypeId} {b : Nat} {X : Pt} {w w1 : World} (t : Tn T b X w w1) (r c br q : Int) : Tn T b { X with vec := ⟨r, c, br, q⟩ } w (put4v w1 b r c br q) :=
  ((((t.kp.set 6 _).set 7 _).set 8 _).set 9 _).tn (t.blk.s_vec r c br q)
theorem Tn.put4t {T : TypeId} {b : Nat} {X : Pt} {w w1 : World} (t : Tn T b X w w1) (x m h d : Int) : Tn T b { X with times := ⟨x, m, h, d⟩ } w (put4t w1 b x m h d) :=
  ((((t.kp.set 10 _).set 11 _).set 12 _).set 13 _).tn (t.blk.s_times x m h d)


end Go.Proofs.Ytlfmjinllffifaa

namespace Go.Proofs.Ytlfmjinllffifaa
set_option linter.unusedVariables false
set_option linter.unusedSimpArgs false
open Go.RowKit Vm Rm Bm Im

def RdS (w : World) (b : Nat) (p : Pt) : Prop :=
  (w.cell? ⟨b, 6, none⟩ = some (.int .u64 p.vec.root) ∧ w.cell? ⟨b, 7, none⟩ = some (.int .u64 p.vec.cost) ∧ w.cell? ⟨b, 8, none⟩ = some (.int .u64 p.vec.bridge) ∧ w.cell? ⟨b, 9, none⟩ = some (.int .u64 p.vec.port) ∧ w.cell? ⟨b, 10, none⟩ = some (.int .i64 p.times.age) ∧ w.cell? ⟨b, 11, none⟩ = some (.int .i64 p.times.max) ∧ w.cell? ⟨b, 12, none⟩ = some (.int .i64 p.times.hello) ∧ w.cell? ⟨b, 13, none⟩ = some (.int .i64 p.times.delay)) ∧ (w.cell? ⟨b, 14, none⟩ = some (.int .u64 p.offer.root) ∧ w.cell? ⟨b, 15, none⟩ = some (.int .u64 p.offer.cost) ∧ w.cell? ⟨b, 16, none⟩ = some (.int .u64 p.offer.bridge) ∧ w.cell? ⟨b, 17, none⟩ = some (.int .u64 p.offer.port) ∧ w.cell? ⟨b, 18, none⟩ = some (.int .i64 p.given.age) ∧ w.cell? ⟨b, 19, none⟩ = some (.int .i64 p.given.max) ∧ w.cell? ⟨b, 20, none⟩ = some (.int .i64 p.given.hello) ∧ w.cell? ⟨b, 21, none⟩ = some (.int .i64 p.given.delay))
theorem PtBlk.rds {T : TypeId} {w : World} {b : Nat} {p : Pt} (h : PtBlk T w b p) : RdS w b p := ⟨h.rd, h.c_offer_root, h.c_offer_cost, h.c_offer_bridge, h.c_offer_port, h.c_given_age, h.c_given_max, h.c_given_hello, h.c_given_delay⟩



theorem settle_eq (p X1 X2 Y : Pt) (A S : Bool) (e : (p.synced && A) = S) (e1 : ({ p with proposing := false, proposed := false, agreed := A } : Pt) = X1) (e2 : ({ X1 with synced := S } : Pt) = X2) (e3 : ({ X2 with vec := X2.offer, times := X2.given } : Pt) = Y) :
    ({ Y with update := false, source := 2, newInfo := true } : Pt) = { p with proposing := false, proposed := false, agreed := A, synced := p.synced && A, vec := p.offer, times := p.given, update := false, source := 2, newInfo := true } := by
  subst e1 e2 e3 e
  rfl


end Go.Proofs.Ytlfmjinllffifaa

namespace Go.Proofs.Ytlfmjinllffifaa
set_option linter.unusedVariables false
set_option linter.unusedSimpArgs false
open Go.RowKit Vm Rm Bm Im

/-! meet and answer: what they hand back, and what that does. -/
/-- What is done besides, by what was heard. -/
def answerP (k : Int) (p : Pt) (q : Bp) : Pt := if k = 1 then superP p q else if k = 2 then recordP p q else if k = 3 then inferiorP p q else if k = 4 then otherP p q else p


end Go.Proofs.Ytlfmjinllffifaa

namespace Go.Proofs.Ytlfmjinllffifaa
set_option linter.unusedVariables false
set_option linter.unusedSimpArgs false
open Go.RowKit Vm Rm Bm Im

theorem PtBlk.nextB {T : TypeId} {w w' : World} {b : Nat} {p : Pt} (h : PtBlk T w b p) (hb : Below w.heap.size w w') : PtBlk T w' b p := h.next hb
/-- A port, a BPDU, and an empty port, behind a world. -/
theorem pbz_is (T T' T2 : TypeId) (w : World) (p : Pt) (q : Bp) : ∃ (W : World) (nb : Nat), Hid ((((w.alloc (.cells (cellsT p) T)).alloc (.cells (bcells q) T')).alloc (.cells (cellsT zeroP) T2)) = W) ∧ Hid (w.heap.size = nb) ∧ PtBlk T W nb p ∧ BBlk T' W (nb + 1) q ∧ PtBlk T2 W (nb + 2) zeroP ∧ Below nb w W := by
  obtain ⟨V, nb, HV, HN, k0, k1, kB⟩ := pb_is T T' w p q
  have e := HN.out
  have hs : V.heap.size = nb + 2 := by rw [← HV.out, size_box, size_box, e]
  refine ⟨V.alloc (.cells (cellsT zeroP) T2), nb, Lib.hid (by rw [HV.out]), HN, k0.next (below_box _ _), k1.next (below_box _ _), ?_, kB.trans ((below_box V _).mono (by omega))⟩
  rw [← hs]
  exact ptblk_new T2 V zeroP

theorem BBlk.drewN {T : TypeId} {w : World} {b : Nat} {q : Bp} (h : BBlk T w b q) (n : Nat) : BBlk T (w.drewN n) b q := h
theorem loadAt_row {P : Program} {w : World} {b : Nat} {T T' : TypeId} {cs : Array Value} {d : TypeDesc} (h : w.heap[b]? = some (.cells cs T' (0, 0))) (hu : P.underlying T = some d) (hd : (match d with | .struct _ | .array _ _ => true | _ => false) = true) (hi : (P.info? T).map (·.size) = some cs.size) : (Instr.loadAt T (.pointer (some ⟨b, 0, none⟩))).run P w = .ok (.agg cs) w := by
  have hv := run_loadVar_row (P := P) w b T' T cs (0, 0) d h hu hd hi
  simp only [Instr.loadAt, Instr.sureAddr, Sem.run_bind, Sem.run_pure, Result.andThen_ok, hv]
set_option maxRecDepth 100000 in
theorem PtBlk.loadAt {w : World} {b : Nat} {p : Pt} (h : PtBlk 47 w b p) : (Instr.loadAt 47 (.pointer (some ⟨b, 0, none⟩))).run Try.prog w = .ok (.agg (cellsT p)) w := loadAt_row h rfl rfl infoSP
/-- In a region that draws its order: a load whose run is known in every world that meets S may be taken first. -/
theorem yieldsIf_run {P : Program} {ops : Array Oper} {S : World → Prop} {op : Oper} {a : Act} (hw : Region.wanted op (yielded ops a.tmps) = true) (ty : TypeId) (x : Operand) (ho : op.op = .load ty x) (b : Addr) (hx : a.eval x = .pointer (some b)) (V : Value)
    (hS : ∀ w, S w → (Instr.loadAt ty (.pointer (some b))).run P w = .ok V w) : YieldsIf P ops S op V a :=
  .inl ⟨hw, fun w hw' => by
    unfold execOp
    simp only [ho, hx, Sem.run_bind, Sem.run_pure, Result.andThen_ok, hS w hw']⟩
theorem yieldsIf_move {P : Program} {ops : Array Oper} {S : World → Prop} {op : Oper} {a : Act} (hw : Region.wanted op (yielded ops a.tmps) = true) (x : Operand) (ho : op.op = .move x) (V : Value) (hx : a.eval x = V) : YieldsIf P ops S op V a :=
  .inl ⟨hw, fun w hw' => by
    unfold execOp
    simp only [ho, hx, Sem.run_bind, Sem.run_pure, Result.andThen_ok]⟩

end Go.Proofs.Ytlfmjinllffifaa

namespace Go.Proofs.Ytlfmjinllffifaa
set_option linter.unusedVariables false
set_option linter.unusedSimpArgs false
open Go.RowKit Vm Rm Bm Im

/-! ### Many ports, as cells -/
theorem cellsT_len (p : Pt) : (cellsT p).toList.length = 61 := rfl
def cells61 (l : List Pt) : List Value := l.flatMap (fun p => (cellsT p).toList)
theorem cells61_length (l : List Pt) : (cells61 l).length = l.length * 61 := by
  induction l with
  | nil => rfl
  | cons v l ih =>
    have e : cells61 (v :: l) = (cellsT v).toList ++ cells61 l := rfl
    rw [e, List.length_append, ih, List.length_cons, cellsT_len]
    omega
theorem cells61_add (l : List Pt) (x : Pt) : cells61 (l ++ [x]) = cells61 l ++ (cellsT x).toList := by simp [cells61]
theorem cells61_at {l : List Pt} {j : Nat} {p : Pt} (h : l[j]? = some p) (c : Nat) (hc : c < 61) : (cells61 l)[j * 61 + c]? = (cellsT p).toList[c]? := by
  induction l generalizing j with
  | nil => simp at h
  | cons y l ih =>
    have e : cells61 (y :: l) = (cellsT y).toList ++ cells61 l := rfl
    have ly := cellsT_len y
    rw [e]
    cases j with
    | zero =>
      simp only [List.getElem?_cons_zero, Option.some.injEq] at h
      subst h
      rw [List.getElem?_append_left (by omega)]
      congr 1; omega
    | succ j =>
      rw [List.getElem?_append_right (by omega), ly]
      have := ih (j := j) (by simpa using h)
      rw [← this]
      congr 1; omega
theorem cells61_one (l : List Pt) : ∀ u ∈ cells61 l, u.oneCell' = true := by
  intro u hu
  obtain ⟨p, _, hp⟩ := List.mem_flatMap.1 hu
  have h1 := cellsT_one p
  rw [Array.all_eq_true_iff_forall_mem] at h1
  exact h1 u (by simpa using hp)
theorem setCells_size (b : Nat) : ∀ (vs : List Value) (o : Nat) (w : World), (w.setCells b o vs).heap.size = w.heap.size
  | [], _, _ => rfl
  | v :: r, o, w => by rw [World.setCells, setCells_size b r (o + 1) _, size_set]
theorem below_setCells {B : Nat} {a : World} (b : Nat) (hb : B ≤ b) : ∀ (vs : List Value) (o : Nat) (w : World), Below B a w → Below B a (w.setCells b o vs)
  | [], _, _, h => h
  | v :: r, o, w, h => by rw [World.setCells]; exact below_setCells b hb r (o + 1) _ (h.setCell hb _)
/-- A row of ports. -/
structure PRow (w : World) (a : Option Addr) (l : List Pt) : Prop where
  at_ : ∀ j p, l[j]? = some p → ∃ g o : Nat, a = some ⟨g, o, none⟩ ∧ g < w.heap.size ∧ w.rangeAt g (o + j * 61) (cellsT p).toList
theorem prow_nil (w : World) (a : Option Addr) : PRow w a [] := ⟨fun j p h => by simp at h⟩
theorem range_next {w w' : World} {g o B : Nat} {cs : List Value} (h : w.rangeAt g o cs) (hg : g < B) (hb : Below B w w') : w'.rangeAt g o cs := fun j v hv => (hb.cell (p := ⟨g, o + j, none⟩) hg).trans (h j v hv)
theorem PRow.next {w w' : World} {a : Option Addr} {l : List Pt} (h : PRow w a l) (hb : Below w.heap.size w w') : PRow w' a l :=
  ⟨fun j p hp => by obtain ⟨g, o, e, hg, k⟩ := h.at_ j p hp; exact ⟨g, o, e, Nat.lt_of_lt_of_le hg hb.size, range_next k hg hb⟩⟩
/-- A row of ports in a block of its own, which may be written. -/
structure WRow (w : World) (g : Nat) (l : List Pt) : Prop where
  lt : g < w.heap.size
  at_ : ∀ j p, l[j]? = some p → w.rangeAt g (j * 61) (cellsT p).toList
  free : w.there g 0 (l.length * 61)
theorem there_next {w w' : World} {g o n B : Nat} (h : w.there g o n) (hg : g < B) (hb : Below B w w') : w'.there g o n := fun j hj => by
  have h0 := hb.block g hg
  obtain ⟨h1, h2⟩ := h j hj
  constructor
  · rw [hb.cell (p := ⟨g, o + j, none⟩) hg]; exact h1
  · unfold World.frozen? at h2 ⊢
    simp only [h0]
    exact h2
theorem WRow.next {w w' : World} {g : Nat} {l : List Pt} (h : WRow w g l) (hb : Below w.heap.size w w') : WRow w' g l :=
  ⟨Nat.lt_of_lt_of_le h.lt hb.size, fun j p hp => range_next (h.at_ j p hp) h.lt hb, there_next h.free h.lt hb⟩
theorem WRow.row {w : World} {g : Nat} {l : List Pt} (h : WRow w g l) : PRow w (some ⟨g, 0, none⟩) l :=
  ⟨fun j p hp => ⟨g, 0, rfl, h.lt, by rw [Nat.zero_add]; exact h.at_ j p hp⟩⟩
theorem WRow.at61 {w : World} {g : Nat} {l : List Pt} (h : WRow w g l) {k : Nat} (hk : k < l.length) : w.there g (k * 61) 61 := fun j hj => by
  have := h.free (k * 61 + j) (by omega)
  rw [Nat.zero_add] at this
  exact this
theorem WRow.set {w : World} {g : Nat} {l : List Pt} (h : WRow w g l) {k : Nat} (hk : k < l.length) (X : Pt) : WRow (w.setCells g (k * 61) (cellsT X).toList) g (l.set k X) := by
  have hf := h.at61 hk
  refine ⟨by rw [setCells_size]; exact h.lt, fun j p hp => ?_, ?_⟩
  · by_cases hj : k = j
    · subst hj
      rw [List.getElem?_set_self hk] at hp
      cases hp
      exact World.rangeAt_setCells_same w g (k * 61) _ (by rw [cellsT_len]; exact hf)
    · rw [List.getElem?_set_ne hj] at hp
      exact World.rangeAt_setCells_apart (h.at_ j p hp) g (k * 61) _ (.inr (by rw [cellsT_len, cellsT_len]; omega))
  · rw [List.length_set]
    exact World.there_setCells h.free _ _ _
theorem info61 : (Try.prog.info? 47).map (fun i => (i.zero, i.size, i.bytes)) = some (some (.agg (cellsT zeroP)), 61, 296) := by kernel_rfl
theorem infoR61 : (Try.prog.info? 54).map (fun i => (i.zero, i.size, i.bytes)) = some (some (.agg (cellsT zeroP)), 61, 296) := by kernel_rfl
theorem prow_owned {w : World} {base : Nat} {T : TypeId} {v : Value} {l : List Pt} (h : w.ownsRow base T 61 v l.length (cells61 l)) : ∃ (a : Option Addr) (cap : Nat), v = .slice a l.length cap ∧ l.length ≤ cap ∧ PRow w a l ∧ ((a = none ∧ l = []) ∨ ∃ g, a = some ⟨g, 0, none⟩ ∧ base ≤ g ∧ WRow w g l) := by
  rcases h.2 with ⟨rfl, h0⟩ | ⟨g, cap, cur, rfl, hbg, hg, hnc, hcm, hcs, htake⟩
  · have : l = [] := List.eq_nil_of_length_eq_zero h0
    subst this
    exact ⟨none, 0, rfl, Nat.le_refl _, prow_nil _ _, .inl ⟨rfl, rfl⟩⟩
  · have hlt := (Array.getElem?_eq_some_iff.1 hg).1
    have hW : WRow w g l := by
      refine ⟨hlt, fun j p hp => ?_, ?_⟩
      · intro c v hv
        have hjl := (List.getElem?_eq_some_iff.1 hp).1
        have hc : c < 61 := by have := (List.getElem?_eq_some_iff.1 hv).1; rw [cellsT_len] at this; exact this
        have h1 := h.cellAt (j * 61 + c) (by omega)
        rw [cells61_at hp c hc, hv] at h1
        exact h1
      · intro j hj
        have h1 := h.cellAt j (by omega)
        have h2 : j < (cells61 l).length := by rw [cells61_length]; exact hj
        rw [Nat.zero_add]
        refine ⟨by rw [h1, List.getElem?_eq_getElem h2]; rfl, ?_⟩
        simp [World.frozen?, hg]
    exact ⟨_, cap, rfl, hnc, hW.row, .inr ⟨g, rfl, hbg, hW⟩⟩
theorem PRow.news {w : World} {ad : Addr} {l : List Pt} (h : PRow w (some ad) l) : ∀ j u, (cells61 l)[j]? = some u → w.cell? (ad.add j) = some u := by
  intro j u hj
  have hl : j < l.length * 61 := by have := (List.getElem?_eq_some_iff.1 hj).1; rwa [cells61_length] at this
  have hk : j / 61 < l.length := Nat.div_lt_of_lt_mul (by omega)
  obtain ⟨p, hp⟩ := at_some (l := l) (k := j / 61) hk
  obtain ⟨g, o, e, hg, hc⟩ := h.at_ (j / 61) p hp
  cases e
  have hj2 : j / 61 * 61 + j % 61 = j := by omega
  have h1 := cells61_at hp (j % 61) (Nat.mod_lt _ (by omega))
  rw [hj2, hj] at h1
  have h2 := hc (j % 61) u h1.symm
  rw [Addr.add_mid]
  rw [show o + j = o + j / 61 * 61 + j % 61 from by omega]
  exact h2

set_option maxRecDepth 20000 in
set_option maxHeartbeats 1000000 in
theorem clone_w (a : Option Addr) (cap : Nat) (l : List Pt) (w : World) (h : PRow w a l) (hl : l.length ≤ 1000) :
    Calls Try.prog 15 #[.slice a l.length cap] w fun e w' => ∃ a' cap', e = .returned (.slice a' l.length cap') ∧ l.length ≤ cap' ∧ ((a' = none ∧ l = []) ∨ ∃ g, a' = some ⟨g, 0, none⟩ ∧ w.heap.size ≤ g ∧ WRow w' g l) ∧ Below w.heap.size w w' := by
  cases a with
  | none =>
    obtain rfl : l = [] := by
      cases l with
      | nil => rfl
      | cons p l => obtain ⟨g, o, e, _⟩ := h.at_ 0 p rfl; cases e
    have hq : ∀ w, Sem.run Try.prog (binOp .eql 27 (.slice none 0 cap) (.slice none 0 0)) w = .ok (.bool true) w := fun w => Lib.run_eql_slice_nil w 27 47 none 0 cap 0 0 Try.underlying27
    clear h
    go_enter Try.func15, Try.ntmps15
    go_wp2
    all_goals go_ret
    all_goals exact ⟨none, 0, rfl, by omega, by simp, Below.refl _ _⟩
  | some ad =>
    obtain ⟨i0, hi, hz0, hz1, hz2⟩ := info_parts info61
    have O := World.ownsRow_lit (base := w.heap.size) (e := 47) (size := 61) w #[] 0 (Nat.le_refl _) (Nat.zero_le _) rfl
    have hW := below_box w (.cells #[] 47)
    have hnews := (h.next hW).news
    have hq : ∀ w, Sem.run Try.prog (binOp .eql 27 (.slice (some ad) l.length cap) (.slice none 0 0)) w = .ok (.bool false) w := fun w => Lib.run_eql_slice_nil w 27 47 (some ad) l.length cap 0 0 Try.underlying27
    have HC := Lib.hid (cells61_length l)
    have H1 := Lib.hid (cells61_one l)
    clear h
    go_enter Try.func15, Try.ntmps15
    go_wp2_with (at_builtin; refine wpList_append_own_at _ (by rfl) _ _ _ (by rfl) w.heap.size 47 i0 (.agg (cellsT zeroP)) 61 296 Try.underlying27 hi hz0 hz1 hz2 (by exact cellsT_size zeroP) (by decide) _ 0 _ (by rfl) O ad l.length cap (cells61 l) (by rfl) HC.out hnews H1.out (by unfold maxLen; omega) (by omega) (by simp) ?_; intro v' w1 hown hgrow hnil hat)
    obtain ⟨a', cap', rfl, hcap, hrow, hw⟩ := prow_owned (l := l) (by simpa using hown)
    have hB : Below w.heap.size w w1 := hW.grown hgrow (by simp) (fun j e => by simp [Value.ownBlock] at e; omega)
    go_ret
    exact ⟨a', cap', rfl, hcap, hw, hB⟩
end Go.Proofs.Ytlfmjinllffifaa

namespace Go.Proofs.Ytlfmjinllffifaa
set_option linter.unusedVariables false
set_option linter.unusedSimpArgs false
open Go.RowKit Vm Rm Bm Im

set_option maxRecDepth 100000 in
/-- A port out of the midst of a row. -/
theorem wpList_mid {ops : Array Oper} {rest : List Oper} {op : Oper} {a : Act} {w : World} {Q : Exit → Act → World → Prop} (hgd : op.guard = none) (x : Operand) (ho : op.op = .load 47 x)
    (b o : Nat) (hx : a.eval x = .pointer (some ⟨b, o, none⟩)) (p : Pt) (hc : w.rangeAt b o (cellsT p).toList)
    (h : wpList Try.prog ops Q rest (a.put op.dst (.agg (cellsT p))) w) : wpList Try.prog ops Q (op :: rest) a w := by
  refine wpList_load_mid hgd 47 x ho b o hx (cellsT p).toList _ hc rfl rfl ?_ ?_
  · rw [cellsT_len]; exact infoSP
  · rw [Array.toArray_toList]; exact h
set_option maxRecDepth 100000 in
/-- A port out of a block of its own. -/
theorem wpList_pt {ops : Array Oper} {rest : List Oper} {op : Oper} {a : Act} {w : World} {Q : Exit → Act → World → Prop} (hgd : op.guard = none) (x : Operand) (ho : op.op = .load 47 x)
    (b : Nat) (hx : a.eval x = .pointer (some ⟨b, 0, none⟩)) (p : Pt) (hc : PtBlk 47 w b p)
    (h : wpList Try.prog ops Q rest (a.put op.dst (.agg (cellsT p))) w) : wpList Try.prog ops Q (op :: rest) a w :=
  wpList_load_row hgd 47 x ho b hx 47 (cellsT p) (0, 0) _ hc rfl rfl infoSP h
set_option maxRecDepth 100000 in
/-- A port into a block of its own. -/
theorem wpList_ptst {ops : Array Oper} {rest : List Oper} {op : Oper} {a : Act} {w : World} {Q : Exit → Act → World → Prop} (hgd : op.guard = none) (x y : Operand) (ho : op.op = .store 47 x y)
    (b : Nat) (hx : a.eval x = .pointer (some ⟨b, 0, none⟩)) (p q : Pt) (hy : a.eval y = .agg (cellsT p)) (hc : PtBlk 47 w b q)
    (h : wpList Try.prog ops Q rest (a.put op.dst undef) (w.setRow b (cellsT p))) : wpList Try.prog ops Q (op :: rest) a w :=
  wpList_store_row hgd 47 x y ho b (cellsT p) hx hy 47 _ hc infoSP rfl (cellsT_one p) h
/-- A block of its own, made and filled at once. -/
theorem oneP_is (w : World) (p : Pt) : ∃ (W : World) (nb : Nat), Hid (w.alloc (.cells (cellsT p) 47) = W) ∧ Hid (w.heap.size = nb) ∧ PtBlk 47 W nb p ∧ Below nb w W :=
  ⟨_, _, Lib.hid rfl, Lib.hid rfl, ptblk_new _ w p, below_box w _⟩

def XInv (l : List Pt) (n : Nat) (w : World) (v : Value) (wr : World) : Prop :=
  ∃ k : Nat, k ≤ n ∧ v = .int .i64 (k : Nat) ∧ (l.take k).any Pt.reselect = false ∧ Below w.heap.size w wr
theorem take_nextP {l : List Pt} {k : Nat} {x : Pt} (h : l[k]? = some x) : l.take (k + 1) = l.take k ++ [x] := by rw [List.take_add_one, h]; rfl
theorem take_allP {l : List Pt} {n : Nat} (h : l.length = n) : l.take n = l := by rw [← h, List.take_length]

/-! ### A bridge -/
abbrev brv (i a m h d : Int) : Value := .agg #[.int .u64 i, .int .i64 a, .int .i64 m, .int .i64 h, .int .i64 d]
theorem iwithin_w (n l m : Int) (w : World) :
    Calls Try.prog 23 #[.int .i64 n, .int .i64 l, .int .i64 m] w fun e w' => e = .returned (.bool (decide (l ≤ n ∧ n ≤ m))) ∧ w = w' := by
  go_enter Try.func23, Try.ntmps23
  go_wp2
  all_goals go_ret
  all_goals (first | (refine ⟨?_, rfl⟩; refine ret_val ?_; simp; omega) | skip)

set_option maxHeartbeats 1000000 in
theorem brRight_w (i a m h d : Int) (R : Bool) (w : World) (hR : Hid (rightBr ⟨a, m, h, d⟩ = R)) :
    Calls Try.prog 13 #[brv i a m h d] w fun e w' => e = .returned (.bool R) ∧ Below w.heap.size w w' := by
  rw [← hR.out]
  clear hR
  obtain ⟨A, hA⟩ : ∃ A, decide (6 ≤ m ∧ m ≤ 40) = A := ⟨_, rfl⟩
  obtain ⟨B, hB⟩ : ∃ B, decide (1 ≤ h ∧ h ≤ 2) = B := ⟨_, rfl⟩
  obtain ⟨C, hC⟩ : ∃ C, decide (4 ≤ d ∧ d ≤ 30) = C := ⟨_, rfl⟩
  have ha := iwithin_w m 6 40
  have hb := iwithin_w h 1 2
  have hc := iwithin_w d 4 30
  rw [hA] at ha
  rw [hB] at hb
  rw [hC] at hc
  have e : rightBr ⟨a, m, h, d⟩ = (A && (B && (C && decide (a = 0)))) := by
    unfold rightBr
    rw [← hA, ← hB, ← hC]
    simp only [← Bool.decide_and]
    exact decide_eq_decide.2 ⟨fun h => ⟨h.2.1, h.2.2.1, h.2.2.2, h.1⟩, fun h => ⟨h.2.2.2, h.1, h.2.1, h.2.2.1⟩⟩
  rw [e]
  clear hA hB hC e
  cases A <;> cases B <;> cases C
  all_goals
    go_enter Try.func13, Try.ntmps13
    go_wp2_with (go_at_call 23; (first | (with_reducible refine (ha _).mono ?_) | (with_reducible refine (hb _).mono ?_) | (with_reducible refine (hc _).mono ?_)); rintro e w1 ⟨rfl, rfl⟩)
    all_goals go_ret
    all_goals (refine ⟨?_, bw_alloc (below_box w _) _⟩; first | rfl | (simp) | (simp; omega))
end Go.Proofs.Ytlfmjinllffifaa

namespace Go.Proofs.Ytlfmjinllffifaa
set_option linter.unusedVariables false
set_option linter.unusedSimpArgs false
open Go.RowKit Vm Rm Bm Im

theorem wpList_built {P : Program} {ops : Array Oper} {rest : List Oper} {op : Oper} {a : Act} {w : World} {Q : Exit → Act → World → Prop} (hgd : op.guard = none) (t : TypeId) (parts : Array (Nat × Operand)) (ho : op.op = .build t parts)
    (cells : Array Value) (hf : P.built t (parts.map fun (i, x) => (i, a.eval x)).toList = some cells) (h : wpList P ops Q rest (a.put op.dst (.agg cells)) w) : wpList P ops Q (op :: rest) a w :=
  wpList_plain hgd fun K hK => by
    refine wp_build t parts ho (by rw [hf]; rfl) ?_
    rw [hf]
    exact hK _ _ h

theorem wrap_inc (n : Int) (h : inI64 n) : IntKind.i64.wrap (n + 1) = inc64 n := by
  unfold inI64 at h
  unfold inc64
  split
  · rename_i e; subst e; rfl
  · have h1 : -9223372036854775808 ≤ n + 1 := by omega
    have h2 : n + 1 ≤ 9223372036854775807 := by omega
    rw [IntKind.wrap_i64]; omega

/-! ### What layer 8 is told -/
theorem inf_ok {p : Pt} (h : PtOk p) : InfOk (infP p) := by
  refine ⟨h.id, h.cost, ?_, ?_⟩
  · unfold infP
    dsimp only
    split
    · exact h.source
    · exact ⟨by omega, by omega⟩
  · have hz : zeroV.ok := ⟨⟨by decide, by decide⟩, ⟨by decide, by decide⟩, ⟨by decide, by decide⟩, ⟨by decide, by decide⟩⟩
    have key : ∀ c : Prop, [Decidable c] → (if c then p.vec else zeroV).ok := fun c _ => by split; exact h.vec; exact hz
    exact key _
theorem infos_len (l : List Pt) : (infosP l).length = l.length := by unfold infosP; rw [List.length_map]
theorem infos_take (l : List Pt) (k : Nat) : (infosP l).take k = infosP (l.take k) := by unfold infosP; rw [List.map_take]
theorem infos_next {l : List Pt} {k : Nat} {p : Pt} (h : l[k]? = some p) : infosP (l.take (k + 1)) = infosP (l.take k) ++ [infP p] := by rw [take_nextP h]; unfold infosP; rw [List.map_append]; rfl
theorem own_below {w w' : World} {base : Nat} {e : TypeId} {size : Nat} {v : Value} {n : Nat} {xs : List Value} (h : w.ownsRow base e size v n xs) (hb : Below w.heap.size w w') : w'.ownsRow base e size v n xs :=
  ⟨h.1, by
    rcases h.2 with ⟨h0, h1⟩ | ⟨g, cap, cur, e1, hbg, hg, rest⟩
    · exact .inl ⟨h0, h1⟩
    · exact .inr ⟨g, cap, cur, e1, hbg, (hb.block g (Array.getElem?_eq_some_iff.1 hg).1).trans hg, rest⟩⟩
end Go.Proofs.Ytlfmjinllffifaa
