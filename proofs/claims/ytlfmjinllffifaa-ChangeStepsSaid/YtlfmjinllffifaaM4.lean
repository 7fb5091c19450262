/-
  Layer 11: mustSettle; the deed that choose hands back.
  Layer 11: Choose, where it refuses.
  Layer 11: Choose, where layer 8 refuses what it is told.
  Layer 11: what Choose's loop keeps, and what it makes.
  Layer 11: Choose, where it may.
  Layer 11: Choose, whole; a port is the same as itself.
  Layer 11: what awake asks, at literals.
-/
import Derived.Test.YtlfmjinllffifaaM3
import Derived.Test.YtlfmjinllffifaaM2
import Derived.Great.BuildSlice
namespace Go.Proofs.Ytlfmjinllffifaa
set_option linter.unusedVariables false
set_option linter.unusedSimpArgs false
open Go.RowKit Vm Rm Bm Im

/-- Whether what was chosen is to come to be a port's own. -/
def mustB (p : Pt) : Bool := p.on && (decide (p.source = 1) || (decide (p.source = 2) && !(decide (p.vec = p.offer) && decide (p.times = p.given))) || (decide (p.source = 3) && decide (p.selected = 2)))

/-- The deed. -/
def choP (sel : Int) (v : Vc) (g : Tm) (p : Pt) : Pt := { p with reselect := false, ready := true, selected := sel, offer := v, given := g }
theorem Tn.put4o {T : TypeId} {b : Nat} {X : Pt} {w w1 : World} (t : Tn T b X w w1) (r c br q : Int) : Tn T b { X with offer := ⟨r, c, br, q⟩ } w ((((w1.setCell ⟨b, 14, none⟩ (.int .u64 r)).setCell ⟨b, 15, none⟩ (.int .u64 c)).setCell ⟨b, 16, none⟩ (.int .u64 br)).setCell ⟨b, 17, none⟩ (.int .u64 q)) :=
  ((((t.kp.set 14 _).set 15 _).set 16 _).set 17 _).tn (t.blk.s_offer r c br q)
theorem Tn.put4g {T : TypeId} {b : Nat} {X : Pt} {w w1 : World} (t : Tn T b X w w1) (x m h d : Int) : Tn T b { X with given := ⟨x, m, h, d⟩ } w ((((w1.setCell ⟨b, 18, none⟩ (.int .i64 x)).setCell ⟨b, 19, none⟩ (.int .i64 m)).setCell ⟨b, 20, none⟩ (.int .i64 h)).setCell ⟨b, 21, none⟩ (.int .i64 d)) :=
  ((((t.kp.set 18 _).set 19 _).set 20 _).set 21 _).tn (t.blk.s_given x m h d)

theorem cho_eq (p X1 Y : Pt) (sel : Int) (v : Vc) (g : Tm) (e1 : ({ ({ p with reselect := false } : Pt) with ready := true } : Pt) = X1) (e2 : ({ ({ ({ X1 with selected := sel } : Pt) with offer := v } : Pt) with given := g } : Pt) = Y) : choP sel v g p = Y := by
  subst e1 e2
  rfl
end Go.Proofs.Ytlfmjinllffifaa

namespace Go.Proofs.Ytlfmjinllffifaa
set_option linter.unusedVariables false
set_option linter.unusedSimpArgs false
open Go.RowKit Vm Rm Bm Im

theorem may_no_br {br : Int} {t : Tm} {l : List Pt} (h : rightBr t = false) : mayB br t l = false := by unfold mayB; rw [h]; simp
theorem may_no_any {br : Int} {t : Tm} {l : List Pt} (h : l.any Pt.reselect = false) : mayB br t l = false := by unfold mayB; rw [h]; simp
theorem may_no_right {br : Int} {t : Tm} {l : List Pt} (h : rightR (infosP l) = false) : mayB br t l = false := by unfold mayB; rw [h]; simp
/-- What Choose hands back: a row of its own. -/
def Out (w w' : World) (n : Nat) (L : List Pt) (B : Bool) (e : Ending) : Prop :=
  ∃ a' cap', e = .returned (.tuple #[.slice a' n cap', .bool B]) ∧ n ≤ cap' ∧ PRow w' a' L ∧ Below w.heap.size w w'
theorem own_prow {w : World} {a : Option Addr} {l : List Pt} {B : Nat} (h : (a = none ∧ l = []) ∨ ∃ g, a = some ⟨g, 0, none⟩ ∧ B ≤ g ∧ WRow w g l) : PRow w a l := by
  rcases h with ⟨_, rfl⟩ | ⟨g, rfl, _, hw⟩
  · exact prow_nil _ _
  · exact hw.row
abbrev bcl (i a m h d : Int) : Array Value := #[.int .u64 i, .int .i64 a, .int .i64 m, .int .i64 h, .int .i64 d]
def BrBlk (w : World) (b : Nat) (i a m h d : Int) : Prop := w.heap[b]? = some (.cells (bcl i a m h d) 26 (0, 0))
theorem BrBlk.lt {w : World} {b : Nat} {i a m h d : Int} (H : BrBlk w b i a m h d) : b < w.heap.size := (Array.getElem?_eq_some_iff.1 H).1
theorem BrBlk.next {w w' : World} {b : Nat} {i a m h d : Int} (H : BrBlk w b i a m h d) (hb : Below w.heap.size w w') : BrBlk w' b i a m h d := (hb.block b H.lt).trans H
theorem BrBlk.cells {w : World} {b : Nat} {i a m h d : Int} (H : BrBlk w b i a m h d) : w.cell? ⟨b, 0, none⟩ = some (.int .u64 i) ∧ w.cell? ⟨b, 1, none⟩ = some (.int .i64 a) ∧ w.cell? ⟨b, 2, none⟩ = some (.int .i64 m) ∧ w.cell? ⟨b, 3, none⟩ = some (.int .i64 h) ∧ w.cell? ⟨b, 4, none⟩ = some (.int .i64 d) := by
  unfold BrBlk at H
  refine ⟨?_, ?_, ?_, ?_, ?_⟩ <;> simp [World.cell?, H]

end Go.Proofs.Ytlfmjinllffifaa

namespace Go.Proofs.Ytlfmjinllffifaa
set_option linter.unusedVariables false
set_option linter.unusedSimpArgs false
open Go.RowKit Vm Rm Bm Im

theorem BrBlk.other {w : World} {b : Nat} {i a m h d : Int} (H : BrBlk w b i a m h d) (c j : Nat) (v : Value) (hne : b ≠ c) : BrBlk (w.setCell ⟨c, j, none⟩ v) b i a m h d := (Below.heap_setCell w ⟨c, j, none⟩ v b hne).trans H

end Go.Proofs.Ytlfmjinllffifaa

namespace Go.Proofs.Ytlfmjinllffifaa
set_option linter.unusedVariables false
set_option linter.unusedSimpArgs false
open Go.RowKit Vm Rm Bm Im

theorem kp_setCells {b : Nat} {w : World} : ∀ (vs : List Value) (o : Nat) (w1 : World), Kp b w w1 → Kp b w (w1.setCells b o vs)
  | [], _, _, h => h
  | v :: r, o, w1, h => by rw [World.setCells]; exact kp_setCells r (o + 1) _ (h.set o v)
theorem Kp.refl (b : Nat) (w : World) : Kp b w w := ⟨rfl, rfl, rfl, Nat.le_refl _, fun _ _ _ => rfl⟩
theorem Kp.grow {b : Nat} {w w1 w2 : World} (h : Kp b w w1) (hb : Below w1.heap.size w1 w2) : Kp b w w2 :=
  ⟨hb.os.trans h.os, hb.tape.trans h.tape, hb.output.trans h.output, Nat.le_trans h.size hb.size, fun i hi hn => (hb.block i (Nat.lt_of_lt_of_le hi h.size)).trans (h.block i hi hn)⟩
theorem Kp.below {b B : Nat} {a w w1 : World} (h : Kp b w w1) (hb : Below B a w) (h1 : B ≤ b) (h2 : B ≤ w.heap.size) : Below B a w1 :=
  ⟨h.os.trans hb.os, h.tape.trans hb.tape, h.output.trans hb.output, Nat.le_trans hb.size h.size, fun i hi => (h.block i (by omega) (by omega)).trans (hb.block i hi)⟩
theorem Kp.cell {b : Nat} {w w1 : World} (h : Kp b w w1) {p : Addr} (hi : p.block < w.heap.size) (hn : p.block ≠ b) : w1.cell? p = w.cell? p := by
  unfold World.cell?
  rw [h.block p.block hi hn]
theorem TBk.kp {T : TypeId} {w w1 : World} {b n : Nat} {a m h d : Int} (H : TBk T w n a m h d) (k : Kp b w w1) (hne : n ≠ b) : TBk T w1 n a m h d := (k.block n H.lt hne).trans H
theorem NRow.kp {w w1 : World} {b : Nat} {a : Option Addr} {l : List Int} (h : NRow w a l) (k : Kp b w w1) (hne : ∀ x, a = some x → x.block ≠ b) : NRow w1 a l :=
  ⟨fun j x hx => by
    obtain ⟨g, o, e, hg, hc⟩ := h.at_ j x hx
    exact ⟨g, o, e, Nat.lt_of_lt_of_le hg k.size, (k.cell (p := ⟨g, o + j, none⟩) hg (show g ≠ b from hne ⟨g, o, none⟩ e)).trans hc⟩⟩
theorem VRow.kp {w w1 : World} {b : Nat} {a : Option Addr} {l : List Vc} (h : VRow w a l) (k : Kp b w w1) (hne : ∀ x, a = some x → x.block ≠ b) : VRow w1 a l :=
  ⟨fun j x hx => by
    obtain ⟨g, o, e, hg, k0, k1, k2, k3⟩ := h.at_ j x hx
    have hn : g ≠ b := hne ⟨g, o, none⟩ e
    exact ⟨g, o, e, Nat.lt_of_lt_of_le hg k.size, (k.cell (p := ⟨g, o + j * 4, none⟩) hg hn).trans k0, (k.cell (p := ⟨g, o + j * 4 + 1, none⟩) hg hn).trans k1, (k.cell (p := ⟨g, o + j * 4 + 2, none⟩) hg hn).trans k2, (k.cell (p := ⟨g, o + j * 4 + 3, none⟩) hg hn).trans k3⟩⟩
theorem kp_put7 (w : World) (b : Nat) (r c br p P : Int) (rs os : Value) : Kp b w (put7 w b r c br p P rs os) :=
  (((((((Kp.refl b w).set 0 _).set 1 _).set 2 _).set 3 _).set 4 _).set 5 _).set 6 _

/-- What is made of a port. -/
theorem chosen_is (br : Int) (v : Vc) (gv : Tm) (sel : Int) (p : Pt) : chosenP br v gv sel p = { choP sel ⟨v.root, v.cost, br, p.id⟩ gv p with update := mustB (choP sel ⟨v.root, v.cost, br, p.id⟩ gv p) } := by
  have e : ∀ s : Int, ¬ s = 0 → decide ((infP p).source = s) = (p.on && decide (p.source = s)) := by
    intro s hs
    unfold infP
    cases ho : p.on
    · simp; exact fun h => hs h.symm
    · simp
  unfold chosenP
  rw [e 1 (by omega), e 2 (by omega), e 3 (by omega)]
  unfold mustB choP
  cases p.on <;> simp
/-- The row behind k rounds. -/
def curL (f : Nat → Pt → Pt) (l : List Pt) (k : Nat) : List Pt := l.mapIdx (fun j p => if j < k then f j p else p)
theorem cur_zero (f : Nat → Pt → Pt) (l : List Pt) : curL f l 0 = l := by
  unfold curL
  apply List.ext_getElem?
  intro j
  simp
theorem cur_len (f : Nat → Pt → Pt) (l : List Pt) (k : Nat) : (curL f l k).length = l.length := by unfold curL; simp
theorem cur_set {f : Nat → Pt → Pt} {l : List Pt} {k : Nat} {p : Pt} (h : l[k]? = some p) : (curL f l k).set k (f k p) = curL f l (k + 1) := by
  unfold curL
  apply List.ext_getElem?
  intro j
  by_cases hj : k = j
  · subst hj
    have hk : k < l.length := (List.getElem?_eq_some_iff.1 h).1
    rw [List.getElem?_set_self (by simpa using hk)]
    simp [h]
  · rw [List.getElem?_set_ne hj]
    simp only [List.getElem?_mapIdx]
    cases l[j]? with
    | none => rfl
    | some q =>
      by_cases hk : j < k
      · simp [hk, show j < k + 1 by omega]
      · simp [hk, show ¬ j < k + 1 by omega]
theorem cur_all (f : Nat → Pt → Pt) (l : List Pt) : curL f l l.length = l.mapIdx f := by
  unfold curL
  apply List.ext_getElem?
  intro j
  simp only [List.getElem?_mapIdx]
  cases h : l[j]? with
  | none => rfl
  | some q => simp [(List.getElem?_eq_some_iff.1 h).1]
theorem cur_at {f : Nat → Pt → Pt} {l : List Pt} {k j : Nat} {p : Pt} (h : l[j]? = some p) (hj : ¬ j < k) : (curL f l k)[j]? = some p := by
  unfold curL
  simp [h, hj]
theorem WRow.stores {w : World} {g : Nat} {l : List Pt} (h : WRow w g l) {k : Nat} (hk : k < l.length) (X : Pt) : Sem.run Try.prog (storeCells ⟨g, k * 61, none⟩ (cellsT X).toList) w = .ok () (w.setCells g (k * 61) (cellsT X).toList) := by
  have ht := h.at61 hk
  have := run_storeCells_cells (P := Try.prog) g (k * 61) (cellsT X).toList 0 w (fun j hj => by have h := ht j (by rw [cellsT_len] at hj; exact hj); simpa using h.1) (fun j hj => by have h := ht j (by rw [cellsT_len] at hj; exact hj); simpa using h.2)
    (fun v hv => (Array.all_eq_true_iff_forall_mem.1 (cellsT_one X)) v (by simpa using hv))
  simpa using this
/-- What a round of Choose reads. -/
structure ChW (pb rb gb rg ro og oo n k rcap ocap : Nat) (p : Pt) (sel vr vc vi vp ga gm gh gd : Int) (V : World) : Prop where
  pt : PtBlk 47 V pb p
  rs : V.cell? ⟨rb, 5, none⟩ = some (.slice (some ⟨rg, ro, none⟩) n rcap)
  os : V.cell? ⟨rb, 6, none⟩ = some (.slice (some ⟨og, oo, none⟩) n ocap)
  role : V.cell? ⟨rg, ro + k, none⟩ = some (.int .i64 sel)
  v0 : V.cell? ⟨og, oo + k * 4, none⟩ = some (.int .u64 vr)
  v1 : V.cell? ⟨og, oo + k * 4 + 1, none⟩ = some (.int .u64 vc)
  v2 : V.cell? ⟨og, oo + k * 4 + 2, none⟩ = some (.int .u64 vi)
  v3 : V.cell? ⟨og, oo + k * 4 + 3, none⟩ = some (.int .u64 vp)
  tm : TBk 24 V gb ga gm gh gd
theorem cell_block {w : World} {a : Addr} {v : Value} (h : w.cell? a = some v) : a.block < w.heap.size := World.block_lt_of_cell? w a h
theorem ChW.next {pb rb gb rg ro og oo n k rcap ocap : Nat} {p : Pt} {sel vr vc vi vp ga gm gh gd : Int} {V V' : World} (h : ChW pb rb gb rg ro og oo n k rcap ocap p sel vr vc vi vp ga gm gh gd V) (hb : Below V.heap.size V V') : ChW pb rb gb rg ro og oo n k rcap ocap p sel vr vc vi vp ga gm gh gd V' :=
  ⟨h.pt.next hb, (hb.cell (cell_block h.rs)).trans h.rs, (hb.cell (cell_block h.os)).trans h.os, (hb.cell (cell_block h.role)).trans h.role, (hb.cell (cell_block h.v0)).trans h.v0, (hb.cell (cell_block h.v1)).trans h.v1, (hb.cell (cell_block h.v2)).trans h.v2, (hb.cell (cell_block h.v3)).trans h.v3, h.tm.next hb⟩
theorem ChW.kp {pb rb gb rg ro og oo n k rcap ocap b : Nat} {p : Pt} {sel vr vc vi vp ga gm gh gd : Int} {V V' : World} (h : ChW pb rb gb rg ro og oo n k rcap ocap p sel vr vc vi vp ga gm gh gd V) (hb : Kp b V V') (h1 : pb ≠ b) (h2 : rb ≠ b) (h3 : rg ≠ b) (h4 : og ≠ b) (h5 : gb ≠ b) : ChW pb rb gb rg ro og oo n k rcap ocap p sel vr vc vi vp ga gm gh gd V' :=
  ⟨(hb.block pb h.pt.lt h1).trans h.pt, (hb.cell (cell_block h.rs) h2).trans h.rs, (hb.cell (cell_block h.os) h2).trans h.os, (hb.cell (cell_block h.role) h3).trans h.role, (hb.cell (cell_block h.v0) h4).trans h.v0, (hb.cell (cell_block h.v1) h4).trans h.v1, (hb.cell (cell_block h.v2) h4).trans h.v2, (hb.cell (cell_block h.v3) h4).trans h.v3, h.tm.kp hb h5⟩
set_option maxRecDepth 100000 in
theorem TBk.loadAt {w : World} {b : Nat} {a m h d : Int} (H : TBk 24 w b a m h d) : (Instr.loadAt 24 (.pointer (some ⟨b, 0, none⟩))).run Try.prog w = .ok (tv a m h d) w := loadAt_row H rfl rfl (by kernel_rfl)
end Go.Proofs.Ytlfmjinllffifaa

namespace Go.Proofs.Ytlfmjinllffifaa
set_option linter.unusedVariables false
set_option linter.unusedSimpArgs false
open Go.RowKit Vm Rm Bm Im

theorem intOf_nat (k : Nat) : (intOf (Value.int .i64 ((k : Nat) : Int))).toNat = k := by simp [intOf]
def LInv (f : Nat → Pt → Pt) (l : List Pt) (n g : Nat) (wl : World) (i : Value) (wr : World) : Prop :=
  ∃ k : Nat, k ≤ n ∧ i = .int .i64 (k : Nat) ∧ WRow wr g (curL f l k) ∧ Kp g wl wr

end Go.Proofs.Ytlfmjinllffifaa

namespace Go.Proofs.Ytlfmjinllffifaa
set_option linter.unusedVariables false
set_option linter.unusedSimpArgs false
open Go.RowKit Vm Rm Bm Im

/-- What is chosen is of its kinds. -/
theorem choose_pok {br : Int} {t : Tm} {l : List Pt} (h : ∀ p ∈ l, PtOk p) : ∀ p ∈ (chooseP br t l).1, PtOk p := by
  intro p hp
  cases hm : mayB br t l with
  | false =>
    rw [choose_not hm] at hp
    exact h p hp
  | true =>
    rw [choose_may hm] at hp
    obtain ⟨k, hk⟩ := List.getElem?_of_mem hp
    simp only [List.getElem?_mapIdx, Option.map_eq_some_iff] at hk
    obtain ⟨q, hq, rfl⟩ := hk
    have := h q (List.mem_of_getElem? hq)
    exact ⟨this.id, this.cost, this.source, this.vec, this.age⟩

set_option maxRecDepth 100000 in
set_option maxHeartbeats 4000000 in
theorem run_ptEq (p : Pt) (w : World) : Sem.run Try.prog (binOp .eql 47 (.agg (cellsT p)) (.agg (cellsT p))) w = .ok (.bool true) w := by
  unfold cellsT
  go_simp
end Go.Proofs.Ytlfmjinllffifaa

namespace Go.Proofs.Ytlfmjinllffifaa
set_option linter.unusedVariables false
set_option linter.unusedSimpArgs false
open Go.RowKit Vm Rm Bm Im

set_option maxHeartbeats 1000000 in
theorem usual_w (i : Int) (w : World) :
    Calls Try.prog 14 #[.int .u64 i] w fun e w' => e = .returned (brv i 0 20 2 15) ∧ Below w.heap.size w w' := by
  have kT : BrBlk (w.alloc (.cells (bcl i 0 20 2 15) 26)) w.heap.size i 0 20 2 15 := heap_alloc_new w _
  obtain ⟨k0, k1, k2, k3, k4⟩ := kT.cells
  clear kT
  unfold bcl at k0 k1 k2 k3 k4
  go_enter Try.func14, Try.ntmps14
  go_wp2_with fail
  exact bodyPost_ret (v := brv i 0 20 2 15) (by simp [results, Try.results14, go_sem, k0, k1, k2, k3, k4]) rfl ⟨rfl, below_box w _⟩

/-! The document's example. -/
def b0 : Bp := ⟨3, 14, 1, 0, 2, 1, 0, 5120, 512, 3840⟩
def P1 : Pt := powerP (newP 1 4 true) true
def Q1 : Pt := hearP P1 b0
def P2 : Pt := { P1 with vec := ⟨1152921504606846976, 0, 0, 0⟩ }
def Q2 : Pt := hearP P2 b0
def U9 : Tm := ⟨0, 20, 2, 15⟩
def C1 : Pt := chooseAt 9 U9 [Q2] 0 Q2
def S1 : Pt := settleP (powerP (newP 1 4 false) true)
def O2 : Pt := { Q2 with info := 0 }
def A2 : Pt := ageP O2
theorem p1_facts : P1.source = 1 ∧ P1.reselect = true ∧ P1.on = true ∧ P1.vec.root = 0 := by decide
theorem q1_facts : Q1.source = 1 := by decide
theorem q2_facts : Q2.source = 3 ∧ Q2.info = 6 ∧ Q2.proposed = true ∧ Q2.oper = false ∧ Q2.heardRstp = true := by decide
theorem c1_facts : C1.selected = 1 ∧ C1.ready = true ∧ C1.update = false ∧ C1.given.age = 1 ∧ C1.offer.root = 1 ∧ C1.offer.cost = 4 ∧ C1.offer.bridge = 9 ∧ C1.offer.port = 1 := by decide
theorem s1_facts : S1.source = 1 := by decide
theorem a2_facts : A2.source = 1 := by decide
theorem choose_1 : chooseP 9 U9 [Q2] = ([C1], true) := by
  have h : mayB 9 U9 [Q2] = true := by decide
  rw [choose_may h]
  rfl
theorem choose_2 : chooseP 9 U9 [C1] = ([C1], false) := by
  have h := choose_again 9 U9 [Q2]
  rw [choose_1] at h
  exact h
theorem b0_ok : BpOk b0 := ⟨⟨by decide, by decide⟩, ⟨by decide, by decide⟩, ⟨by decide, by decide⟩, ⟨by decide, by decide⟩⟩
theorem p1_ok : P1.vec.ok := ⟨⟨by decide, by decide⟩, ⟨by decide, by decide⟩, ⟨by decide, by decide⟩, ⟨by decide, by decide⟩⟩
theorem p2_ok : P2.vec.ok := ⟨⟨by decide, by decide⟩, ⟨by decide, by decide⟩, ⟨by decide, by decide⟩, ⟨by decide, by decide⟩⟩
theorem q2_pok : PtOk Q2 := ⟨⟨by decide, by decide⟩, ⟨by decide, by decide⟩, ⟨by decide, by decide⟩, ⟨⟨by decide, by decide⟩, ⟨by decide, by decide⟩, ⟨by decide, by decide⟩, ⟨by decide, by decide⟩⟩, ⟨by decide, by decide⟩⟩
theorem q2_all : ∀ p ∈ [Q2], PtOk p := fun p hp => by simp at hp; subst hp; exact q2_pok
theorem c1_all : ∀ p ∈ [C1], PtOk p := by
  have h := choose_pok (br := 9) (t := U9) q2_all
  rw [choose_1] at h
  exact h
theorem usual_right : rightBr U9 = true := by decide
/-- A row of one port. -/
theorem one_row {w : World} {g : Nat} {p : Pt} {T : TypeId} (h : w.heap[g]? = some (.cells (cellsT p) T (0, 0))) : PRow w (some ⟨g, 0, none⟩) [p] :=
  ⟨fun j q hq => by
    cases j with
    | zero =>
      simp only [List.getElem?_cons_zero, Option.some.injEq] at hq
      subst hq
      refine ⟨g, 0, rfl, (Array.getElem?_eq_some_iff.1 h).1, fun c v hv => ?_⟩
      rw [show 0 + 0 * 61 + c = c by omega, cell_of_row w g c (cellsT p) T (0, 0) h]
      simpa using hv
    | succ j => simp at hq⟩
end Go.Proofs.Ytlfmjinllffifaa
