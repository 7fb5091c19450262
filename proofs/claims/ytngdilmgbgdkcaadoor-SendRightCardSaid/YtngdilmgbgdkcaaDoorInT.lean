/-
  Layer 11: what Choose's loop keeps, and what it makes.
-/
import Derived.Test.YtngdilmgbgdkcaaDoorInS
namespace Go.Proofs.YtngdilmgbgdkcaaDoor
set_option linter.unusedVariables false
set_option linter.unusedSimpArgs false
open Go.RowKit Vm Rm Bm Im

theorem kp_setCells {b : Nat} {w : World} : ∀ (vs : List Value) (o : Nat) (w1 : World), Kp b w w1 → Kp b w (w1.setCells b o vs)
  | [], _, _, h => h
  | v :: r, o, w1, h => by rw [World.setCells]; exact kp_setCells r (o + 1) _ (h.set o v)
theorem Kp.refl (b : Nat) (w : World) : Kp b w w := ⟨rfl, rfl, rfl, Nat.le_refl _, fun _ _ _ => rfl⟩
theorem Kp.grow {b : Nat} {w w1 w2 : World} (h : Kp b w w1) (hb : Below w1.heap.size w1 w2) : Kp b w w2 :=
  ⟨hb.os.trans h.os, hb.tape.trans h.tape, hb.output.trans h.output, Nat.le_trans h.size hb.size, fun i hi hn => (hb.block i (Nat.lt_of_lt_of_le hi h.size)).trans (h.block i hi hn)⟩
theorem Kp.below {b B : Nat} {a w w1 : World} (h : Kp b w w1) (hb : Below B a w) (h1 : B ≤ b) (h2 : B ≤ w.heap.size) : Below B a w1 :=
  ⟨h.os.trans hb.os, h.tape.trans hb.tape, h.output.trans hb.output, Nat.le_trans hb.size h.size, fun i hi => (h.block i (by omega) (by omega)).trans (hb.block i hi)⟩
theorem Kp.cell {b : Nat} {w w1 : World} (h : Kp b w w1) {p : Addr} (hi : p.block < w.heap.size) (hn : p.block ≠ b) : w1.cell? p = w.cell? p := by
  unfold World.cell?
  rw [h.block p.block hi hn]
theorem TBk.kp {T : TypeId} {w w1 : World} {b n : Nat} {a m h d : Int} (H : TBk T w n a m h d) (k : Kp b w w1) (hne : n ≠ b) : TBk T w1 n a m h d := (k.block n H.lt hne).trans H
theorem NRow.kp {w w1 : World} {b : Nat} {a : Option Addr} {l : List Int} (h : NRow w a l) (k : Kp b w w1) (hne : ∀ x, a = some x → x.block ≠ b) : NRow w1 a l :=
  ⟨fun j x hx => by
    obtain ⟨g, o, e, hg, hc⟩ := h.at_ j x hx
    exact ⟨g, o, e, Nat.lt_of_lt_of_le hg k.size, (k.cell (p := ⟨g, o + j, none⟩) hg (show g ≠ b from hne ⟨g, o, none⟩ e)).trans hc⟩⟩
theorem VRow.kp {w w1 : World} {b : Nat} {a : Option Addr} {l : List Vc} (h : VRow w a l) (k : Kp b w w1) (hne : ∀ x, a = some x → x.block ≠ b) : VRow w1 a l :=
  ⟨fun j x hx => by
    obtain ⟨g, o, e, hg, k0, k1, k2, k3⟩ := h.at_ j x hx
    have hn : g ≠ b := hne ⟨g, o, none⟩ e
    exact ⟨g, o, e, Nat.lt_of_lt_of_le hg k.size, (k.cell (p := ⟨g, o + j * 4, none⟩) hg hn).trans k0, (k.cell (p := ⟨g, o + j * 4 + 1, none⟩) hg hn).trans k1, (k.cell (p := ⟨g, o + j * 4 + 2, none⟩) hg hn).trans k2, (k.cell (p := ⟨g, o + j * 4 + 3, none⟩) hg hn).trans k3⟩⟩
theorem kp_put7 (w : World) (b : Nat) (r c br p P : Int) (rs os : Value) : Kp b w (put7 w b r c br p P rs os) :=
  (((((((Kp.refl b w).set 0 _).set 1 _).set 2 _).set 3 _).set 4 _).set 5 _).set 6 _

/-- What is made of a port. -/
theorem chosen_is (br : Int) (v : Vc) (gv : Tm) (sel : Int) (p : Pt) : chosenP br v gv sel p = { choP sel ⟨v.root, v.cost, br, p.id⟩ gv p with update := mustB (choP sel ⟨v.root, v.cost, br, p.id⟩ gv p) } := by
  have e : ∀ s : Int, ¬ s = 0 → decide ((infP p).source = s) = (p.on && decide (p.source = s)) := by
    intro s hs
    unfold infP
    cases ho : p.on
    · simp; exact fun h => hs h.symm
    · simp
  unfold chosenP
  rw [e 1 (by omega), e 2 (by omega), e 3 (by omega)]
  unfold mustB choP
  cases p.on <;> simp
/-- The row behind k rounds. -/
def curL (f : Nat → Pt → Pt) (l : List Pt) (k : Nat) : List Pt := l.mapIdx (fun j p => if j < k then f j p else p)
theorem cur_zero (f : Nat → Pt → Pt) (l : List Pt) : curL f l 0 = l := by
  unfold curL
  apply List.ext_getElem?
  intro j
  simp
theorem cur_len (f : Nat → Pt → Pt) (l : List Pt) (k : Nat) : (curL f l k).length = l.length := by unfold curL; simp
theorem cur_set {f : Nat → Pt → Pt} {l : List Pt} {k : Nat} {p : Pt} (h : l[k]? = some p) : (curL f l k).set k (f k p) = curL f l (k + 1) := by
  unfold curL
  apply List.ext_getElem?
  intro j
  by_cases hj : k = j
  · subst hj
    have hk : k < l.length := (List.getElem?_eq_some_iff.1 h).1
    rw [List.getElem?_set_self (by simpa using hk)]
    simp [h]
  · rw [List.getElem?_set_ne hj]
    simp only [List.getElem?_mapIdx]
    cases l[j]? with
    | none => rfl
    | some q =>
      by_cases hk : j < k
      · simp [hk, show j < k + 1 by omega]
      · simp [hk, show ¬ j < k + 1 by omega]
theorem cur_all (f : Nat → Pt → Pt) (l : List Pt) : curL f l l.length = l.mapIdx f := by
  unfold curL
  apply List.ext_getElem?
  intro j
  simp only [List.getElem?_mapIdx]
  cases h : l[j]? with
  | none => rfl
  | some q => simp [(List.getElem?_eq_some_iff.1 h).1]
theorem cur_at {f : Nat → Pt → Pt} {l : List Pt} {k j : Nat} {p : Pt} (h : l[j]? = some p) (hj : ¬ j < k) : (curL f l k)[j]? = some p := by
  unfold curL
  simp [h, hj]
theorem WRow.stores {w : World} {g : Nat} {l : List Pt} (h : WRow w g l) {k : Nat} (hk : k < l.length) (X : Pt) : Sem.run Tryd.prog (storeCells ⟨g, k * 61, none⟩ (cellsT X).toList) w = .ok () (w.setCells g (k * 61) (cellsT X).toList) := by
  have ht := h.at61 hk
  have := run_storeCells_cells (P := Tryd.prog) g (k * 61) (cellsT X).toList 0 w (fun j hj => by have h := ht j (by rw [cellsT_len] at hj; exact hj); simpa using h.1) (fun j hj => by have h := ht j (by rw [cellsT_len] at hj; exact hj); simpa using h.2)
    (fun v hv => (Array.all_eq_true_iff_forall_mem.1 (cellsT_one X)) v (by simpa using hv))
  simpa using this
/-- What a round of Choose reads. -/
structure ChW (pb rb gb rg ro og oo n k rcap ocap : Nat) (p : Pt) (sel vr vc vi vp ga gm gh gd : Int) (V : World) : Prop where
  pt : PtBlk 30 V pb p
  rs : V.cell? ⟨rb, 5, none⟩ = some (.slice (some ⟨rg, ro, none⟩) n rcap)
  os : V.cell? ⟨rb, 6, none⟩ = some (.slice (some ⟨og, oo, none⟩) n ocap)
  role : V.cell? ⟨rg, ro + k, none⟩ = some (.int .i64 sel)
  v0 : V.cell? ⟨og, oo + k * 4, none⟩ = some (.int .u64 vr)
  v1 : V.cell? ⟨og, oo + k * 4 + 1, none⟩ = some (.int .u64 vc)
  v2 : V.cell? ⟨og, oo + k * 4 + 2, none⟩ = some (.int .u64 vi)
  v3 : V.cell? ⟨og, oo + k * 4 + 3, none⟩ = some (.int .u64 vp)
  tm : TBk 24 V gb ga gm gh gd
theorem cell_block {w : World} {a : Addr} {v : Value} (h : w.cell? a = some v) : a.block < w.heap.size := World.block_lt_of_cell? w a h
theorem ChW.next {pb rb gb rg ro og oo n k rcap ocap : Nat} {p : Pt} {sel vr vc vi vp ga gm gh gd : Int} {V V' : World} (h : ChW pb rb gb rg ro og oo n k rcap ocap p sel vr vc vi vp ga gm gh gd V) (hb : Below V.heap.size V V') : ChW pb rb gb rg ro og oo n k rcap ocap p sel vr vc vi vp ga gm gh gd V' :=
  ⟨h.pt.next hb, (hb.cell (cell_block h.rs)).trans h.rs, (hb.cell (cell_block h.os)).trans h.os, (hb.cell (cell_block h.role)).trans h.role, (hb.cell (cell_block h.v0)).trans h.v0, (hb.cell (cell_block h.v1)).trans h.v1, (hb.cell (cell_block h.v2)).trans h.v2, (hb.cell (cell_block h.v3)).trans h.v3, h.tm.next hb⟩
theorem ChW.kp {pb rb gb rg ro og oo n k rcap ocap b : Nat} {p : Pt} {sel vr vc vi vp ga gm gh gd : Int} {V V' : World} (h : ChW pb rb gb rg ro og oo n k rcap ocap p sel vr vc vi vp ga gm gh gd V) (hb : Kp b V V') (h1 : pb ≠ b) (h2 : rb ≠ b) (h3 : rg ≠ b) (h4 : og ≠ b) (h5 : gb ≠ b) : ChW pb rb gb rg ro og oo n k rcap ocap p sel vr vc vi vp ga gm gh gd V' :=
  ⟨(hb.block pb h.pt.lt h1).trans h.pt, (hb.cell (cell_block h.rs) h2).trans h.rs, (hb.cell (cell_block h.os) h2).trans h.os, (hb.cell (cell_block h.role) h3).trans h.role, (hb.cell (cell_block h.v0) h4).trans h.v0, (hb.cell (cell_block h.v1) h4).trans h.v1, (hb.cell (cell_block h.v2) h4).trans h.v2, (hb.cell (cell_block h.v3) h4).trans h.v3, h.tm.kp hb h5⟩
set_option maxRecDepth 100000 in
theorem TBk.loadAt {w : World} {b : Nat} {a m h d : Int} (H : TBk 24 w b a m h d) : (Instr.loadAt 24 (.pointer (some ⟨b, 0, none⟩))).run Tryd.prog w = .ok (tv a m h d) w := loadAt_row H rfl rfl (by kernel_rfl)
end Go.Proofs.YtngdilmgbgdkcaaDoor
