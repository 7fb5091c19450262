/-
  Layer 11: Choose, where layer 8 refuses what it is told.
  Layer 11: what Choose's loop keeps, and what it makes.
-/
import Derived.Test.YtldobcfejldbiaaGreatDoorMan
import Derived.Test.YtldobcfejldbiaaGreatDoorMbf
namespace Go.Proofs.YtldobcfejldbiaaGreatDoor
set_option linter.unusedVariables false
set_option linter.unusedSimpArgs false
open Go.RowKit Vm Rm Bm Im

theorem BrBlk.other {w : World} {b : Nat} {i a m h d : Int} (H : BrBlk w b i a m h d) (c j : Nat) (v : Value) (hne : b ≠ c) : BrBlk (w.setCell ⟨c, j, none⟩ v) b i a m h d := (Below.heap_setCell w ⟨c, j, none⟩ v b hne).trans H

set_option maxRecDepth 20000 in
set_option maxHeartbeats 4000000 in
theorem choose_refused_w (i a m h d : Int) (ad : Option Addr) (cap : Nat) (l : List Pt) (w : World) (hr : PRow w ad l) (hok : ∀ p ∈ l, PtOk p) (hl : l.length ≤ 1000) (hb : rightBr ⟨a, m, h, d⟩ = true) (hany : l.any Pt.reselect = true) (hno : rightR (infosP l) = false) :
    Calls Tryz.prog 30 #[brv i a m h d, .slice ad l.length cap] w fun e w' => Out w w' l.length l false e := by
  have K0 := Lib.hid (show BrBlk (w.alloc (.cells (bcl i a m h d) 26)) w.heap.size i a m h d from heap_alloc_new w _)
  have B0 := Lib.hid (below_box w (.cells (bcl i a m h d) 26))
  have CC := Lib.hid (clone_w ad cap l _ (hr.next B0.out) hl)
  obtain ⟨n, hn⟩ : ∃ n, l.length = n := ⟨_, rfl⟩
  have HR := Lib.hid hr
  have HL := Lib.hid hl
  have CB := Lib.hid (fun w' => brRight_w i a m h d true w' (Lib.hid hb))
  have CA := Lib.hid (fun w' (hp : PRow w' ad l) => containsP_w ad cap l true w' hp HL.out (Lib.hid hany))
  have CK := Lib.hid (fun w' (hp : PRow w' ad l) => known_w ad cap l w' hp hok HL.out)
  have CS := Lib.hid (fun w' (a' : Option Addr) (cap' : Nat) (h : IRow w' a' (infosP l)) (hc : l.length ≤ cap') => by
    have := select_bad i a' cap' (infosP l) w' h (by rw [infos_len]; exact HL.out) (by rw [infos_len]; exact hc) (Lib.hid hno)
    rw [infos_len] at this
    exact this)
  rw [hn] at CC CA CK CS ⊢
  clear hr hl hn hok hb hany hno
  unfold brv
  go_enter Tryz.func30, Tryz.ntmps30
  go_wp2_with fail
  (with_reducible refine CC.out.mono ?_)
  rintro e w1 ⟨a', cap', rfl, hcap, hown, hb1⟩
  have B1 := Lib.hid (bw_trans B0.out hb1)
  have K1 := Lib.hid (K0.out.next hb1)
  have O1 := Lib.hid (own_prow hown)
  obtain ⟨k0, k1, k2, k3, k4⟩ := K1.out.cells
  clear hb1 hown CC B0 K0
  go_upto_region 4 with (first
    | (go_at_call 59; (with_reducible refine (CB.out _).mono ?_); rintro e w2 ⟨rfl, hb2⟩; have B2 := Lib.hid (bw_trans B1.out hb2); have K2 := Lib.hid (K1.out.next hb2); have O2 := Lib.hid (O1.out.next hb2); clear hb2 k0 k1 k2 k3 k4)
    | (go_at_call 60; (with_reducible refine (CA.out _ (HR.out.next B2.out)).mono ?_); rintro e U ⟨rfl, hb3⟩; have B3 := Lib.hid (bw_trans B2.out hb3); have K3 := Lib.hid (K2.out.next hb3); have O3 := Lib.hid (O2.out.next hb3); clear hb3 B1 B2 K1 K2 O1 O2 CB CA))
  have HU := Lib.hid (HR.out.next B3.out)
  have b0 := (Below.refl U.heap.size U).drew
  have b0a := fun c => (bw_alloc (Below.refl U.heap.size U) c).drew
  have S0 := (show BrBlk U.drew w.heap.size i a m h d from K3.out).cells.1
  have S0a := fun c => (show BrBlk (U.alloc c).drew w.heap.size i a m h d from (K3.out.next (below_box U c) : BrBlk (U.alloc c) w.heap.size i a m h d)).cells.1
  have hbU : w.heap.size < U.heap.size := K3.out.lt
  go_cut [7, 8] (fun u7 u8 wx => u8 = .int .i64 2 ∧ Below U.heap.size U wx)
  case first =>
    go_region_held3 (fun V => V.cell? ⟨w.heap.size, 0, none⟩ = some (.int .u64 i)) (first | (with_reducible exact S0) | (with_reducible exact S0a _) | (with_reducible exact S1) | (with_reducible exact S1a _) | (with_reducible exact S2) | (with_reducible exact S2a _) | (with_reducible exact S2p)) (first
      | (go_at_call 63; (with_reducible refine (CK.out ((U.alloc (.cells #[.int .u64 0, .int .u64 0, .int .u64 0, .int .u64 0, .int .i64 0, .slice none 0 0, .slice none 0 0] 132)).drew) (HU.out.next (b0a _))).mono ?_); rintro e y0 ⟨ka, kcap, rfl, hkc, hki, hkb⟩; have E0 := Lib.hid (bw_trans (b0a _) hkb); have hs0 := E0.out.size; have HI := Lib.hid hki; have Q0 := K3.out.next E0.out; have S1 := Q0.cells.1; have S1a := fun c => (Q0.next (below_box y0 c)).cells.1; have ZA := Lib.hid ((show RBlk (U.alloc (.cells #[.int .u64 0, .int .u64 0, .int .u64 0, .int .u64 0, .int .i64 0, .slice none 0 0, .slice none 0 0] 132)).drew U.heap.size 0 0 0 0 0 (.slice none 0 0) (.slice none 0 0) from rblk_new U 0 0 0 0 0 (.slice none 0 0) (.slice none 0 0)).next hkb); have hzA : U.heap.size < y0.heap.size := ZA.out.lt; clear Q0 hki hkb)
      | (go_at_call 63; (with_reducible refine (CK.out (U.drew) (HU.out.next (b0))).mono ?_); rintro e y0 ⟨ka, kcap, rfl, hkc, hki, hkb⟩; have E0 := Lib.hid (bw_trans (b0) hkb); have hs0 := E0.out.size; have HI := Lib.hid hki; have Q0 := K3.out.next E0.out; have S1 := Q0.cells.1; have S1a := fun c => (Q0.next (below_box y0 c)).cells.1; clear Q0 hki hkb)
      | (go_at_call 62; (with_reducible refine (CS.out (y0) ka kcap (HI.out.next (Below.refl y0.heap.size y0)) hkc).mono ?_); rintro e y1 ⟨rfl, hsb⟩; have E1 := Lib.hid (bw_trans (E0.out.trans ((Below.refl y0.heap.size y0).mono E0.out.size)) hsb); have Q1 := K3.out.next E1.out; have S2 := Q1.cells.1; have S2a := fun c => (Q1.next (below_box y1 c)).cells.1; have Z1 := ZA.out.next hsb; obtain ⟨z0, z1, z2, z3, z4, z5, z6⟩ := Z1.cells; have f0 := Z1.free 0; have f1 := Z1.free 1; have f2 := Z1.free 2; have f3 := Z1.free 3; have f4 := Z1.free 4; have f5 := Z1.free 5; have f6 := Z1.free 6; have S2p := ((((((((Q1.other U.heap.size 0 (.int .u64 0) (by omega)).other U.heap.size 1 (.int .u64 0) (by omega)).other U.heap.size 2 (.int .u64 0) (by omega)).other U.heap.size 3 (.int .u64 0) (by omega)).other U.heap.size 4 (.int .i64 0) (by omega)).other U.heap.size 5 (.slice none 0 0) (by omega)).other U.heap.size 6 (.slice none 0 0) (by omega)).cells).1; clear Q1)
      | (go_at_call 62; (with_reducible refine (CS.out (y0.alloc (.cells #[.int .u64 0, .int .u64 0, .int .u64 0, .int .u64 0, .int .i64 0, .slice none 0 0, .slice none 0 0] 132)) ka kcap (HI.out.next (below_box y0 (.cells #[.int .u64 0, .int .u64 0, .int .u64 0, .int .u64 0, .int .i64 0, .slice none 0 0, .slice none 0 0] 132))) hkc).mono ?_); rintro e y1 ⟨rfl, hsb⟩; have E1 := Lib.hid (bw_trans (E0.out.trans ((below_box y0 (.cells #[.int .u64 0, .int .u64 0, .int .u64 0, .int .u64 0, .int .i64 0, .slice none 0 0, .slice none 0 0] 132)).mono E0.out.size)) hsb); have Q1 := K3.out.next E1.out; have S2 := Q1.cells.1; have S2a := fun c => (Q1.next (below_box y1 c)).cells.1; have Z1 := ((rblk_new y0 0 0 0 0 0 (.slice none 0 0) (.slice none 0 0)).next hsb); obtain ⟨z0, z1, z2, z3, z4, z5, z6⟩ := Z1.cells; have f0 := Z1.free 0; have f1 := Z1.free 1; have f2 := Z1.free 2; have f3 := Z1.free 3; have f4 := Z1.free 4; have f5 := Z1.free 5; have f6 := Z1.free 6; have S2p := ((((((((Q1.other y0.heap.size 0 (.int .u64 0) (by omega)).other y0.heap.size 1 (.int .u64 0) (by omega)).other y0.heap.size 2 (.int .u64 0) (by omega)).other y0.heap.size 3 (.int .u64 0) (by omega)).other y0.heap.size 4 (.int .i64 0) (by omega)).other y0.heap.size 5 (.slice none 0 0) (by omega)).other y0.heap.size 6 (.slice none 0 0) (by omega)).cells).1; clear Q1)
      | (go_at_call 62; (with_reducible refine (CS.out (y0) ka kcap (HI.out.next (Below.refl y0.heap.size y0)) hkc).mono ?_); rintro e y1 ⟨rfl, hsb⟩; have E1 := Lib.hid (bw_trans (E0.out.trans ((Below.refl y0.heap.size y0).mono E0.out.size)) hsb); have Q1 := K3.out.next E1.out; have S2 := Q1.cells.1; have S2a := fun c => (Q1.next (below_box y1 c)).cells.1; clear Q1))
    all_goals go_wp2_with fail
    all_goals go_meet
    all_goals refine ⟨rfl, ?_⟩
    all_goals first | (with_reducible exact bw_alloc E1.out _) | (with_reducible exact below_put7 E1.out (n := y0.heap.size) (by omega) _ _ _ _ _ _ _) | (with_reducible exact below_put7 E1.out (n := U.heap.size) (by omega) _ _ _ _ _ _ _)
  case rest =>
    obtain ⟨rfl, hB⟩ := hcut
    have HB := Lib.hid hB
    clear hB b0 b0a S0 S0a
    go_wp2
    go_ret2
    exact ⟨a', cap', rfl, hcap, O3.out.next HB.out, bw_trans B3.out HB.out⟩
end Go.Proofs.YtldobcfejldbiaaGreatDoor

namespace Go.Proofs.YtldobcfejldbiaaGreatDoor
set_option linter.unusedVariables false
set_option linter.unusedSimpArgs false
open Go.RowKit Vm Rm Bm Im

theorem kp_setCells {b : Nat} {w : World} : ∀ (vs : List Value) (o : Nat) (w1 : World), Kp b w w1 → Kp b w (w1.setCells b o vs)
  | [], _, _, h => h
  | v :: r, o, w1, h => by rw [World.setCells]; exact kp_setCells r (o + 1) _ (h.set o v)
theorem Kp.refl (b : Nat) (w : World) : Kp b w w := ⟨rfl, rfl, rfl, Nat.le_refl _, fun _ _ _ => rfl⟩
theorem Kp.grow {b : Nat} {w w1 w2 : World} (h : Kp b w w1) (hb : Below w1.heap.size w1 w2) : Kp b w w2 :=
  ⟨hb.os.trans h.os, hb.tape.trans h.tape, hb.output.trans h.output, Nat.le_trans h.size hb.size, fun i hi hn => (hb.block i (Nat.lt_of_lt_of_le hi h.size)).trans (h.block i hi hn)⟩
theorem Kp.below {b B : Nat} {a w w1 : World} (h : Kp b w w1) (hb : Below B a w) (h1 : B ≤ b) (h2 : B ≤ w.heap.size) : Below B a w1 :=
  ⟨h.os.trans hb.os, h.tape.trans hb.tape, h.output.trans hb.output, Nat.le_trans hb.size h.size, fun i hi => (h.block i (by omega) (by omega)).trans (hb.block i hi)⟩
theorem Kp.cell {b : Nat} {w w1 : World} (h : Kp b w w1) {p : Addr} (hi : p.block < w.heap.size) (hn : p.block ≠ b) : w1.cell? p = w.cell? p := by
  unfold World.cell?
  rw [h.block p.block hi hn]
theorem RBlk.kp {w w1 : World} {b n : Nat} {r c br p P : Int} {rs os : Value} (h : RBlk w n r c br p P rs os) (k : Kp b w w1) (hne : n ≠ b) : RBlk w1 n r c br p P rs os := (k.block n h.lt hne).trans h
theorem TBk.kp {T : TypeId} {w w1 : World} {b n : Nat} {a m h d : Int} (H : TBk T w n a m h d) (k : Kp b w w1) (hne : n ≠ b) : TBk T w1 n a m h d := (k.block n H.lt hne).trans H
theorem NRow.kp {w w1 : World} {b : Nat} {a : Option Addr} {l : List Int} (h : NRow w a l) (k : Kp b w w1) (hne : ∀ x, a = some x → x.block ≠ b) : NRow w1 a l :=
  ⟨fun j x hx => by
    obtain ⟨g, o, e, hg, hc⟩ := h.at_ j x hx
    exact ⟨g, o, e, Nat.lt_of_lt_of_le hg k.size, (k.cell (p := ⟨g, o + j, none⟩) hg (show g ≠ b from hne ⟨g, o, none⟩ e)).trans hc⟩⟩
theorem VRow.kp {w w1 : World} {b : Nat} {a : Option Addr} {l : List Vc} (h : VRow w a l) (k : Kp b w w1) (hne : ∀ x, a = some x → x.block ≠ b) : VRow w1 a l :=
  ⟨fun j x hx => by
    obtain ⟨g, o, e, hg, k0, k1, k2, k3⟩ := h.at_ j x hx
    have hn : g ≠ b := hne ⟨g, o, none⟩ e
    exact ⟨g, o, e, Nat.lt_of_lt_of_le hg k.size, (k.cell (p := ⟨g, o + j * 4, none⟩) hg hn).trans k0, (k.cell (p := ⟨g, o + j * 4 + 1, none⟩) hg hn).trans k1, (k.cell (p := ⟨g, o + j * 4 + 2, none⟩) hg hn).trans k2, (k.cell (p := ⟨g, o + j * 4 + 3, none⟩) hg hn).trans k3⟩⟩
theorem kp_put7 (w : World) (b : Nat) (r c br p P : Int) (rs os : Value) : Kp b w (put7 w b r c br p P rs os) :=
  (((((((Kp.refl b w).set 0 _).set 1 _).set 2 _).set 3 _).set 4 _).set 5 _).set 6 _

/-- What is made of a port. -/
theorem chosen_is (br : Int) (v : Vc) (gv : Tm) (sel : Int) (p : Pt) : chosenP br v gv sel p = { choP sel ⟨v.root, v.cost, br, p.id⟩ gv p with update := mustB (choP sel ⟨v.root, v.cost, br, p.id⟩ gv p) } := by
  have e : ∀ s : Int, ¬ s = 0 → decide ((infP p).source = s) = (p.on && decide (p.source = s)) := by
    intro s hs
    unfold infP
    cases ho : p.on
    · simp; exact fun h => hs h.symm
    · simp
  unfold chosenP
  rw [e 1 (by omega), e 2 (by omega), e 3 (by omega)]
  unfold mustB choP
  cases p.on <;> simp
/-- The row behind k rounds. -/
def curL (f : Nat → Pt → Pt) (l : List Pt) (k : Nat) : List Pt := l.mapIdx (fun j p => if j < k then f j p else p)
theorem cur_zero (f : Nat → Pt → Pt) (l : List Pt) : curL f l 0 = l := by
  unfold curL
  apply List.ext_getElem?
  intro j
  simp
theorem cur_len (f : Nat → Pt → Pt) (l : List Pt) (k : Nat) : (curL f l k).length = l.length := by unfold curL; simp
theorem cur_set {f : Nat → Pt → Pt} {l : List Pt} {k : Nat} {p : Pt} (h : l[k]? = some p) : (curL f l k).set k (f k p) = curL f l (k + 1) := by
  unfold curL
  apply List.ext_getElem?
  intro j
  by_cases hj : k = j
  · subst hj
    have hk : k < l.length := (List.getElem?_eq_some_iff.1 h).1
    rw [List.getElem?_set_self (by simpa using hk)]
    simp [h]
  · rw [List.getElem?_set_ne hj]
    simp only [List.getElem?_mapIdx]
    cases l[j]? with
    | none => rfl
    | some q =>
      by_cases hk : j < k
      · simp [hk, show j < k + 1 by omega]
      · simp [hk, show ¬ j < k + 1 by omega]
theorem cur_all (f : Nat → Pt → Pt) (l : List Pt) : curL f l l.length = l.mapIdx f := by
  unfold curL
  apply List.ext_getElem?
  intro j
  simp only [List.getElem?_mapIdx]
  cases h : l[j]? with
  | none => rfl
  | some q => simp [(List.getElem?_eq_some_iff.1 h).1]
theorem WRow.stores {w : World} {g : Nat} {l : List Pt} (h : WRow w g l) {k : Nat} (hk : k < l.length) (X : Pt) : Sem.run Tryz.prog (storeCells ⟨g, k * 61, none⟩ (cellsT X).toList) w = .ok () (w.setCells g (k * 61) (cellsT X).toList) := by
  have ht := h.at61 hk
  have := run_storeCells_cells (P := Tryz.prog) g (k * 61) (cellsT X).toList 0 w (fun j hj => by have h := ht j (by rw [cellsT_len] at hj; exact hj); simpa using h.1) (fun j hj => by have h := ht j (by rw [cellsT_len] at hj; exact hj); simpa using h.2)
    (fun v hv => (Array.all_eq_true_iff_forall_mem.1 (cellsT_one X)) v (by simpa using hv))
  simpa using this
/-- What a round of Choose reads. -/
structure ChW (pb rb gb rg ro og oo n k rcap ocap : Nat) (p : Pt) (sel vr vc vi vp ga gm gh gd : Int) (V : World) : Prop where
  pt : PtBlk 78 V pb p
  rs : V.cell? ⟨rb, 5, none⟩ = some (.slice (some ⟨rg, ro, none⟩) n rcap)
  os : V.cell? ⟨rb, 6, none⟩ = some (.slice (some ⟨og, oo, none⟩) n ocap)
  role : V.cell? ⟨rg, ro + k, none⟩ = some (.int .i64 sel)
  v0 : V.cell? ⟨og, oo + k * 4, none⟩ = some (.int .u64 vr)
  v1 : V.cell? ⟨og, oo + k * 4 + 1, none⟩ = some (.int .u64 vc)
  v2 : V.cell? ⟨og, oo + k * 4 + 2, none⟩ = some (.int .u64 vi)
  v3 : V.cell? ⟨og, oo + k * 4 + 3, none⟩ = some (.int .u64 vp)
  tm : TBk 24 V gb ga gm gh gd
theorem cell_block {w : World} {a : Addr} {v : Value} (h : w.cell? a = some v) : a.block < w.heap.size := World.block_lt_of_cell? w a h
theorem ChW.next {pb rb gb rg ro og oo n k rcap ocap : Nat} {p : Pt} {sel vr vc vi vp ga gm gh gd : Int} {V V' : World} (h : ChW pb rb gb rg ro og oo n k rcap ocap p sel vr vc vi vp ga gm gh gd V) (hb : Below V.heap.size V V') : ChW pb rb gb rg ro og oo n k rcap ocap p sel vr vc vi vp ga gm gh gd V' :=
  ⟨h.pt.next hb, (hb.cell (cell_block h.rs)).trans h.rs, (hb.cell (cell_block h.os)).trans h.os, (hb.cell (cell_block h.role)).trans h.role, (hb.cell (cell_block h.v0)).trans h.v0, (hb.cell (cell_block h.v1)).trans h.v1, (hb.cell (cell_block h.v2)).trans h.v2, (hb.cell (cell_block h.v3)).trans h.v3, h.tm.next hb⟩
theorem ChW.kp {pb rb gb rg ro og oo n k rcap ocap b : Nat} {p : Pt} {sel vr vc vi vp ga gm gh gd : Int} {V V' : World} (h : ChW pb rb gb rg ro og oo n k rcap ocap p sel vr vc vi vp ga gm gh gd V) (hb : Kp b V V') (h1 : pb ≠ b) (h2 : rb ≠ b) (h3 : rg ≠ b) (h4 : og ≠ b) (h5 : gb ≠ b) : ChW pb rb gb rg ro og oo n k rcap ocap p sel vr vc vi vp ga gm gh gd V' :=
  ⟨(hb.block pb h.pt.lt h1).trans h.pt, (hb.cell (cell_block h.rs) h2).trans h.rs, (hb.cell (cell_block h.os) h2).trans h.os, (hb.cell (cell_block h.role) h3).trans h.role, (hb.cell (cell_block h.v0) h4).trans h.v0, (hb.cell (cell_block h.v1) h4).trans h.v1, (hb.cell (cell_block h.v2) h4).trans h.v2, (hb.cell (cell_block h.v3) h4).trans h.v3, h.tm.kp hb h5⟩
set_option maxRecDepth 100000 in
theorem TBk.loadAt {w : World} {b : Nat} {a m h d : Int} (H : TBk 24 w b a m h d) : (Instr.loadAt 24 (.pointer (some ⟨b, 0, none⟩))).run Tryz.prog w = .ok (tv a m h d) w := loadAt_row H rfl rfl (by kernel_rfl)
/-- Given times. -/
theorem given_w (i a m h d P : Int) (ad : Option Addr) (cap : Nat) (l : List Pt) (ga gm gh gd : Int) (w : World) (hr : PRow w ad l) (hok : ∀ p ∈ l, PtOk p) (hP : portI (rootP i (infosP l)) = P) (hG : givenP i ⟨a, m, h, d⟩ l = ⟨ga, gm, gh, gd⟩) :
    Calls Tryz.prog 64 #[brv i a m h d, .slice ad l.length cap, .int .i64 P] w fun e w' => e = .returned (tv ga gm gh gd) ∧ Below w.heap.size w w' := by
  unfold givenP at hG
  cases ho : rootP i (infosP l) with
  | none =>
    rw [ho] at hG hP
    simp only [Tm.mk.injEq] at hG
    obtain ⟨rfl, rfl, rfl, rfl⟩ := hG
    subst hP
    exact givenNo_w i a m h d _ ad l.length cap w (by decide)
  | some k =>
    rw [ho] at hG hP
    have hk : k < l.length := by
      have := (rootP_some ho).lt
      rwa [infos_len] at this
    obtain ⟨p, hp⟩ := at_some hk
    simp only [hp, Tm.mk.injEq] at hG
    obtain ⟨rfl, rfl, rfl, rfl⟩ := hG
    subst hP
    exact givenYes_w i a m h d ad cap k l p _ w hr hp (hok p (List.mem_of_getElem? hp)).age (Lib.hid rfl)
end Go.Proofs.YtldobcfejldbiaaGreatDoor
