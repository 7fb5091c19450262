/-
  Layer 11: mustSettle; the deed that choose hands back.
  Layer 11: Choose, where it refuses.
-/
import Derived.Test.YtldobcfejldbiaaGreatDoorMaj
namespace Go.Proofs.YtldobcfejldbiaaGreatDoor
set_option linter.unusedVariables false
set_option linter.unusedSimpArgs false
open Go.RowKit Vm Rm Bm Im

/-- Whether what was chosen is to come to be a port's own. -/
def mustB (p : Pt) : Bool := p.on && (decide (p.source = 1) || (decide (p.source = 2) && !(decide (p.vec = p.offer) && decide (p.times = p.given))) || (decide (p.source = 3) && decide (p.selected = 2)))

set_option maxRecDepth 20000 in
set_option maxHeartbeats 1000000 in
theorem must_w (p : Pt) (R : Bool) (w : World) (hR : Hid (mustB p = R)) :
    Calls Tryz.prog 109 #[.agg (cellsT p)] w fun e w' => e = .returned (.bool R) ∧ Below w.heap.size w w' := by
  obtain ⟨W, nb, HW, HN, k0, kB⟩ := oneP_is w p
  have KB := Lib.hid kB
  have c_on := k0.c_on
  have c_source := k0.c_source
  have c_sel := k0.c_selected
  obtain ⟨⟨p6, p7, p8, p9, p10, p11, p12, p13⟩, ⟨p14, p15, p16, p17, p18, p19, p20, p21⟩⟩ := k0.rds
  obtain ⟨E, hE⟩ : ∃ E, decide (p.vec = p.offer) = E := ⟨_, rfl⟩
  obtain ⟨F, hF⟩ : ∃ F, decide (p.times = p.given) = F := ⟨_, rfl⟩
  obtain ⟨S, hS⟩ : ∃ S, decide (p.selected = 2) = S := ⟨_, rfl⟩
  have hN := run_vcNe p.vec.root p.vec.cost p.vec.bridge p.vec.port p.offer.root p.offer.cost p.offer.bridge p.offer.port
  rw [show decide ((⟨p.vec.root, p.vec.cost, p.vec.bridge, p.vec.port⟩ : Vc) = ⟨p.offer.root, p.offer.cost, p.offer.bridge, p.offer.port⟩) = E from hE] at hN
  have hM := run_tmNe p.times.age p.times.max p.times.hello p.times.delay p.given.age p.given.max p.given.hello p.given.delay
  rw [show decide ((⟨p.times.age, p.times.max, p.times.hello, p.times.delay⟩ : Tm) = ⟨p.given.age, p.given.max, p.given.hello, p.given.delay⟩) = F from hF] at hM
  unfold vv at hN
  unfold tv at hM
  have hs2 : (p.selected == 2) = S := by rw [← hS]; rfl
  unfold mustB at hR
  rw [hE, hF, hS] at hR
  clear k0 kB hE hF hS
  cases ho : p.on with
  | false =>
    rw [ho] at c_on hR
    rw [show R = false from by rw [← hR.out]; rfl]
    clear ho hR c_source c_sel hN hM hs2 p6 p7 p8 p9 p10 p11 p12 p13 p14 p15 p16 p17 p18 p19 p20 p21
    go_enter Tryz.func109, Tryz.ntmps109
    go_upto_region 1 with (fail)
    refine wp_to (W := W) (by exact HW.out.symm) ?_
    rw [HN.out]
    go_wp2
    go_ret
    exact ⟨rfl, HN.out ▸ KB.out⟩
  | true =>
    rw [ho] at c_on hR
    clear ho
    by_cases h1 : p.source = 1
    · rw [h1] at c_source hR
      rw [show R = true from by rw [← hR.out]; simp]
      clear h1 hR hN hM hs2 p6 p7 p8 p9 p10 p11 p12 p13 p14 p15 p16 p17 p18 p19 p20 p21
      go_enter Tryz.func109, Tryz.ntmps109
      go_upto_region 1 with (fail)
      refine wp_to (W := W) (by exact HW.out.symm) ?_
      rw [HN.out]
      go_wp2
      all_goals go_ret
      all_goals exact ⟨rfl, HN.out ▸ KB.out⟩
    · by_cases h2 : p.source = 2
      · rw [h2] at c_source hR
        rw [show R = (!(E && F)) from by rw [← hR.out]; simp]
        clear h1 h2 hR hs2
        cases E <;> cases F
        all_goals
          go_enter Tryz.func109, Tryz.ntmps109
          go_upto_region 1 with (fail)
          refine wp_to (W := W) (by exact HW.out.symm) ?_
          rw [HN.out]
          go_wp2
          all_goals go_ret
          all_goals exact ⟨rfl, HN.out ▸ KB.out⟩
      · by_cases h3 : p.source = 3
        · rw [h3] at c_source hR
          rw [show R = S from by rw [← hR.out]; simp]
          clear h1 h2 h3 hR hN hM p6 p7 p8 p9 p10 p11 p12 p13 p14 p15 p16 p17 p18 p19 p20 p21
          go_enter Tryz.func109, Tryz.ntmps109
          go_upto_region 1 with (fail)
          refine wp_to (W := W) (by exact HW.out.symm) ?_
          rw [HN.out]
          go_wp2
          all_goals go_ret
          all_goals exact ⟨rfl, HN.out ▸ KB.out⟩
        · rw [show R = false from by rw [← hR.out]; simp [h1, h2, h3]]
          have z1 : (p.source == 1) = false := beq_eq_false_iff_ne.2 h1
          have z2 : (p.source == 2) = false := beq_eq_false_iff_ne.2 h2
          have z3 : (p.source == 3) = false := beq_eq_false_iff_ne.2 h3
          clear h1 h2 h3 hR hN hM hs2 p6 p7 p8 p9 p10 p11 p12 p13 p14 p15 p16 p17 p18 p19 p20 p21
          go_enter Tryz.func109, Tryz.ntmps109
          go_upto_region 1 with (fail)
          refine wp_to (W := W) (by exact HW.out.symm) ?_
          rw [HN.out]
          go_wp2
          all_goals go_ret
          all_goals exact ⟨rfl, HN.out ▸ KB.out⟩

/-- The deed. -/
def choP (sel : Int) (v : Vc) (g : Tm) (p : Pt) : Pt := { p with reselect := false, ready := true, selected := sel, offer := v, given := g }
theorem Tn.put4o {T : TypeId} {b : Nat} {X : Pt} {w w1 : World} (t : Tn T b X w w1) (r c br q : Int) : Tn T b { X with offer := ⟨r, c, br, q⟩ } w ((((w1.setCell ⟨b, 14, none⟩ (.int .u64 r)).setCell ⟨b, 15, none⟩ (.int .u64 c)).setCell ⟨b, 16, none⟩ (.int .u64 br)).setCell ⟨b, 17, none⟩ (.int .u64 q)) :=
  ((((t.kp.set 14 _).set 15 _).set 16 _).set 17 _).tn (t.blk.s_offer r c br q)
theorem Tn.put4g {T : TypeId} {b : Nat} {X : Pt} {w w1 : World} (t : Tn T b X w w1) (x m h d : Int) : Tn T b { X with given := ⟨x, m, h, d⟩ } w ((((w1.setCell ⟨b, 18, none⟩ (.int .i64 x)).setCell ⟨b, 19, none⟩ (.int .i64 m)).setCell ⟨b, 20, none⟩ (.int .i64 h)).setCell ⟨b, 21, none⟩ (.int .i64 d)) :=
  ((((t.kp.set 18 _).set 19 _).set 20 _).set 21 _).tn (t.blk.s_given x m h d)

theorem cho_eq (p X1 Y : Pt) (sel : Int) (v : Vc) (g : Tm) (e1 : ({ ({ p with reselect := false } : Pt) with ready := true } : Pt) = X1) (e2 : ({ ({ ({ X1 with selected := sel } : Pt) with offer := v } : Pt) with given := g } : Pt) = Y) : choP sel v g p = Y := by
  subst e1 e2
  rfl
set_option maxRecDepth 20000 in
set_option maxHeartbeats 2000000 in
theorem choose1d_w (b sb ob gb : Nat) (p X : Pt) (sel r c br q a m h d : Int) (w : World) (hp : PtBlk 78 w b p) (hs : One 3 w sb (.int .i64 sel)) (ho : Blk 47 w ob ⟨r, c, br, q⟩) (hg : TBk 24 w gb a m h d)
    (n1 : ¬ sb = b) (n2 : ¬ ob = b) (n3 : ¬ gb = b) (hX : Hid ({ choP sel ⟨r, c, br, q⟩ ⟨a, m, h, d⟩ p with update := mustB (choP sel ⟨r, c, br, q⟩ ⟨a, m, h, d⟩ p) } = X)) :
    Calls Tryz.prog 108 #[.pointer (some ⟨b, 0, none⟩), .pointer (some ⟨sb, 0, none⟩), .pointer (some ⟨ob, 0, none⟩), .pointer (some ⟨gb, 0, none⟩)] w fun e w' => e = .returned (.tuple #[]) ∧ Tn 78 b X w w' := by
  have f0 := hp.free
  have T1 := Lib.hid (((Tn.refl hp).set 26 (.bool false) (hp.s_reselect false)).set 24 (.bool true) ((hp.s_reselect false).s_ready true))
  have c_1 := hp.c_reselect
  have c_2 := hp.c_ready
  obtain ⟨W, hW⟩ : ∃ W, (w.setCell ⟨b, 26, none⟩ (.bool false)).setCell ⟨b, 24, none⟩ (.bool true) = W := ⟨_, rfl⟩
  rw [hW] at T1
  obtain ⟨X1, hX1⟩ : ∃ X, ({ ({ p with reselect := false } : Pt) with ready := true } : Pt) = X := ⟨_, rfl⟩
  replace T1 := Lib.hid (T1.out.as hX1)
  have HX1 := Lib.hid hX1
  clear hX1
  have HW := Lib.hid hW
  have hsl := hs.lt
  have hol := ho.lt
  have hgl := hg.lt
  have e1 := T1.out.at hsl n1
  have e2 := T1.out.at hol n2
  have e3 := T1.out.at hgl n3
  have KS := Lib.hid (show One 3 W sb (.int .i64 sel) from e1.trans hs)
  have KO := Lib.hid (show Blk 47 W ob ⟨r, c, br, q⟩ from e2.trans ho)
  have KG := Lib.hid (show TBk 24 W gb a m h d from e3.trans hg)
  clear hW hp hs ho hg hsl hol hgl e1 e2 e3
  go_enter Tryz.func108, Tryz.ntmps108
  go_upto_region 1 with (fail)
  refine wp_to (W := W) (by exact HW.out.symm) ?_
  clear HW f0 c_1 c_2
  have f := T1.out.blk.free
  have c_s := T1.out.blk.c_selected
  obtain ⟨p14, p15, p16, p17, p18, p19, p20, p21⟩ := T1.out.blk.rds.2
  have s0 := KS.out.cell
  obtain ⟨o0, o1, o2, o3⟩ := KO.out.cells
  obtain ⟨g0, g1, g2, g3⟩ := KG.out.cells
  have n1' : ¬ b = sb := fun e => n1 e.symm
  have n2' : ¬ b = ob := fun e => n2 e.symm
  have n3' : ¬ b = gb := fun e => n3 e.symm
  go_region
  have TF := tn_draw (((T1.out.set 23 (.int .i64 sel) (T1.out.blk.s_selected sel)).put4o r c br q).put4g a m h d)
  obtain ⟨Z, hZ⟩ : ∃ Z, (((((((((W.setCell ⟨b, 23, none⟩ (.int .i64 sel)).setCell ⟨b, 14, none⟩ (.int .u64 r)).setCell ⟨b, 15, none⟩ (.int .u64 c)).setCell ⟨b, 16, none⟩ (.int .u64 br)).setCell ⟨b, 17, none⟩ (.int .u64 q)).setCell ⟨b, 18, none⟩ (.int .i64 a)).setCell ⟨b, 19, none⟩ (.int .i64 m)).setCell ⟨b, 20, none⟩ (.int .i64 h)).setCell ⟨b, 21, none⟩ (.int .i64 d)).drew = Z := ⟨_, rfl⟩
  rw [hZ] at TF ⊢
  obtain ⟨Y, hY⟩ : ∃ Y, ({ ({ ({ X1 with selected := sel } : Pt) with offer := ⟨r, c, br, q⟩ } : Pt) with given := ⟨a, m, h, d⟩ } : Pt) = Y := ⟨_, rfl⟩
  have hY2 := cho_eq p X1 Y sel ⟨r, c, br, q⟩ ⟨a, m, h, d⟩ HX1.out hY
  rw [hY2] at hX
  clear hY2 HX1
  replace TF := Lib.hid (TF.as hY)
  clear hZ hY p14 p15 p16 p17 p18 p19 p20 p21 f c_s s0 o0 o1 o2 o3 g0 g1 g2 g3 T1 KS KO KG
  obtain ⟨R, hR⟩ : ∃ R, mustB Y = R := ⟨_, rfl⟩
  rw [hR] at hX
  have CM := Lib.hid (fun w' => must_w Y R w' (Lib.hid hR))
  clear hR
  have f := TF.out.blk.free
  have c_u := TF.out.blk.c_update
  go_wp2_with (first
    | (with_reducible refine wpList_pt rfl _ rfl b rfl Y TF.out.blk ?_)
    | (go_at_call 109; (with_reducible refine (CM.out _).mono ?_); rintro e y1 ⟨rfl, hb1⟩; have TY := Lib.hid (TF.out.grow hb1); clear hb1 f c_u; have f := TY.out.blk.free; have c_u := TY.out.blk.c_update))
  go_end0
  exact ⟨rfl, (TY.out.set 25 (.bool R) (TY.out.blk.s_update R)).as hX.out⟩
/-- What choose hands back. -/
theorem choose_hands_w (sel r c br q a m h d : Int) (w : World) :
    Calls Tryz.prog 66 #[.int .i64 sel, vv r c br q, tv a m h d] w fun e w' =>
      e = .returned (.func (.func 108) #[] #[.pointer (some ⟨w.heap.size, 0, none⟩), .pointer (some ⟨w.heap.size + 1, 0, none⟩), .pointer (some ⟨w.heap.size + 2, 0, none⟩)]) ∧
        One 3 w' w.heap.size (.int .i64 sel) ∧ Blk 47 w' (w.heap.size + 1) ⟨r, c, br, q⟩ ∧ TBk 24 w' (w.heap.size + 2) a m h d ∧ Below w.heap.size w w' := by
  have K0 := ((one_new 3 w (.int .i64 sel)).next (below_box _ (.cells #[.int .u64 r, .int .u64 c, .int .u64 br, .int .u64 q] 47))).next (below_box _ (.cells #[.int .i64 a, .int .i64 m, .int .i64 h, .int .i64 d] 24))
  have K1 := (blk_new 47 (w.alloc (.cells #[.int .i64 sel] 3)) r c br q).next (below_box _ (.cells #[.int .i64 a, .int .i64 m, .int .i64 h, .int .i64 d] 24))
  have K2 := tbk_new 24 ((w.alloc (.cells #[.int .i64 sel] 3)).alloc (.cells #[.int .u64 r, .int .u64 c, .int .u64 br, .int .u64 q] 47)) a m h d
  rw [size_box] at K1
  rw [size_box, size_box] at K2
  unfold vv tv
  go_enter Tryz.func66, Tryz.ntmps66
  go_wp2
  go_ret
  exact ⟨rfl, K0, K1, K2, bw_alloc (bw_alloc (below_box _ _) _) _⟩
theorem does_choose (w0 : World) (sb ob gb : Nat) (p X : Pt) (sel : Int) (v : Vc) (g : Tm) (hs : One 3 w0 sb (.int .i64 sel)) (ho : Blk 47 w0 ob v) (hg : TBk 24 w0 gb g.age g.max g.hello g.delay) (hX : Hid ({ choP sel v g p with update := mustB (choP sel v g p) } = X)) :
    Does w0 108 #[.pointer (some ⟨sb, 0, none⟩), .pointer (some ⟨ob, 0, none⟩), .pointer (some ⟨gb, 0, none⟩)] p X :=
  ⟨fun _ _ => by kernel_rfl, fun w b h hB hb => choose1d_w b sb ob gb p X sel v.root v.cost v.bridge v.port g.age g.max g.hello g.delay w h (hs.next hB) (ho.next hB) (hg.next hB) (by have := hs.lt; omega) (by have := ho.lt; omega) (by have := hg.lt; omega) hX⟩
end Go.Proofs.YtldobcfejldbiaaGreatDoor

namespace Go.Proofs.YtldobcfejldbiaaGreatDoor
set_option linter.unusedVariables false
set_option linter.unusedSimpArgs false
open Go.RowKit Vm Rm Bm Im

theorem may_no_br {br : Int} {t : Tm} {l : List Pt} (h : rightBr t = false) : mayB br t l = false := by unfold mayB; rw [h]; simp
theorem may_no_any {br : Int} {t : Tm} {l : List Pt} (h : l.any Pt.reselect = false) : mayB br t l = false := by unfold mayB; rw [h]; simp
theorem may_no_right {br : Int} {t : Tm} {l : List Pt} (h : rightR (infosP l) = false) : mayB br t l = false := by unfold mayB; rw [h]; simp
/-- What Choose hands back: a row of its own. -/
def Out (w w' : World) (n : Nat) (L : List Pt) (B : Bool) (e : Ending) : Prop :=
  ∃ a' cap', e = .returned (.tuple #[.slice a' n cap', .bool B]) ∧ n ≤ cap' ∧ PRow w' a' L ∧ Below w.heap.size w w'
theorem own_prow {w : World} {a : Option Addr} {l : List Pt} {B : Nat} (h : (a = none ∧ l = []) ∨ ∃ g, a = some ⟨g, 0, none⟩ ∧ B ≤ g ∧ WRow w g l) : PRow w a l := by
  rcases h with ⟨_, rfl⟩ | ⟨g, rfl, _, hw⟩
  · exact prow_nil _ _
  · exact hw.row
abbrev bcl (i a m h d : Int) : Array Value := #[.int .u64 i, .int .i64 a, .int .i64 m, .int .i64 h, .int .i64 d]
def BrBlk (w : World) (b : Nat) (i a m h d : Int) : Prop := w.heap[b]? = some (.cells (bcl i a m h d) 26 (0, 0))
theorem BrBlk.lt {w : World} {b : Nat} {i a m h d : Int} (H : BrBlk w b i a m h d) : b < w.heap.size := (Array.getElem?_eq_some_iff.1 H).1
theorem BrBlk.next {w w' : World} {b : Nat} {i a m h d : Int} (H : BrBlk w b i a m h d) (hb : Below w.heap.size w w') : BrBlk w' b i a m h d := (hb.block b H.lt).trans H
theorem BrBlk.cells {w : World} {b : Nat} {i a m h d : Int} (H : BrBlk w b i a m h d) : w.cell? ⟨b, 0, none⟩ = some (.int .u64 i) ∧ w.cell? ⟨b, 1, none⟩ = some (.int .i64 a) ∧ w.cell? ⟨b, 2, none⟩ = some (.int .i64 m) ∧ w.cell? ⟨b, 3, none⟩ = some (.int .i64 h) ∧ w.cell? ⟨b, 4, none⟩ = some (.int .i64 d) := by
  unfold BrBlk at H
  refine ⟨?_, ?_, ?_, ?_, ?_⟩ <;> simp [World.cell?, H]

set_option maxRecDepth 20000 in
set_option maxHeartbeats 2000000 in
theorem choose_early_w (i a m h d : Int) (ad : Option Addr) (cap : Nat) (l : List Pt) (w : World) (hr : PRow w ad l) (hl : l.length ≤ 1000) (hno : rightBr ⟨a, m, h, d⟩ = false ∨ l.any Pt.reselect = false) :
    Calls Tryz.prog 30 #[brv i a m h d, .slice ad l.length cap] w fun e w' => Out w w' l.length l false e := by
  have K0 := Lib.hid (show BrBlk (w.alloc (.cells (bcl i a m h d) 26)) w.heap.size i a m h d from heap_alloc_new w _)
  have B0 := Lib.hid (below_box w (.cells (bcl i a m h d) 26))
  have CC := Lib.hid (clone_w ad cap l _ (hr.next B0.out) hl)
  obtain ⟨n, hn⟩ : ∃ n, l.length = n := ⟨_, rfl⟩
  have HR := Lib.hid hr
  have HL := Lib.hid hl
  obtain ⟨RB, hRB⟩ : ∃ R, rightBr ⟨a, m, h, d⟩ = R := ⟨_, rfl⟩
  obtain ⟨RA, hRA⟩ : ∃ R, l.any Pt.reselect = R := ⟨_, rfl⟩
  have CB := Lib.hid (fun w' => brRight_w i a m h d RB w' (Lib.hid hRB))
  have CA := Lib.hid (fun w' (hp : PRow w' ad l) => containsP_w ad cap l RA w' hp HL.out (Lib.hid hRA))
  rw [hRB, hRA] at hno
  rw [hn] at CC CA ⊢
  clear hr hl hn hRB hRA
  unfold brv
  go_enter Tryz.func30, Tryz.ntmps30
  go_wp2_with fail
  (with_reducible refine CC.out.mono ?_)
  rintro e w1 ⟨a', cap', rfl, hcap, hown, hb1⟩
  have B1 := Lib.hid (bw_trans B0.out hb1)
  have K1 := Lib.hid (K0.out.next hb1)
  have O1 := Lib.hid (own_prow hown)
  obtain ⟨k0, k1, k2, k3, k4⟩ := K1.out.cells
  clear hb1 hown CC B0 K0
  cases RB with
  | false =>
    clear hno CA
    go_wp2_with (go_at_call 59; (with_reducible refine (CB.out _).mono ?_); rintro e w2 ⟨rfl, hb2⟩)
    go_ret2
    exact ⟨a', cap', rfl, hcap, O1.out.next hb2, bw_trans B1.out hb2⟩
  | true =>
    obtain rfl : RA = false := by simpa using hno
    clear hno
    go_wp2_with (first
      | (go_at_call 59; (with_reducible refine (CB.out _).mono ?_); rintro e w2 ⟨rfl, hb2⟩; have B2 := Lib.hid (bw_trans B1.out hb2); have O2 := Lib.hid (O1.out.next hb2); clear hb2)
      | (go_at_call 60; (with_reducible refine (CA.out _ (HR.out.next B2.out)).mono ?_); rintro e w3 ⟨rfl, hb3⟩))
    go_ret2
    exact ⟨a', cap', rfl, hcap, O2.out.next hb3, bw_trans B2.out hb3⟩
end Go.Proofs.YtldobcfejldbiaaGreatDoor
