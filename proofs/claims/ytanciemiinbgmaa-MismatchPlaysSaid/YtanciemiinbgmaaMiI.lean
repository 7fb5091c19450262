/-
  Layer 9: Hear, where something comes to be inconsistent; Hear, whatever it hears.
-/
import Derived.Test.YtanciemiinbgmaaMiH
namespace Go.Proofs.Ytanciemiinbgmaa
set_option linter.unusedVariables false
set_option linter.unusedSimpArgs false
open Go.RowKit Go.Maps Pm Mm

theorem do_w (b mb gp : Nat) (r d : Int) (s : Gs) (w : World) (h : GBlk w b s) (hc : Caps w b (gp + 1) (gp + 2) gp r d) (hs : s.state = 0) (hd : s.done = 0 ∨ s.done = 1) :
    Calls Try.prog 31 #[.pointer (some ⟨b, 7, none⟩), .func (.func 32) #[] #[.pointer (some ⟨gp + 1, 0, none⟩), .pointer (some ⟨gp + 2, 0, none⟩), .pointer (some ⟨gp, 0, none⟩)]] w fun e w' =>
      e = .returned (.tuple #[]) ∧ GBlk w' b { s with done := 1, r := if s.done = 0 then r else s.r, d := if s.done = 0 then d else s.d } ∧ Kept2 b mb w w' ∧ w'.heap[mb]? = w.heap[mb]? ∨ mb = b := by
  by_cases hmb : mb = b
  · by_cases h0 : s.done = 0
    · refine (do_first b _ _ _ r d s w h hc h0 hs).mono ?_
      rintro e w' ⟨rfl, rfl⟩
      exact .inr hmb
    · refine (do_done ⟨b, 7, none⟩ s.done h0 _ w h.cells.2.2.2.2.2.2.2.1).mono ?_
      rintro e w' ⟨rfl, rfl⟩
      exact .inr hmb
  · by_cases h0 : s.done = 0
    · refine (do_first b _ _ _ r d s w h hc h0 hs).mono ?_
      rintro e w' ⟨rfl, rfl⟩
      refine .inl ⟨rfl, ?_, once_kept w b mb r d, ?_⟩
      · rw [if_pos h0, if_pos h0]; exact once_blk h r d hs
      · unfold onceW
        rw [Below.heap_setCell _ ⟨b, 8, none⟩ _ mb hmb, Below.heap_setCell _ ⟨b, 7, none⟩ _ mb hmb]
        show ((((w.setCell ⟨b, 8, none⟩ (.int .i32 1)).setCell ⟨b, 10, none⟩ (.int .i64 r)).setCell ⟨b, 11, none⟩ (.int .i64 d))).heap[mb]? = _
        rw [Below.heap_setCell _ ⟨b, 11, none⟩ _ mb hmb, Below.heap_setCell _ ⟨b, 10, none⟩ _ mb hmb, Below.heap_setCell _ ⟨b, 8, none⟩ _ mb hmb]
    · refine (do_done ⟨b, 7, none⟩ s.done h0 _ w h.cells.2.2.2.2.2.2.2.1).mono ?_
      rintro e w' ⟨rfl, rfl⟩
      refine .inl ⟨rfl, ?_, Kept2.refl _ _ _, rfl⟩
      rw [if_neg h0, if_neg h0]
      have h1 : s.done = 1 := by rcases hd with e | e; exact absurd e h0; exact e
      have e : ({ s with done := 1 } : Gs) = s := by rw [← h1]
      exact e.symm ▸ h

/-- The two that are told now. -/
theorem told_now {p : Po} {r d : Int} (hr : hasB p r = true) (v : Int) : v ∈ (addL p r d 0).map He.vlan ↔ (hasB p d = true ∧ v = d) ∨ v = r := by
  have hn : p.trunk = false → r = p.native := has_native hr
  unfold addL
  cases ht : p.trunk with
  | true =>
    simp only [if_true]
    cases hd : hasB p d with
    | true => simp; exact ⟨fun h => h.symm, fun h => h.symm⟩
    | false => simp
  | false =>
    simp only [Bool.false_eq_true, if_false, List.map_cons, List.map_nil, List.mem_singleton]
    have e := hn ht
    constructor
    · intro h; right; rw [h, e]
    · rintro (⟨h1, h2⟩ | h)
      · rw [h2]; exact has_native h1 ht
      · rw [h, e]

/-- Behind both calls of block. -/
theorem more_is {w : World} {b mb : Nat} {a : Option Addr} {len cap : Nat} {G : Gd} {r d : Int} {f : Int → Int} {s : Gs} (hG : GOk G) (hS : Says G f) (hr : vlanB r = true) (hd : vlanB d = true) (hh : hasB G.po r = true) (hx : ¬ (G.po.trunk = true ∧ r = d))
    (hs : s = ⟨G.po.trunk, G.po.native, a, len, cap, G.hello, G.now, mb, (G.many : Int) + 1, 1, 0, if (if G.many = 0 then (0 : Int) else 1) = 0 then r else G.first, if (if G.many = 0 then (0 : Int) else 1) = 0 then d else G.told⟩)
    (hb : GBlk w b s) (hrow : IsRow w a len G.po.allowed) (ha : Away a b mb) (hm : IsMm w mb (putF (hasB G.po d) (putF (hasB G.po r) f r (G.now + 3 * G.hello)) d (G.now + 3 * G.hello)) (2 * G.many + 1 + 1)) :
    IsG w b mb a len cap (moreG G r d) := by
  refine ⟨?_, hrow, ha, ⟨_, hm, ?_⟩, more_ok hG hr hd⟩
  · have e : s = ⟨(moreG G r d).po.trunk, (moreG G r d).po.native, a, len, cap, (moreG G r d).hello, (moreG G r d).now, mb, ((moreG G r d).many : Int), if (moreG G r d).many = 0 then 0 else 1, 0, (moreG G r d).first, (moreG G r d).told⟩ := by
      rw [hs]
      have e1 : (moreG G r d).many = G.many + 1 := rfl
      rw [e1, if_neg (Nat.succ_ne_zero _)]
      have hf := hG.first
      have e2 : (moreG G r d).first = if G.first = 0 then r else G.first := rfl
      have e3 : (moreG G r d).told = if G.first = 0 then d else G.told := rfl
      rw [e2, e3]
      by_cases h0 : G.many = 0
      · rw [if_pos h0, if_pos rfl, if_pos rfl, if_pos (hf.2 h0), if_pos (hf.2 h0), h0]
        rfl
      · rw [if_neg h0, if_neg (by decide), if_neg (by decide), if_neg (fun e => h0 (hf.1 e)), if_neg (fun e => h0 (hf.1 e))]
        rfl
    rw [← e]; exact hb
  · refine says_more hG hS (fun v hv => ?_) (fun v hv => ?_)
    · rw [told_now hh] at hv
      unfold putF
      rw [hh, if_pos rfl]
      cases hdd : hasB G.po d with
      | true =>
        rw [if_pos rfl]
        by_cases e : v = d
        · rw [if_pos e]
        · rw [if_neg e]
          rcases hv with ⟨_, h⟩ | h
          · exact absurd h e
          · rw [if_pos h]
      | false =>
        rw [if_neg Bool.false_ne_true]
        rcases hv with ⟨h1, _⟩ | h
        · rw [hdd] at h1; cases h1
        · rw [if_pos h]
    · rw [told_now hh] at hv
      unfold putF
      rw [hh, if_pos rfl]
      have h2 : ¬ v = r := fun e => hv (.inr e)
      cases hdd : hasB G.po d with
      | true =>
        rw [if_pos rfl]
        rw [if_neg (fun e => hv (.inl ⟨hdd, e⟩)), if_neg h2]
      | false =>
        rw [if_neg Bool.false_ne_true, if_neg h2]

set_option maxRecDepth 20000 in
set_option maxHeartbeats 2000000 in
theorem hear_more (b mb : Nat) (a : Option Addr) (len cap : Nat) (g : Gd) (r d t : Int) (w : World) (h : IsG w b mb a len cap g) (hr : vlanB r = true) (hd : vlanB d = true) (ht : timeB t = true) (hh : hasB g.po r = true) (hx : ¬ (g.po.trunk = true ∧ r = d)) (hmany : g.many ≤ 1000) :
    Calls Try.prog 9 #[.pointer (some ⟨b, 0, none⟩), .int .i64 r, .int .i64 d, .int .i64 t] w fun e w' => e = .returned (.int .i64 0) ∧ IsG w' b mb a len cap (moreG (atG g t) r d) ∧ Kept2 b mb w w' := by
  have HH := Lib.hid (show hasB (atG g t).po r = true by rw [at_po]; exact hh)
  have HX2 := Lib.hid (show ¬ ((atG g t).po.trunk = true ∧ r = d) by rw [at_po]; exact hx)
  have HMa := Lib.hid (show (atG g t).many ≤ 1000 by rw [at_many]; exact hmany)
  obtain ⟨pt, hpt⟩ : ∃ pt, g.po.trunk = pt := ⟨_, rfl⟩
  obtain ⟨pn, hpn⟩ : ∃ pn, g.po.native = pn := ⟨_, rfl⟩
  obtain ⟨pl, hpl⟩ : ∃ pl, g.po.allowed = pl := ⟨_, rfl⟩
  have hpo : (⟨pt, pn, pl⟩ : Po) = g.po := by rw [← hpt, ← hpn, ← hpl]
  have hB := box_below w b r d
  have hC := box_caps h.lt r d
  have hG := h.next hB
  have hH := Lib.hid (has_any pt pn a len cap pl r (boxW w b r d).drew (hpl ▸ hG.row.next ((Below.refl _ _).drew)))
  rw [show hasB ⟨pt, pn, pl⟩ r = true from hpo ▸ hh] at hH
  have HG := Lib.hid hG
  have r0 := hC.r_.cell
  have d0 := hC.d_.cell
  have g0 := hC.g_.cell
  obtain ⟨c0, c1, c2, _⟩ := hG.blk.cells
  simp only [hpt, hpn] at c0 c1 c2
  have HK := Lib.hid hB
  have HR := Lib.hid hr
  have HD := Lib.hid hd
  have HT := Lib.hid ht
  have HLT := Lib.hid (And.intro h.lt h.mlt)
  have HC := Lib.hid hC
  have HX := Lib.hid hx
  clear hpt hpn hpl hpo h hr hd ht hh hx
  obtain ⟨W, hW⟩ : ∃ W, W = boxW w b r d := ⟨_, rfl⟩
  have lg := hC.g_.lt
  have lr := hC.r_.lt
  have lb := hG.lt
  have g1 := g0
  have r1 := r0
  have d1 := d0
  unfold boxW at g1 r1 d1
  rw [← hW] at hH HG HK HC r0 d0 g0 c0 c1 c2 lg lr lb
  unfold boxW at hW
  have HW := Lib.hid hW
  have S0 := And.intro g0 (And.intro r0 (And.intro c0 (And.intro c1 c2)))
  have S1 : W.drew.cell? ⟨w.heap.size, 0, none⟩ = _ ∧ W.drew.cell? ⟨w.heap.size + 1, 0, none⟩ = _ ∧ W.drew.cell? ⟨b, 0, none⟩ = _ ∧ W.drew.cell? ⟨b, 1, none⟩ = _ ∧ W.drew.cell? ⟨b, 2, none⟩ = _ := ⟨g0, r0, c0, c1, c2⟩
  have HS := Lib.hid (fun w' (hb : Below W.heap.size W.drew w') => And.intro ((hb.cell (p := ⟨w.heap.size, 0, none⟩) lg).trans S1.1) (And.intro ((hb.cell (p := ⟨w.heap.size + 1, 0, none⟩) lr).trans S1.2.1) (And.intro ((hb.cell (p := ⟨b, 0, none⟩) lb).trans S1.2.2.1) (And.intro ((hb.cell (p := ⟨b, 1, none⟩) lb).trans S1.2.2.2.1) ((hb.cell (p := ⟨b, 2, none⟩) lb).trans S1.2.2.2.2)))))
  clear hW g0 c0 c1 c2 d0 r0 hB hC hG lg lr lb
  go_enter Try.func9, Try.ntmps9
  go_upto_region 3 with (first
    | (go_at_call 26; refine (mvlan_any r _).mono ?_; rintro e w' ⟨rfl, rfl⟩; rw [HR.out])
    | (go_at_call 26; refine (mvlan_any d _).mono ?_; rintro e w' ⟨rfl, rfl⟩; rw [HD.out])
    | (go_at_call 27; refine (mtime_any t _).mono ?_; rintro e w' ⟨rfl, rfl⟩; rw [HT.out]))
  rw [← HW.out]
  obtain ⟨gp, hgp⟩ : ∃ gp, gp = w.heap.size := ⟨_, rfl⟩
  rw [← hgp] at S0 S1 HS HC HLT ⊢
  clear hgp g1 r1 d1
  go_region_held3 (fun w' => w'.cell? ⟨gp, 0, none⟩ = some (.pointer (some ⟨b, 0, none⟩)) ∧ w'.cell? ⟨gp + 1, 0, none⟩ = some (.int .i64 r) ∧ w'.cell? ⟨b, 0, none⟩ = some (.bool pt) ∧ w'.cell? ⟨b, 1, none⟩ = some (.int .i64 pn) ∧ w'.cell? ⟨b, 2, none⟩ = some (.slice a len cap)) (first | exact S0 | exact S1 | exact T0) (first | (go_at_call 19; (with_reducible refine (hH.out).mono ?_); rintro e y0 ⟨rfl, hb0⟩; have T0 := HS.out y0 hb0))
  have hB : Below W.heap.size W y0 := ((Below.refl _ _).drew).trans hb0
  have G0 := Lib.hid (HG.out.next hB)
  have C0 := Lib.hid (caps_next HC.out hB)
  have K0 := Lib.hid (kept2_below (tb := b) (mb := mb) (bw_trans HK.out hB))
  have g0 := C0.out.g_.cell
  clear T0 HG HC HK hb0 hB HS S0 S1 hH
  go_wp2_with fail
  (with_reducible refine (goOn_w b mb a len cap g t y0 G0.out HT.out).mono ?_)
  rintro e y1 ⟨rfl, hg1, k1⟩
  have C1 := Lib.hid (caps_kept C0.out HLT.out.2 k1)
  have G1 := Lib.hid hg1
  have K1 := Lib.hid (K0.out.trans k1)
  clear hg1 k1 g0
  have g0 := C1.out.g_.cell
  have r0 := C1.out.r_.cell
  have d0 := C1.out.d_.cell
  have hA := agrees_w b mb a len cap (atG g t) r d y1 G1.out
  rw [at_po, decide_eq_false HX.out] at hA
  have HA := Lib.hid hA
  clear hA
  go_wp2_with fail
  (with_reducible refine (HA.out).mono ?_)
  rintro e w' ⟨rfl, rfl⟩
  have hOk := Lib.hid G1.out.ok
  have hNe := Lib.hid G1.out.ne
  obtain ⟨f, hm1, hS⟩ := G1.out.map
  have HS1 := Lib.hid hS
  have M1 := Lib.hid hm1
  have R1 := Lib.hid G1.out.row
  have hAw := Lib.hid G1.out.away
  have B1 := Lib.hid G1.out.blk
  obtain ⟨G, hG⟩ : ∃ G, atG g t = G := ⟨_, rfl⟩
  have HGe := Lib.hid hG
  rw [hG] at hOk HS1 M1 R1 B1 HH HX2 HMa
  have hma0 : (0 : Int) ≤ G.many := Int.natCast_nonneg _
  have hma1 : (G.many : Int) ≤ 1000000000 := by have := HMa.out; omega
  clear hS hm1 G1 HA hG d0 r0 HX
  -- Add
  have c6 := B1.out.cells.2.2.2.2.2.2.1
  have f6 := B1.out.free 6
  have hAdd := Lib.hid (add_any b 6 G.many y1 hma0 hma1 c6 f6)
  clear c6 f6 hma0 hma1
  go_wp2_with fail
  (with_reducible refine (hAdd.out).mono ?_)
  rintro e y2 ⟨rfl, hy2⟩
  have B2 := B1.out.heard_ ((G.many : Int) + 1)
  rw [hy2] at B2
  have k2 := kept2_set (tb := b) (mb := mb) y1 6 (.int .i64 ((G.many : Int) + 1))
  rw [hy2] at k2
  have hmb2 := Below.heap_setCell y1 ⟨b, 6, none⟩ (.int .i64 ((G.many : Int) + 1)) mb (Ne.symm hNe.out)
  rw [hy2] at hmb2
  have M2 := Lib.hid (M1.out.same hmb2)
  have R2 := Lib.hid (row_kept R1.out hAw.out k2)
  have C2 := Lib.hid (caps_kept C1.out HLT.out.2 k2)
  have K2 := Lib.hid (K1.out.trans k2)
  have HB2 := Lib.hid B2
  clear hy2 B2 k2 hmb2 B1 M1 R1 C1 K1 hAdd g0
  have g0 := C2.out.g_.cell
  -- Do
  have hDo := Lib.hid (do_w b mb gp r d _ y2 HB2.out C2.out rfl (by show (if G.many = 0 then (0 : Int) else 1) = 0 ∨ (if G.many = 0 then (0 : Int) else 1) = 1; by_cases h0 : G.many = 0; exact .inl (if_pos h0); exact .inr (if_neg h0)))
  have hmf : ∀ (fn : Fn) (first cap : Array Value) (w : World), (Instr.makeFunc fn first cap).run Try.prog w = .ok (.func fn first cap) w := fun _ _ _ _ => rfl
  go_wp2_with fail
  (with_reducible refine (hDo.out).mono ?_)
  rintro e y3 hor
  rcases hor with ⟨rfl, b3, k3, m3⟩ | hbad
  case inr => exact absurd hbad (Ne.symm hNe.out)
  have M3 := Lib.hid (M2.out.same m3)
  have R3 := Lib.hid (row_kept R2.out hAw.out k3)
  have C3 := Lib.hid (caps_kept C2.out HLT.out.2 k3)
  have K3 := Lib.hid (K2.out.trans k3)
  obtain ⟨s, hs⟩ : ∃ s, s = (⟨G.po.trunk, G.po.native, a, len, cap, G.hello, G.now, mb, (G.many : Int) + 1, 1, 0, if (if G.many = 0 then (0 : Int) else 1) = 0 then r else G.first, if (if G.many = 0 then (0 : Int) else 1) = 0 then d else G.told⟩ : Gs) := ⟨_, rfl⟩
  have b3' : GBlk y3 b s := by rw [hs]; exact b3
  have HB3 := Lib.hid b3'
  have Hs := Lib.hid hs
  have N1 := hOk.out.n1
  have N2 := hOk.out.n2
  have N3 := hOk.out.h1
  have N4 := hOk.out.h2
  have HN := Lib.hid (And.intro N1 (And.intro N2 (And.intro N3 N4)))
  clear b3 b3' k3 m3 hDo M2 R2 C2 K2 HB2 g0 N1 N2 N3 N4
  have g0 := C3.out.g_.cell
  have r0 := C3.out.r_.cell
  have d0 := C3.out.d_.cell
  -- block r
  have hBr := block_w b (2 * G.many) s f G.po.allowed r y3 HB3.out (by rw [hs]; exact M3.out) (by rw [hs]; exact R3.out) (by rw [hs]; exact hAw.out) (vlan_i64 HR.out) (by rw [hs]; exact HN.out.1) (by rw [hs]; exact HN.out.2.1) (by rw [hs]; exact HN.out.2.2.1) (by rw [hs]; exact HN.out.2.2.2) (by have := HMa.out; omega)
  have e1 : s.mb = mb := by rw [hs]
  have e2 : (⟨s.t, s.n, G.po.allowed⟩ : Po) = G.po := by rw [hs]
  have e3 : s.now + 3 * s.hello = G.now + 3 * G.hello := by rw [hs]
  rw [e1, e2, e3] at hBr
  have HBr := Lib.hid hBr
  clear hBr hs
  go_wp2_with fail
  (with_reducible refine (HBr.out).mono ?_)
  rintro e y4 ⟨rfl, b4, m4, k4⟩
  have M4 := Lib.hid m4
  have R4 := Lib.hid (row_kept R3.out hAw.out k4)
  have C4 := Lib.hid (caps_kept C3.out HLT.out.2 k4)
  have K4 := Lib.hid (K3.out.trans k4)
  have HB4 := Lib.hid b4
  clear b4 m4 k4 HBr M3 R3 C3 K3 HB3 g0 r0 d0
  have g0 := C4.out.g_.cell
  have r0 := C4.out.r_.cell
  have d0 := C4.out.d_.cell
  have hBd := block_w b (2 * G.many + 1) s _ G.po.allowed d y4 HB4.out (by rw [e1]; exact M4.out) (by rw [Hs.out]; exact R4.out) (by rw [Hs.out]; exact hAw.out) (vlan_i64 HD.out) (by rw [Hs.out]; exact HN.out.1) (by rw [Hs.out]; exact HN.out.2.1) (by rw [Hs.out]; exact HN.out.2.2.1) (by rw [Hs.out]; exact HN.out.2.2.2) (by have := HMa.out; omega)
  rw [e1, e2, e3] at hBd
  have HBd := Lib.hid hBd
  clear hBd
  go_wp2_with fail
  (with_reducible refine (HBd.out).mono ?_)
  rintro e y5 ⟨rfl, b5, m5, k5⟩
  go_wp2
  go_ret
  refine ⟨rfl, ?_, K4.out.trans k5⟩
  rw [HGe.out]
  exact more_is hOk.out HS1.out HR.out HD.out HH.out HX2.out Hs.out b5 (row_kept R4.out hAw.out k5) hAw.out m5

/-- Hear, whatever it hears. -/
theorem hear_w (b mb : Nat) (a : Option Addr) (len cap : Nat) (g : Gd) (r d t : Int) (w : World) (h : IsG w b mb a len cap g) (hmany : g.many ≤ 1000) :
    Calls Try.prog 9 #[.pointer (some ⟨b, 0, none⟩), .int .i64 r, .int .i64 d, .int .i64 t] w fun e w' => e = .returned (.int .i64 (hearG g r d t).2) ∧ IsG w' b mb a len cap (hearG g r d t).1 ∧ Kept2 b mb w w' := by
  have k := hear_is g r d t
  obtain ⟨G, hG⟩ : ∃ G, (hearG g r d t).1 = G := ⟨_, rfl⟩
  obtain ⟨E, hE⟩ : ∃ E, (hearG g r d t).2 = E := ⟨_, rfl⟩
  rw [hG, hE] at k ⊢
  clear hG hE
  cases k with
  | range hn => exact hear_range b mb a len cap g r d t w h hn
  | none h1 h2 h3 h4 => exact hear_none b mb a len cap g r d t w h h1 h2 h3 h4
  | same h1 h2 h3 h4 h5 h6 => exact hear_same b mb a len cap g r d t w h h1 h2 h3 h4 ⟨h5, h6⟩
  | more h1 h2 h3 h4 h5 => exact hear_more b mb a len cap g r d t w h h1 h2 h3 h4 h5 hmany
end Go.Proofs.Ytanciemiinbgmaa
