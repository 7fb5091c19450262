/-
  Layer 9: Hear.
-/
import Derived.Test.YtanciemiinbgmaaMiG
namespace Go.Proofs.Ytanciemiinbgmaa
set_option linter.unusedVariables false
set_option linter.unusedSimpArgs false
open Go.RowKit Go.Maps Pm Mm

/-- The world in which Hear has its three variables. -/
def boxW (w : World) (b : Nat) (r d : Int) : World := ((w.alloc (.cells #[.pointer (some ⟨b, 0, none⟩)] 31)).alloc (.cells #[.int .i64 r] 3)).alloc (.cells #[.int .i64 d] 3)
theorem box_below (w : World) (b : Nat) (r d : Int) : Below w.heap.size w (boxW w b r d) := bw_alloc (bw_alloc (below_box _ _) _) _
theorem box_caps {w : World} {b : Nat} (hb : b < w.heap.size) (r d : Int) : Caps (boxW w b r d) b (w.heap.size + 1) (w.heap.size + 2) w.heap.size r d := by
  have k0 := one_new 31 w (.pointer (some ⟨b, 0, none⟩))
  have k1 := one_new 3 (w.alloc (.cells #[.pointer (some ⟨b, 0, none⟩)] 31)) (.int .i64 r)
  have k2 := one_new 3 ((w.alloc (.cells #[.pointer (some ⟨b, 0, none⟩)] 31)).alloc (.cells #[.int .i64 r] 3)) (.int .i64 d)
  rw [size_box] at k1
  rw [size_box, size_box] at k2
  exact ⟨k1.next (below_box _ _), k2, (k0.next (below_box _ _)).next (below_box _ _), by omega, by omega, by omega⟩
theorem IsG.lt {w : World} {b mb : Nat} {a : Option Addr} {len cap : Nat} {g : Gd} (h : IsG w b mb a len cap g) : b < w.heap.size := h.blk.lt

set_option maxRecDepth 20000 in
set_option maxHeartbeats 1000000 in
theorem hear_range (b mb : Nat) (a : Option Addr) (len cap : Nat) (g : Gd) (r d t : Int) (w : World) (h : IsG w b mb a len cap g) (hn : ¬ (vlanB r = true ∧ vlanB d = true ∧ timeB t = true)) :
    Calls Try.prog 9 #[.pointer (some ⟨b, 0, none⟩), .int .i64 r, .int .i64 d, .int .i64 t] w fun e w' => e = .returned (.int .i64 1) ∧ IsG w' b mb a len cap g ∧ Kept2 b mb w w' := by
  have hB := box_below w b r d
  have hC := box_caps h.lt r d
  have HG := Lib.hid (h.next hB)
  have r0 := hC.r_.cell
  have d0 := hC.d_.cell
  have g0 := hC.g_.cell
  have HK := Lib.hid hB
  clear h hB hC
  unfold boxW at r0 d0 g0
  cases hr : vlanB r with
  | false =>
    have HR := Lib.hid hr
    clear hr hn
    go_enter Try.func9, Try.ntmps9
    go_wp2_with (go_at_call 26; refine (mvlan_any r _).mono ?_; rintro e w' ⟨rfl, rfl⟩; rw [HR.out])
    go_ret
    exact ⟨rfl, HG.out, kept2_below HK.out⟩
  | true =>
    cases hd : vlanB d with
    | false =>
      have HR := Lib.hid hr
      have HD := Lib.hid hd
      clear hr hd hn
      go_enter Try.func9, Try.ntmps9
      go_wp2_with (first
        | (go_at_call 26; refine (mvlan_any r _).mono ?_; rintro e w' ⟨rfl, rfl⟩; rw [HR.out])
        | (go_at_call 26; refine (mvlan_any d _).mono ?_; rintro e w' ⟨rfl, rfl⟩; rw [HD.out]))
      go_ret
      exact ⟨rfl, HG.out, kept2_below HK.out⟩
    | true =>
      have ht : timeB t = false := by
        cases ht : timeB t with
        | false => rfl
        | true => exact absurd ⟨hr, hd, ht⟩ hn
      have HR := Lib.hid hr
      have HD := Lib.hid hd
      have HT := Lib.hid ht
      clear hr hd hn ht
      go_enter Try.func9, Try.ntmps9
      go_wp2_with (first
        | (go_at_call 26; refine (mvlan_any r _).mono ?_; rintro e w' ⟨rfl, rfl⟩; rw [HR.out])
        | (go_at_call 26; refine (mvlan_any d _).mono ?_; rintro e w' ⟨rfl, rfl⟩; rw [HD.out])
        | (go_at_call 27; refine (mtime_any t _).mono ?_; rintro e w' ⟨rfl, rfl⟩; rw [HT.out]))
      go_ret
      exact ⟨rfl, HG.out, kept2_below HK.out⟩

set_option maxRecDepth 20000 in
set_option maxHeartbeats 1000000 in
theorem hear_none (b mb : Nat) (a : Option Addr) (len cap : Nat) (g : Gd) (r d t : Int) (w : World) (h : IsG w b mb a len cap g) (hr : vlanB r = true) (hd : vlanB d = true) (ht : timeB t = true) (hh : hasB g.po r = false) :
    Calls Try.prog 9 #[.pointer (some ⟨b, 0, none⟩), .int .i64 r, .int .i64 d, .int .i64 t] w fun e w' => e = .returned (.int .i64 5) ∧ IsG w' b mb a len cap g ∧ Kept2 b mb w w' := by
  obtain ⟨pt, hpt⟩ : ∃ pt, g.po.trunk = pt := ⟨_, rfl⟩
  obtain ⟨pn, hpn⟩ : ∃ pn, g.po.native = pn := ⟨_, rfl⟩
  obtain ⟨pl, hpl⟩ : ∃ pl, g.po.allowed = pl := ⟨_, rfl⟩
  have hpo : (⟨pt, pn, pl⟩ : Po) = g.po := by rw [← hpt, ← hpn, ← hpl]
  have hB := box_below w b r d
  have hC := box_caps h.lt r d
  have hG := h.next hB
  have hH := Lib.hid (has_any pt pn a len cap pl r (boxW w b r d).drew (hpl ▸ hG.row.next ((Below.refl _ _).drew)))
  rw [show hasB ⟨pt, pn, pl⟩ r = false from hpo ▸ hh] at hH
  have HG := Lib.hid hG
  have r0 := hC.r_.cell
  have d0 := hC.d_.cell
  have g0 := hC.g_.cell
  obtain ⟨c0, c1, c2, _⟩ := hG.blk.cells
  simp only [hpt, hpn] at c0 c1 c2
  have HK := Lib.hid hB
  have HR := Lib.hid hr
  have HD := Lib.hid hd
  have HT := Lib.hid ht
  clear hpt hpn hpl hpo h hr hd ht hh
  obtain ⟨W, hW⟩ : ∃ W, W = boxW w b r d := ⟨_, rfl⟩
  have lg := hC.g_.lt
  have lr := hC.r_.lt
  have lb := hG.lt
  have g1 := g0
  have r1 := r0
  have d1 := d0
  unfold boxW at g1 r1 d1
  rw [← hW] at hH HG HK r0 d0 g0 c0 c1 c2 lg lr lb
  unfold boxW at hW
  have HW := Lib.hid hW
  have S0 := And.intro g0 (And.intro r0 (And.intro c0 (And.intro c1 c2)))
  have S1 : W.drew.cell? ⟨w.heap.size, 0, none⟩ = _ ∧ W.drew.cell? ⟨w.heap.size + 1, 0, none⟩ = _ ∧ W.drew.cell? ⟨b, 0, none⟩ = _ ∧ W.drew.cell? ⟨b, 1, none⟩ = _ ∧ W.drew.cell? ⟨b, 2, none⟩ = _ := ⟨g0, r0, c0, c1, c2⟩
  have HS := Lib.hid (fun w' (hb : Below W.heap.size W.drew w') => And.intro ((hb.cell (p := ⟨w.heap.size, 0, none⟩) lg).trans S1.1) (And.intro ((hb.cell (p := ⟨w.heap.size + 1, 0, none⟩) lr).trans S1.2.1) (And.intro ((hb.cell (p := ⟨b, 0, none⟩) lb).trans S1.2.2.1) (And.intro ((hb.cell (p := ⟨b, 1, none⟩) lb).trans S1.2.2.2.1) ((hb.cell (p := ⟨b, 2, none⟩) lb).trans S1.2.2.2.2)))))
  clear hW g0 c0 c1 c2 d0 r0 hB hC hG lg lr lb
  go_enter Try.func9, Try.ntmps9
  go_upto_region 3 with (first
    | (go_at_call 26; refine (mvlan_any r _).mono ?_; rintro e w' ⟨rfl, rfl⟩; rw [HR.out])
    | (go_at_call 26; refine (mvlan_any d _).mono ?_; rintro e w' ⟨rfl, rfl⟩; rw [HD.out])
    | (go_at_call 27; refine (mtime_any t _).mono ?_; rintro e w' ⟨rfl, rfl⟩; rw [HT.out]))
  rw [← HW.out]
  obtain ⟨gp, hgp⟩ : ∃ gp, gp = w.heap.size := ⟨_, rfl⟩
  rw [← hgp] at S0 S1 HS ⊢
  clear hgp g1 r1 d1
  go_region_held3 (fun w' => w'.cell? ⟨gp, 0, none⟩ = some (.pointer (some ⟨b, 0, none⟩)) ∧ w'.cell? ⟨gp + 1, 0, none⟩ = some (.int .i64 r) ∧ w'.cell? ⟨b, 0, none⟩ = some (.bool pt) ∧ w'.cell? ⟨b, 1, none⟩ = some (.int .i64 pn) ∧ w'.cell? ⟨b, 2, none⟩ = some (.slice a len cap)) (first | exact S0 | exact S1 | exact T0) (first | (go_at_call 19; (with_reducible refine (hH.out).mono ?_); rintro e y0 ⟨rfl, hb0⟩; have T0 := HS.out y0 hb0))
  all_goals go_wp2_with fail
  all_goals go_ret
  all_goals (
    have hB : Below W.heap.size W y0 := ((Below.refl _ _).drew).trans hb0
    exact ⟨rfl, HG.out.next hB, kept2_below (bw_trans HK.out hB)⟩)

theorem caps_kept {w w' : World} {b mb gp : Nat} {r d : Int} (h : Caps w b (gp + 1) (gp + 2) gp r d) (hm : mb < gp) (hk : Kept2 b mb w w') : Caps w' b (gp + 1) (gp + 2) gp r d :=
  ⟨h.r_.same (hk.block _ h.r_.lt h.nr (by omega)), h.d_.same (hk.block _ h.d_.lt h.nd (by omega)), h.g_.same (hk.block _ h.g_.lt h.ng (by omega)), h.nr, h.nd, h.ng⟩
theorem caps_next {w w' : World} {b rp dp gp : Nat} {r d : Int} (h : Caps w b rp dp gp r d) (hb : Below w.heap.size w w') : Caps w' b rp dp gp r d :=
  h.same fun i hi _ => hb.block i hi

set_option maxRecDepth 20000 in
set_option maxHeartbeats 1000000 in
theorem hear_same (b mb : Nat) (a : Option Addr) (len cap : Nat) (g : Gd) (r d t : Int) (w : World) (h : IsG w b mb a len cap g) (hr : vlanB r = true) (hd : vlanB d = true) (ht : timeB t = true) (hh : hasB g.po r = true) (hx : g.po.trunk = true ∧ r = d) :
    Calls Try.prog 9 #[.pointer (some ⟨b, 0, none⟩), .int .i64 r, .int .i64 d, .int .i64 t] w fun e w' => e = .returned (.int .i64 0) ∧ IsG w' b mb a len cap (atG g t) ∧ Kept2 b mb w w' := by
  obtain ⟨pt, hpt⟩ : ∃ pt, g.po.trunk = pt := ⟨_, rfl⟩
  obtain ⟨pn, hpn⟩ : ∃ pn, g.po.native = pn := ⟨_, rfl⟩
  obtain ⟨pl, hpl⟩ : ∃ pl, g.po.allowed = pl := ⟨_, rfl⟩
  have hpo : (⟨pt, pn, pl⟩ : Po) = g.po := by rw [← hpt, ← hpn, ← hpl]
  have hB := box_below w b r d
  have hC := box_caps h.lt r d
  have hG := h.next hB
  have hH := Lib.hid (has_any pt pn a len cap pl r (boxW w b r d).drew (hpl ▸ hG.row.next ((Below.refl _ _).drew)))
  rw [show hasB ⟨pt, pn, pl⟩ r = true from hpo ▸ hh] at hH
  have HG := Lib.hid hG
  have r0 := hC.r_.cell
  have d0 := hC.d_.cell
  have g0 := hC.g_.cell
  obtain ⟨c0, c1, c2, _⟩ := hG.blk.cells
  simp only [hpt, hpn] at c0 c1 c2
  have HK := Lib.hid hB
  have HR := Lib.hid hr
  have HD := Lib.hid hd
  have HT := Lib.hid ht
  have HLT := Lib.hid (And.intro h.lt h.mlt)
  have HC := Lib.hid hC
  have HX := Lib.hid hx
  clear hpt hpn hpl hpo h hr hd ht hh hx
  obtain ⟨W, hW⟩ : ∃ W, W = boxW w b r d := ⟨_, rfl⟩
  have lg := hC.g_.lt
  have lr := hC.r_.lt
  have lb := hG.lt
  have g1 := g0
  have r1 := r0
  have d1 := d0
  unfold boxW at g1 r1 d1
  rw [← hW] at hH HG HK HC r0 d0 g0 c0 c1 c2 lg lr lb
  unfold boxW at hW
  have HW := Lib.hid hW
  have S0 := And.intro g0 (And.intro r0 (And.intro c0 (And.intro c1 c2)))
  have S1 : W.drew.cell? ⟨w.heap.size, 0, none⟩ = _ ∧ W.drew.cell? ⟨w.heap.size + 1, 0, none⟩ = _ ∧ W.drew.cell? ⟨b, 0, none⟩ = _ ∧ W.drew.cell? ⟨b, 1, none⟩ = _ ∧ W.drew.cell? ⟨b, 2, none⟩ = _ := ⟨g0, r0, c0, c1, c2⟩
  have HS := Lib.hid (fun w' (hb : Below W.heap.size W.drew w') => And.intro ((hb.cell (p := ⟨w.heap.size, 0, none⟩) lg).trans S1.1) (And.intro ((hb.cell (p := ⟨w.heap.size + 1, 0, none⟩) lr).trans S1.2.1) (And.intro ((hb.cell (p := ⟨b, 0, none⟩) lb).trans S1.2.2.1) (And.intro ((hb.cell (p := ⟨b, 1, none⟩) lb).trans S1.2.2.2.1) ((hb.cell (p := ⟨b, 2, none⟩) lb).trans S1.2.2.2.2)))))
  clear hW g0 c0 c1 c2 d0 r0 hB hC hG lg lr lb
  go_enter Try.func9, Try.ntmps9
  go_upto_region 3 with (first
    | (go_at_call 26; refine (mvlan_any r _).mono ?_; rintro e w' ⟨rfl, rfl⟩; rw [HR.out])
    | (go_at_call 26; refine (mvlan_any d _).mono ?_; rintro e w' ⟨rfl, rfl⟩; rw [HD.out])
    | (go_at_call 27; refine (mtime_any t _).mono ?_; rintro e w' ⟨rfl, rfl⟩; rw [HT.out]))
  rw [← HW.out]
  obtain ⟨gp, hgp⟩ : ∃ gp, gp = w.heap.size := ⟨_, rfl⟩
  rw [← hgp] at S0 S1 HS HC HLT ⊢
  clear hgp g1 r1 d1
  go_region_held3 (fun w' => w'.cell? ⟨gp, 0, none⟩ = some (.pointer (some ⟨b, 0, none⟩)) ∧ w'.cell? ⟨gp + 1, 0, none⟩ = some (.int .i64 r) ∧ w'.cell? ⟨b, 0, none⟩ = some (.bool pt) ∧ w'.cell? ⟨b, 1, none⟩ = some (.int .i64 pn) ∧ w'.cell? ⟨b, 2, none⟩ = some (.slice a len cap)) (first | exact S0 | exact S1 | exact T0) (first | (go_at_call 19; (with_reducible refine (hH.out).mono ?_); rintro e y0 ⟨rfl, hb0⟩; have T0 := HS.out y0 hb0))
  have hB : Below W.heap.size W y0 := ((Below.refl _ _).drew).trans hb0
  have G0 := Lib.hid (HG.out.next hB)
  have C0 := Lib.hid (caps_next HC.out hB)
  have K0 := Lib.hid (kept2_below (tb := b) (mb := mb) (bw_trans HK.out hB))
  have g0 := C0.out.g_.cell
  clear T0 HG HC HK hb0 hB HS S0 S1 hH
  go_wp2_with fail
  (with_reducible refine (goOn_w b mb a len cap g t y0 G0.out HT.out).mono ?_)
  rintro e y1 ⟨rfl, hg1, k1⟩
  have C1 := Lib.hid (caps_kept C0.out HLT.out.2 k1)
  have G1 := Lib.hid hg1
  have K1 := Lib.hid (K0.out.trans k1)
  clear hg1 k1 g0
  have g0 := C1.out.g_.cell
  have r0 := C1.out.r_.cell
  have d0 := C1.out.d_.cell
  have hA := agrees_w b mb a len cap (atG g t) r d y1 G1.out
  rw [at_po, decide_eq_true HX.out] at hA
  have HA := Lib.hid hA
  clear hA
  go_wp2_with fail
  (with_reducible refine (HA.out).mono ?_)
  rintro e w' ⟨rfl, rfl⟩
  go_wp2
  go_ret
  exact ⟨rfl, G1.out, K1.out⟩
end Go.Proofs.Ytanciemiinbgmaa
