/-
  Layer 9: the document's Hear, whatever it hears; awake.
-/
import Derived.Test.YtanciemiinbgmaaMiP1
import Derived.Test.YtanciemiinbgmaaMiP2
import Derived.Test.YtanciemiinbgmaaMiP3
namespace Go.Proofs.Ytanciemiinbgmaa
set_option linter.unusedVariables false
set_option linter.unusedSimpArgs false
open Go.RowKit Go.Maps Pm Mm

theorem addL_access {p : Po} {r d u : Int} (h : p.trunk = false) : addL p r d u = [⟨p.native, u⟩] := by unfold addL; rw [h]; rfl
theorem addL_alone {p : Po} {r d u : Int} (h : p.trunk = true) (h2 : hasB p d = false) : addL p r d u = [⟨r, u⟩] := by unfold addL; rw [h, h2]; rfl
theorem addL_both {p : Po} {r d u : Int} (h : p.trunk = true) (h2 : hasB p d = true) : addL p r d u = [⟨r, u⟩, ⟨d, u⟩] := by unfold addL; rw [h, h2]; rfl
theorem addL_len (p : Po) (r d u : Int) : (addL p r d u).length ≤ 2 := by
  unfold addL
  split
  · split <;> simp
  · simp
theorem rhear_w (g : Gd) (a : Option Addr) (len cap : Nat) (la : Option Addr) (lc : Nat) (r d t : Int) (w : World) (h : DMem w g a len la lc) (ok : GOk g) (hf : g.l.length ≤ 900) (hm : g.many ≤ 1000) :
    Calls Try.prog 8 #[dv (dOf g a len cap la lc), .int .i64 r, .int .i64 d, .int .i64 t] w fun e w' => ∃ (la' : Option Addr) (lc' : Nat), e = .returned (.tuple #[dv (dOf (hearG g r d t).1 a len cap la' lc'), .int .i64 (hearG g r d t).2]) ∧ DMem w' (hearG g r d t).1 a len la' lc' ∧ (∀ x, la' = some x → la = some x ∨ w.heap.size ≤ x.block) ∧ Below w.heap.size w w' := by
  have k := hear_is g r d t
  obtain ⟨G, hG⟩ : ∃ G, (hearG g r d t).1 = G := ⟨_, rfl⟩
  obtain ⟨E, hE⟩ : ∃ E, (hearG g r d t).2 = E := ⟨_, rfl⟩
  rw [hG, hE] at k ⊢
  clear hG hE
  cases k with
  | range hn =>
    refine (rhear_range g a len cap la lc r d t w hn).mono ?_
    rintro e w' ⟨rfl, hb⟩
    exact ⟨la, lc, rfl, h.next hb, fun x e => .inl e, hb⟩
  | none h1 h2 h3 h4 =>
    refine (rhear_none_any g.po.trunk g.po.native a len cap g.hello g.now la g.l.length lc g.many g.first g.told g.po.allowed r d t 0 w h.row h1 h2 h3 h4).mono ?_
    rintro e w' ⟨rfl, hb⟩
    exact ⟨la, lc, rfl, h.next hb, fun x e => .inl e, hb⟩
  | same h1 h2 h3 h4 h5 h6 =>
    refine (rhear_same_any g.po.trunk g.po.native a len cap g.hello g.now la g.l.length lc g.many g.first g.told g.po.allowed r d t _ w h.row h1 h2 h3 h4 (Lib.hid rfl) h5 h6).mono ?_
    rintro e w' ⟨rfl, hb⟩
    refine ⟨la, lc, ?_, ?_, fun x e => .inl e, hb⟩
    · unfold dOf
      rw [at_po, at_hello, at_now, at_l, at_many, at_first, at_told]
    · have hn := h.next hb
      exact ⟨by rw [at_po]; exact hn.row, by rw [at_l]; exact hn.hrow, hn.none, by rw [at_l]; exact hn.few⟩
  | more h1 h2 h3 h4 h5 =>
    have okA := at_ok ok t
    have n1 := okA.n1
    have n2 := okA.n2
    have n3 := ok.h1
    have n4 := ok.h2
    rw [at_now] at n1 n2
    have n5 : (0 : Int) ≤ g.many := Int.natCast_nonneg _
    have n6 : (g.many : Int) ≤ 1000 := by omega
    have hu : (moreG (atG g t) r d).l = g.l ++ addL g.po r d ((if timeB t = true ∧ g.now < t then t else g.now) + 3 * g.hello) := by
      show (atG g t).l ++ addL (atG g t).po r d ((atG g t).now + 3 * (atG g t).hello) = _
      rw [at_l, at_po, at_now, at_hello]
    have fin : ∀ (A2 : List He) (e : Ending) (w' : World), addL g.po r d ((if timeB t = true ∧ g.now < t then t else g.now) + 3 * g.hello) = A2 →
        (∃ (la' : Option Addr) (ll' lc' : Nat), e = .returned (.tuple #[dv ⟨g.po.trunk, g.po.native, a, len, cap, g.hello, (if timeB t = true ∧ g.now < t then t else g.now), la', ll', lc', (g.many : Int) + 1, if g.first = 0 then r else g.first, if g.first = 0 then d else g.told⟩, .int .i64 0]) ∧ ll' = (g.l ++ A2).length ∧ HRow w' la' (g.l ++ A2) ∧ (la' = none → lc' = 0) ∧ (∀ x, la' = some x → w.heap.size ≤ x.block) ∧ Below w.heap.size w w') →
        ∃ (la' : Option Addr) (lc' : Nat), e = .returned (.tuple #[dv (dOf (moreG (atG g t) r d) a len cap la' lc'), .int .i64 0]) ∧ DMem w' (moreG (atG g t) r d) a len la' lc' ∧ (∀ x, la' = some x → la = some x ∨ w.heap.size ≤ x.block) ∧ Below w.heap.size w w' := by
      rintro A2 e w' hA ⟨la', ll', lc', rfl, rfl, hr, hn, hnew, hb⟩
      rw [hA] at hu
      have hlen2 : A2.length ≤ 2 := by rw [← hA]; exact addL_len _ _ _ _
      refine ⟨la', lc', ?_, ⟨?_, by rw [hu]; exact hr, hn, by rw [hu, List.length_append]; omega⟩, fun x e => .inr (hnew x e), hb⟩
      · have e1 : dOf (moreG (atG g t) r d) a len cap la' lc' = ⟨g.po.trunk, g.po.native, a, len, cap, g.hello, (if timeB t = true ∧ g.now < t then t else g.now), la', (g.l ++ A2).length, lc', (g.many : Int) + 1, if g.first = 0 then r else g.first, if g.first = 0 then d else g.told⟩ := by
          unfold dOf
          rw [hu]
          show (⟨(atG g t).po.trunk, (atG g t).po.native, a, len, cap, (atG g t).hello, (atG g t).now, la', (g.l ++ A2).length, lc', (((atG g t).many + 1 : Nat) : Int), if (atG g t).first = 0 then r else (atG g t).first, if (atG g t).first = 0 then d else (atG g t).told⟩ : Ds) = _
          rw [at_po, at_hello, at_now, at_many, at_first, at_told]
          rfl
        rw [e1]
      · show IsRow w' a len (atG g t).po.allowed
        rw [at_po]
        exact h.row.next hb
    obtain ⟨⟨pt, pn, pl⟩, hello, now, gl, many, gf, gt⟩ := g
    cases pt with
    | false =>
      have hA := addL_access (p := ⟨false, pn, pl⟩) (r := r) (d := d) (u := (if timeB t = true ∧ now < t then t else now) + 3 * hello) rfl
      have hc := rhear_access pn a len cap hello now la lc many gf gt pl r d t _ w h.row h1 h2 h3 gl h.hrow h.none hf h4 (Lib.hid rfl) trivial n1 n2 n3 n4 n5 n6
      exact hc.mono fun e w' hp => fin _ e w' hA hp
    | true =>
      have hx : ¬ r = d := fun e => h5 ⟨rfl, e⟩
      cases hd : hasB ⟨true, pn, pl⟩ d with
      | false =>
        have hA := addL_alone (p := ⟨true, pn, pl⟩) (r := r) (d := d) (u := (if timeB t = true ∧ now < t then t else now) + 3 * hello) rfl hd
        have hc := rhear_alone pn a len cap hello now la lc many gf gt pl r d t _ w h.row h1 h2 h3 gl h.hrow h.none hf h4 (Lib.hid rfl) hx hd n1 n2 n3 n4 n5 n6
        exact hc.mono fun e w' hp => fin _ e w' hA hp
      | true =>
        have hA := addL_both (p := ⟨true, pn, pl⟩) (r := r) (d := d) (u := (if timeB t = true ∧ now < t then t else now) + 3 * hello) rfl hd
        have hc := rhear_both pn a len cap hello now la lc many gf gt pl r d t _ w h.row h1 h2 h3 gl h.hrow h.none hf h4 (Lib.hid rfl) hx hd n1 n2 n3 n4 n5 n6
        exact hc.mono fun e w' hp => fin _ e w' hA hp

/-! ### awake -/
def A0 : Gd := newG ⟨true, 1, [1, 2, 3]⟩ 2
def A1 : Gd := (hearG A0 1 1 9).1
def A2 : Gd := (hearG A1 1 2 10).1
def A4 : Gd := atG A2 15
theorem a_facts : (hearG A0 1 1 9).2 = 0 ∧ (hearG A1 1 2 10).2 = 0 ∧ (hearG A2 9 1 10).2 = 5 ∧ A2.first = 1 ∧ A2.told = 2 ∧ A2.many = 1 ∧ A1.many = 0 := by decide +kernel
theorem a_same : hearG A2 9 1 10 = (A2, 5) := by
  have h : (hearG A2 9 1 10).2 = 5 := a_facts.2.2.1
  have k := hear_is A2 9 1 10
  rw [h] at k
  obtain ⟨G, hG⟩ : ∃ G, (hearG A2 9 1 10).1 = G := ⟨_, rfl⟩
  rw [hG] at k
  cases k
  exact Prod.ext hG h
theorem a_is : A4 = ⟨⟨true, 1, [1, 2, 3]⟩, 2, 15, [⟨1, 16⟩, ⟨2, 16⟩], 1, 1, 2⟩ := by kernel_rfl
theorem a_ok : GOk A4 := at_ok (hear_ok (hear_ok (new_ok (by decide) (by decide) (by decide)) _ _ _) _ _ _) _
theorem a_list : listG A4 = [1, 2] := by
  refine (list_is a_ok (by decide) fun v => ?_).symm
  rw [a_is]
  unfold blockedG
  simp
  constructor
  · rintro (rfl | rfl)
    · left; rfl
    · right; rfl
  · rintro (h | h)
    · exact .inl h.symm
    · exact .inr h.symm
theorem a_blocked : blockedG (atG A4 15) 2 = true ∧ blockedG (atG (atG A4 15) 15) 3 = false ∧ blockedG (atG (atG (atG A4 15) 15) 16) 2 = false ∧ timeB 15 = true ∧ timeB 16 = true := by decide +kernel
end Go.Proofs.Ytanciemiinbgmaa
