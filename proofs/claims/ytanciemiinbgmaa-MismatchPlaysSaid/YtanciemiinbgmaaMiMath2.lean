/-
  Plain mathematics of layer 9, second part: what Hear comes to, case by case; one hearing on a new guard, and what is blocked from then on.
-/
import Derived.Test.YtanciemiinbgmaaMiMath
namespace Go.Proofs.Ytanciemiinbgmaa
set_option linter.unusedVariables false
set_option linter.unusedSimpArgs false
namespace Mm
open Pm

inductive HearIs (g : Gd) (r d t : Int) : Gd → Int → Prop
  | range : ¬ (vlanB r = true ∧ vlanB d = true ∧ timeB t = true) → HearIs g r d t g 1
  | none : vlanB r = true → vlanB d = true → timeB t = true → hasB g.po r = false → HearIs g r d t g 5
  | same : vlanB r = true → vlanB d = true → timeB t = true → hasB g.po r = true → g.po.trunk = true → r = d → HearIs g r d t (atG g t) 0
  | more : vlanB r = true → vlanB d = true → timeB t = true → hasB g.po r = true → ¬ (g.po.trunk = true ∧ r = d) → HearIs g r d t (moreG (atG g t) r d) 0
theorem hear_is (g : Gd) (r d t : Int) : HearIs g r d t (hearG g r d t).1 (hearG g r d t).2 := by
  unfold hearG
  by_cases h : vlanB r = true ∧ vlanB d = true ∧ timeB t = true
  · rw [if_pos h]
    cases hh : hasB g.po r with
    | false => rw [if_neg Bool.false_ne_true]; exact .none h.1 h.2.1 h.2.2 hh
    | true =>
      rw [if_pos rfl]
      by_cases hs : g.po.trunk = true ∧ r = d
      · rw [if_pos hs]; exact .same h.1 h.2.1 h.2.2 hh hs.1 hs.2
      · rw [if_neg hs]; exact .more h.1 h.2.1 h.2.2 hh hs
  · rw [if_neg h]; exact .range h
theorem at_eq {g : Gd} {t : Int} (h : timeB t = true) (k : g.now ≤ t) : atG g t = { g with now := t } := by
  unfold atG
  by_cases e : g.now < t
  · rw [if_pos ⟨h, e⟩]
  · rw [if_neg (fun c => e c.2)]
    have : g.now = t := by omega
    cases g
    simp only at this
    subst this
    rfl
/-- Does it come to be inconsistent? -/
def blocksB (p : Po) (r d : Int) : Bool := !p.trunk || decide (¬ r = d)
theorem blocks_iff {p : Po} {r d : Int} : blocksB p r d = true ↔ ¬ (p.trunk = true ∧ r = d) := by
  unfold blocksB
  cases p.trunk with
  | true => simp
  | false => simp
theorem has_native {p : Po} {r : Int} (h : hasB p r = true) (ht : p.trunk = false) : r = p.native := by
  unfold hasB at h
  rw [ht] at h
  simp only [Bool.and_eq_true, Bool.false_eq_true, if_false, decide_eq_true_eq] at h
  exact h.2
/-- A new guard that has heard once. -/
structure Once (p : Po) (hello r d t : Int) (g : Gd) : Prop where
  po : g.po = p
  hello_ : g.hello = hello
  now : g.now = t
  l : g.l = if blocksB p r d then addL p r d (t + 3 * hello) else []
  many : g.many = if blocksB p r d then 1 else 0
  has : hasB p r = true
theorem once_is {p : Po} {hello r d t : Int} (h : (hearG (newG p hello) r d t).2 = 0) : Once p hello r d t (hearG (newG p hello) r d t).1 := by
  have k := hear_is (newG p hello) r d t
  rw [h] at k
  obtain ⟨g, hg⟩ : ∃ g, (hearG (newG p hello) r d t).1 = g := ⟨_, rfl⟩
  rw [hg] at k ⊢
  cases k with
  | same h1 h2 h3 h4 h5 h6 =>
    have h0 : (newG p hello).now ≤ t := (of_decide_eq_true h3).1
    have hb : blocksB p r d = false := by
      cases hb : blocksB p r d with
      | false => rfl
      | true => exact absurd ⟨h5, h6⟩ (blocks_iff.1 hb)
    rw [at_eq h3 h0]
    exact ⟨rfl, rfl, rfl, by rw [hb]; rfl, by rw [hb]; rfl, h4⟩
  | more h1 h2 h3 h4 h5 =>
    have h0 : (newG p hello).now ≤ t := (of_decide_eq_true h3).1
    have hb : blocksB p r d = true := blocks_iff.2 h5
    rw [at_eq h3 h0]
    exact ⟨rfl, rfl, rfl, by rw [hb]; rfl, by rw [hb]; rfl, h4⟩
theorem refused_none {p : Po} {hello r d t : Int} (h : ¬ (hearG (newG p hello) r d t).2 = 0) : (hearG (newG p hello) r d t).1 = newG p hello := by
  have k := hear_is (newG p hello) r d t
  obtain ⟨g, hg⟩ : ∃ g, (hearG (newG p hello) r d t).1 = g := ⟨_, rfl⟩
  obtain ⟨e, he⟩ : ∃ e, (hearG (newG p hello) r d t).2 = e := ⟨_, rfl⟩
  rw [hg, he] at k
  rw [he] at h
  rw [hg]
  cases k with
  | range _ => rfl
  | none _ _ _ _ => rfl
  | same _ _ _ _ _ _ => exact absurd rfl h
  | more _ _ _ _ _ => exact absurd rfl h
/-- Is it blocked at u, if it came to be inconsistent at t? -/
def wantB (p : Po) (hello r d t u : Int) : Bool := blocksB p r d && decide (u < t + 3 * hello)
theorem add_mem {p : Po} {r d u : Int} {x : He} : x ∈ addL p r d u ↔ x.till = u ∧ (if p.trunk then x.vlan = r ∨ (hasB p d = true ∧ x.vlan = d) else x.vlan = p.native) := by
  obtain ⟨v, t⟩ := x
  unfold addL
  cases ht : p.trunk with
  | false =>
    simp only [Bool.false_eq_true, if_false, List.mem_singleton, He.mk.injEq]
    exact ⟨fun h => ⟨h.2, h.1⟩, fun h => ⟨h.2, h.1⟩⟩
  | true =>
    simp only [if_true]
    cases hd : hasB p d with
    | false =>
      simp only [Bool.false_eq_true, if_false, List.mem_singleton, He.mk.injEq, false_and, or_false]
      exact ⟨fun h => ⟨h.2, h.1⟩, fun h => ⟨h.2, h.1⟩⟩
    | true =>
      simp only [if_true, List.mem_cons, List.not_mem_nil, or_false, He.mk.injEq, true_and]
      constructor
      · rintro (⟨rfl, rfl⟩ | ⟨rfl, rfl⟩)
        · exact ⟨rfl, .inl rfl⟩
        · exact ⟨rfl, .inr rfl⟩
      · rintro ⟨rfl, rfl | rfl⟩
        · exact .inl ⟨rfl, rfl⟩
        · exact .inr ⟨rfl, rfl⟩
theorem once_blocked {p : Po} {hello r d t : Int} {g : Gd} (h : Once p hello r d t g) (u v : Int) : blockedG { g with now := u } v = true ↔ wantB p hello r d t u = true ∧ (if p.trunk then v = r ∨ (hasB p d = true ∧ v = d) else v = p.native) := by
  rw [blocked_iff]
  unfold wantB
  show (∃ x ∈ g.l, x.vlan = v ∧ u < x.till) ↔ _
  rw [h.l]
  cases hb : blocksB p r d with
  | false =>
    simp only [Bool.false_eq_true, if_false, Bool.false_and, false_and, iff_false]
    rintro ⟨x, hx, _⟩
    cases hx
  | true =>
    simp only [if_true, Bool.true_and, decide_eq_true_eq]
    constructor
    · rintro ⟨x, hx, rfl, hlt⟩
      obtain ⟨h1, h2⟩ := add_mem.1 hx
      exact ⟨by omega, h2⟩
    · rintro ⟨hlt, h2⟩
      exact ⟨⟨v, t + 3 * hello⟩, add_mem.2 ⟨rfl, h2⟩, rfl, hlt⟩
/-- What was received is blocked so long. -/
theorem once_received {p : Po} {hello r d t : Int} {g : Gd} (h : Once p hello r d t g) (u : Int) : blockedG { g with now := u } r = wantB p hello r d t u := by
  rw [Bool.eq_iff_iff, once_blocked h]
  constructor
  · exact fun k => k.1
  · intro k
    refine ⟨k, ?_⟩
    cases ht : p.trunk with
    | true => exact .inl rfl
    | false => exact has_native h.has ht
/-- So is what was told, as far as it goes out there. -/
theorem once_told {p : Po} {hello r d t : Int} {g : Gd} (h : Once p hello r d t g) (ht : p.trunk = true) (u : Int) : blockedG { g with now := u } d = (wantB p hello r d t u && hasB p d) := by
  rw [Bool.eq_iff_iff, once_blocked h, Bool.and_eq_true, ht]
  simp only [if_true]
  constructor
  · rintro ⟨h1, h2⟩
    refine ⟨h1, ?_⟩
    rcases h2 with rfl | h2
    · exact h.has
    · exact h2.1
  · rintro ⟨h1, h2⟩
    exact ⟨h1, .inr ⟨h2, trivial⟩⟩
theorem once_list {p : Po} {hello r d t : Int} {g : Gd} (h : Once p hello r d t g) {u : Int} (hg : GOk { g with now := u }) : decide (0 < (listG { g with now := u }).length) = wantB p hello r d t u := by
  rw [Bool.eq_iff_iff, decide_eq_true_iff]
  constructor
  · intro hl
    obtain ⟨v, hv⟩ : ∃ v, v ∈ listG { g with now := u } := by
      cases hL : listG { g with now := u } with
      | nil => rw [hL] at hl; simp at hl
      | cons v l => exact ⟨v, List.mem_cons_self⟩
    exact ((once_blocked h u v).1 ((list_mem hg).1 hv)).1
  · intro hw
    have hv := (list_mem hg).2 (by rw [once_received h u]; exact hw : blockedG { g with now := u } r = true)
    exact List.length_pos_of_mem hv
end Mm
end Go.Proofs.Ytanciemiinbgmaa
