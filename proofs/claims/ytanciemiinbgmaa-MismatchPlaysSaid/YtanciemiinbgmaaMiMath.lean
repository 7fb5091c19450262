/-
  Plain mathematics of layer 9 (guards against VLANs that are inconsistent): no program is named here. What a guard has heard, what is blocked at a time, the rising row of these; a map of VLANs and ends that says the same.
-/
import Derived.Test.YtanciemiinbgmaaPoMath
namespace Go.Proofs.Ytanciemiinbgmaa
set_option linter.unusedVariables false
set_option linter.unusedSimpArgs false
namespace Mm
open Pm

/-- That a VLAN is inconsistent, until when. -/
structure He where
  vlan : Int
  till : Int
/-- A guard, as the document has it. -/
structure Gd where
  po : Po
  hello : Int
  now : Int
  l : List He
  many : Nat
  first : Int
  told : Int

def timeB (n : Int) : Bool := decide (0 ≤ n ∧ n ≤ 1099511627776)
def atG (g : Gd) (t : Int) : Gd := if timeB t = true ∧ g.now < t then { g with now := t } else g
/-- What is heard anew. -/
def addL (p : Po) (r d u : Int) : List He := if p.trunk then (if hasB p d then [⟨r, u⟩, ⟨d, u⟩] else [⟨r, u⟩]) else [⟨p.native, u⟩]
def moreG (h : Gd) (r d : Int) : Gd :=
  { h with l := h.l ++ addL h.po r d (h.now + 3 * h.hello), many := h.many + 1, first := if h.first = 0 then r else h.first, told := if h.first = 0 then d else h.told }
/-- Behind what is heard, and the error's number. -/
def hearG (g : Gd) (r d t : Int) : Gd × Int :=
  if vlanB r = true ∧ vlanB d = true ∧ timeB t = true then
    if hasB g.po r then (if g.po.trunk = true ∧ r = d then (atG g t, 0) else (moreG (atG g t) r d, 0)) else (g, 5)
  else (g, 1)
def blockedG (g : Gd) (v : Int) : Bool := g.l.any (fun h => decide (h.vlan = v ∧ g.now < h.till))
/-- Those among the first k VLANs that are blocked, rising. -/
def listN (g : Gd) : Nat → List Int
  | 0 => []
  | k + 1 => listN g k ++ (if blockedG g ((k : Int) + 1) then [(k : Int) + 1] else [])
def listG (g : Gd) : List Int := listN g 4094

theorem blocked_iff {g : Gd} {v : Int} : blockedG g v = true ↔ ∃ h ∈ g.l, h.vlan = v ∧ g.now < h.till := by
  unfold blockedG
  rw [List.any_eq_true]
  constructor
  · rintro ⟨h, hm, hd⟩; exact ⟨h, hm, of_decide_eq_true hd⟩
  · rintro ⟨h, hm, hd⟩; exact ⟨h, hm, decide_eq_true hd⟩
theorem at_po (g : Gd) (t : Int) : (atG g t).po = g.po := by unfold atG; split <;> rfl
theorem at_hello (g : Gd) (t : Int) : (atG g t).hello = g.hello := by unfold atG; split <;> rfl
theorem at_l (g : Gd) (t : Int) : (atG g t).l = g.l := by unfold atG; split <;> rfl
theorem at_many (g : Gd) (t : Int) : (atG g t).many = g.many := by unfold atG; split <;> rfl
theorem at_first (g : Gd) (t : Int) : (atG g t).first = g.first := by unfold atG; split <;> rfl
theorem at_told (g : Gd) (t : Int) : (atG g t).told = g.told := by unfold atG; split <;> rfl
theorem at_now (g : Gd) (t : Int) : (atG g t).now = if timeB t = true ∧ g.now < t then t else g.now := by
  unfold atG
  by_cases h : timeB t = true ∧ g.now < t
  · rw [if_pos h, if_pos h]
  · rw [if_neg h, if_neg h]
theorem at_le (g : Gd) (t : Int) : g.now ≤ (atG g t).now := by rw [at_now]; split <;> omega
theorem at_time {g : Gd} {t : Int} (h : timeB t = true) : t ≤ (atG g t).now := by
  rw [at_now]
  by_cases k : g.now < t
  · rw [if_pos ⟨h, k⟩]; omega
  · rw [if_neg (fun e => k e.2)]; omega
theorem at_not {g : Gd} {t : Int} (h : timeB t = false) : atG g t = g := by
  unfold atG
  rw [if_neg (fun e => by rw [h] at e; cases e.1)]

/-- What holds of every guard. -/
structure GOk (g : Gd) : Prop where
  port : portB g.po = true
  h1 : 1 ≤ g.hello
  h2 : g.hello ≤ 10
  n1 : 0 ≤ g.now
  n2 : g.now ≤ 1099511627776
  each : ∀ h ∈ g.l, vlanB h.vlan = true ∧ h.till ≤ g.now + 3 * g.hello
  first : g.first = 0 ↔ g.many = 0
  zero : g.many = 0 → g.told = 0 ∧ g.l = []
def newG (p : Po) (hello : Int) : Gd := ⟨p, hello, 0, [], 0, 0, 0⟩
theorem new_ok {p : Po} {hello : Int} (hp : portB p = true) (h1 : 1 ≤ hello) (h2 : hello ≤ 10) : GOk (newG p hello) :=
  ⟨hp, h1, h2, Int.le_refl _, by show (0 : Int) ≤ _; omega, fun h hh => (by cases hh), ⟨fun _ => rfl, fun _ => rfl⟩, fun _ => ⟨rfl, rfl⟩⟩
theorem at_ok {g : Gd} (h : GOk g) (t : Int) : GOk (atG g t) := by
  have hn := at_le g t
  refine ⟨by rw [at_po]; exact h.port, by rw [at_hello]; exact h.h1, by rw [at_hello]; exact h.h2, by have := h.n1; omega, ?_, ?_, by rw [at_first, at_many]; exact h.first, by rw [at_many, at_told, at_l]; exact h.zero⟩
  · rw [at_now]
    by_cases k : timeB t = true ∧ g.now < t
    · rw [if_pos k]; exact (of_decide_eq_true k.1).2
    · rw [if_neg k]; exact h.n2
  · intro x hx
    rw [at_l] at hx
    obtain ⟨h1, h2⟩ := h.each x hx
    rw [at_hello]
    exact ⟨h1, by omega⟩
theorem port_native {p : Po} (h : portB p = true) : vlanB p.native = true := by
  unfold portB at h
  simp only [Bool.and_eq_true] at h
  exact h.1
theorem more_ok {g : Gd} (h : GOk g) {r d : Int} (hr : vlanB r = true) (hd : vlanB d = true) : GOk (moreG g r d) := by
  refine ⟨h.port, h.h1, h.h2, h.n1, h.n2, ?_, ?_, fun e => by cases e⟩
  · intro x hx
    rcases List.mem_append.1 hx with hx | hx
    · exact h.each x hx
    · unfold addL at hx
      have hh := h.h1
      have e : x.till = g.now + 3 * g.hello ∧ vlanB x.vlan = true := by
        split at hx
        · split at hx
          · rcases List.mem_cons.1 hx with rfl | hx
            · exact ⟨rfl, hr⟩
            · rcases List.mem_cons.1 hx with rfl | hx
              · exact ⟨rfl, hd⟩
              · cases hx
          · rcases List.mem_cons.1 hx with rfl | hx
            · exact ⟨rfl, hr⟩
            · cases hx
        · rcases List.mem_cons.1 hx with rfl | hx
          · exact ⟨rfl, port_native h.port⟩
          · cases hx
      exact ⟨e.2, Int.le_of_eq e.1⟩
  · show (if g.first = 0 then r else g.first) = 0 ↔ g.many + 1 = 0
    have hr' := of_decide_eq_true hr
    by_cases z : g.first = 0
    · rw [if_pos z]; omega
    · rw [if_neg z]; omega
theorem hear_ok {g : Gd} (h : GOk g) (r d t : Int) : GOk (hearG g r d t).1 := by
  unfold hearG
  split
  · rename_i hc
    split
    · split
      · exact at_ok h t
      · exact more_ok (at_ok h t) hc.1 hc.2.1
    · exact h
  · exact h

/-! ### A map of VLANs and ends -/
def lookD : List (Int × Int) → Int → Int
  | [], _ => 0
  | (k, u) :: m, v => if k = v then u else lookD m v
/-- What the map says of each VLAN from now on is what was heard. -/
def Says (g : Gd) (f : Int → Int) : Prop := ∀ v t, g.now ≤ t → (t < f v ↔ ∃ h ∈ g.l, h.vlan = v ∧ t < h.till)
theorem says_new {p : Po} {hello : Int} {f : Int → Int} (hf : ∀ v, f v ≤ 0) : Says (newG p hello) f := by
  intro v t ht
  constructor
  · intro h
    have := hf v
    have : (0 : Int) ≤ t := ht
    omega
  · rintro ⟨h, hh, _⟩; cases hh
theorem says_at {g : Gd} {f : Int → Int} (h : Says g f) (t : Int) : Says (atG g t) f := by
  intro v u hu
  rw [at_l]
  exact h v u (Int.le_trans (at_le g t) hu)
theorem says_blocked {g : Gd} {f : Int → Int} (h : Says g f) (v : Int) : blockedG g v = decide (g.now < f v) := by
  rw [Bool.eq_iff_iff, blocked_iff, decide_eq_true_iff]
  exact (h v g.now (Int.le_refl _)).symm
/-- One end never lies ahead of what is told now. -/
theorem says_le {g : Gd} {f : Int → Int} (hg : GOk g) (h : Says g f) (v : Int) : f v ≤ g.now + 3 * g.hello := by
  rcases Int.lt_or_le (g.now + 3 * g.hello) (f v) with hlt | hle
  · exfalso
    have h1 := hg.h1
    obtain ⟨x, hx, _, hu⟩ := (h v (g.now + 3 * g.hello) (by omega)).1 hlt
    have := (hg.each x hx).2
    omega
  · exact hle
def addsG (g : Gd) (vs : List Int) : Gd := { g with l := g.l ++ vs.map (fun v => ⟨v, g.now + 3 * g.hello⟩) }
/-- The VLANs told now end then; the others stay. -/
theorem says_more {g : Gd} {f f' : Int → Int} (hg : GOk g) (h : Says g f) {r d : Int} (hin : ∀ v, (v ∈ (addL g.po r d 0).map He.vlan) → f' v = g.now + 3 * g.hello) (hout : ∀ v, ¬ v ∈ (addL g.po r d 0).map He.vlan → f' v = f v) : Says (moreG g r d) f' := by
  intro v t ht
  have ht' : g.now ≤ t := ht
  have hadd : ∀ (u : Int) (x : He), x ∈ addL g.po r d u ↔ x.vlan ∈ (addL g.po r d 0).map He.vlan ∧ x.till = u := by
    intro u x
    obtain ⟨xv, xt⟩ := x
    unfold addL
    split
    · split
      · simp only [List.mem_cons, List.not_mem_nil, or_false, List.map_cons, List.map_nil, He.mk.injEq]
        constructor
        · rintro (⟨rfl, rfl⟩ | ⟨rfl, rfl⟩)
          · exact ⟨.inl rfl, rfl⟩
          · exact ⟨.inr rfl, rfl⟩
        · rintro ⟨rfl | rfl, rfl⟩
          · exact .inl ⟨rfl, rfl⟩
          · exact .inr ⟨rfl, rfl⟩
      · simp only [List.mem_cons, List.not_mem_nil, or_false, List.map_cons, List.map_nil, He.mk.injEq]
    · simp only [List.mem_cons, List.not_mem_nil, or_false, List.map_cons, List.map_nil, He.mk.injEq]
  by_cases hv : v ∈ (addL g.po r d 0).map He.vlan
  · rw [hin v hv]
    constructor
    · intro hlt
      exact ⟨⟨v, g.now + 3 * g.hello⟩, List.mem_append.2 (.inr ((hadd _ _).2 ⟨hv, rfl⟩)), rfl, hlt⟩
    · rintro ⟨x, hx, _, hlt⟩
      rcases List.mem_append.1 hx with hx | hx
      · have := (hg.each x hx).2; omega
      · have := ((hadd _ _).1 hx).2; omega
  · rw [hout v hv, h v t ht']
    constructor
    · rintro ⟨x, hx, hxv, hlt⟩
      exact ⟨x, List.mem_append.2 (.inl hx), hxv, hlt⟩
    · rintro ⟨x, hx, hxv, hlt⟩
      rcases List.mem_append.1 hx with hx | hx
      · exact ⟨x, hx, hxv, hlt⟩
      · exact absurd (hxv ▸ ((hadd _ _).1 hx).1) hv

/-! ### The rising row -/
theorem listN_mem {g : Gd} {v : Int} : ∀ k : Nat, v ∈ listN g k ↔ 1 ≤ v ∧ v ≤ k ∧ blockedG g v = true
  | 0 => by
    constructor
    · intro h; cases h
    · rintro ⟨h1, h2, _⟩
      have : v ≤ 0 := h2
      omega
  | k + 1 => by
    rw [listN, List.mem_append, listN_mem k]
    constructor
    · rintro (⟨h1, h2, h3⟩ | h)
      · exact ⟨h1, by omega, h3⟩
      · split at h
        · rename_i hb
          rcases List.mem_cons.1 h with rfl | h
          · exact ⟨by omega, by omega, hb⟩
          · cases h
        · cases h
    · rintro ⟨h1, h2, h3⟩
      by_cases e : v = (k : Int) + 1
      · right
        subst e
        rw [if_pos h3]
        exact List.mem_singleton.2 rfl
      · exact .inl ⟨h1, by omega, h3⟩
theorem listN_rise (g : Gd) : ∀ k : Nat, (listN g k).Pairwise (· < ·)
  | 0 => List.Pairwise.nil
  | k + 1 => by
    rw [listN, List.pairwise_append]
    refine ⟨listN_rise g k, by split <;> simp, fun a ha b hb => ?_⟩
    have h1 := (listN_mem k).1 ha
    split at hb
    · rcases List.mem_cons.1 hb with rfl | hb
      · omega
      · cases hb
    · cases hb
/-- Two rising rows with the same numbers are the same. -/
theorem rise_ext : ∀ {l m : List Int}, l.Pairwise (· < ·) → m.Pairwise (· < ·) → (∀ v, v ∈ l ↔ v ∈ m) → l = m
  | [], [], _, _, _ => rfl
  | [], b :: m, _, _, h => by have := (h b).2 List.mem_cons_self; cases this
  | a :: l, [], _, _, h => by have := (h a).1 List.mem_cons_self; cases this
  | a :: l, b :: m, hl, hm, h => by
    rw [List.pairwise_cons] at hl hm
    have hab : a = b := by
      rcases List.mem_cons.1 ((h a).1 List.mem_cons_self) with e | h1
      · exact e
      · rcases List.mem_cons.1 ((h b).2 List.mem_cons_self) with e | h2
        · exact e.symm
        · have := hl.1 b h2; have := hm.1 a h1; omega
    subst hab
    congr 1
    refine rise_ext hl.2 hm.2 fun v => ?_
    constructor
    · intro hv
      rcases List.mem_cons.1 ((h v).1 (List.mem_cons_of_mem _ hv)) with e | h1
      · subst e; have := hl.1 v hv; omega
      · exact h1
    · intro hv
      rcases List.mem_cons.1 ((h v).2 (List.mem_cons_of_mem _ hv)) with e | h1
      · subst e; have := hm.1 v hv; omega
      · exact h1
theorem blocked_vlan {g : Gd} (hg : GOk g) {v : Int} (h : blockedG g v = true) : 1 ≤ v ∧ v ≤ 4094 := by
  obtain ⟨x, hx, rfl, _⟩ := blocked_iff.1 h
  exact of_decide_eq_true (hg.each x hx).1
theorem list_mem {g : Gd} (hg : GOk g) {v : Int} : v ∈ listG g ↔ blockedG g v = true := by
  unfold listG
  rw [listN_mem]
  constructor
  · exact fun h => h.2.2
  · intro h
    have := blocked_vlan hg h
    exact ⟨this.1, by omega, h⟩
/-- A rising row of all that is blocked is the document's. -/
theorem list_is {g : Gd} (hg : GOk g) {l : List Int} (hl : l.Pairwise (· < ·)) (h : ∀ v, v ∈ l ↔ blockedG g v = true) : l = listG g :=
  rise_ext hl (listN_rise g 4094) (fun v => (h v).trans (list_mem hg).symm)
theorem list_empty {g : Gd} (hg : GOk g) : listG g = [] ↔ ∀ v, blockedG g v = false := by
  constructor
  · intro h v
    cases hb : blockedG g v with
    | false => rfl
    | true => have := (list_mem hg).2 hb; rw [h] at this; cases this
  · intro h
    cases hl : listG g with
    | nil => rfl
    | cons v l => have := (list_mem hg).1 (by rw [hl]; exact List.mem_cons_self); rw [h v] at this; cases this
end Mm
end Go.Proofs.Ytanciemiinbgmaa
