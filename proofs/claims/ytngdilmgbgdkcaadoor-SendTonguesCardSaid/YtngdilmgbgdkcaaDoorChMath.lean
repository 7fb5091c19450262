/-
  Plain mathematics of layer 13 (how a bridge tells that its tree changed): no program is named here.
-/
import Derived.Test.YtngdilmgbgdkcaaDoorTrMath
namespace Go.Proofs.YtngdilmgbgdkcaaDoor
set_option linter.unusedVariables false
set_option linter.unusedSimpArgs false
namespace Im
open Vm Rm Bm

/-- A port counts down anew. -/
def countP (t : Tm) (p : Pt) : Pt :=
  if ¬ p.tc = 0 then p else if p.sendRstp = true then { p with tc := t.hello + 1, newInfo := true } else { p with tc := t.max + t.delay }
def forgetP (p : Pt) : Pt := { p with heardTc := false, heardTcn := false, heardAck := false, tcProp := false }
def inB (p : Pt) : Bool := decide (p.role = 1) || decide (p.role = 2)
def toldB (p : Pt) : Bool := p.heardTc || (p.heardTcn || (p.heardAck || p.tcProp))
/-- Step 6: what it heard. -/
def heedP13 (p : Pt) : Pt := if p.role = 2 then { p with heardTc := false, heardTcn := false, tcAck := true } else { p with heardTc := false, heardTcn := false }
/-- A port's step: what it makes of the port, and whether all others are told. -/
def stepF (t : Tm) (p : Pt) : Option (Pt × Bool) :=
  if (decide (p.change = 0) && (p.learn && !p.flush)) = true then some (forgetP { p with change := 1 }, false)
  else if (decide (p.change = 1) && (inB p && (p.forward && !p.oper))) = true then some ({ countP t p with newInfo := true, change := 2 }, true)
  else if (decide (p.change = 1) && (!inB p && (!p.learn && (!p.learning && !toldB p)))) = true then some ({ p with change := 0, flush := true, tc := 0, tcAck := false }, false)
  else if (decide (p.change = 1) && toldB p) = true then some (forgetP p, false)
  else if (decide (p.change = 2) && (!inB p || p.oper)) = true then some (forgetP { p with change := 1 }, false)
  else if (decide (p.change = 2) && (p.heardTcn || p.heardTc)) = true then some (heedP13 (if p.heardTcn = true then countP t p else p), true)
  else if (decide (p.change = 2) && p.tcProp) = true then some ({ countP t p with flush := true, tcProp := false }, false)
  else if (decide (p.change = 2) && p.heardAck) = true then some ({ p with tc := 0, heardAck := false }, false)
  else none
def tellAt (X : Pt) (tells : Bool) (k i : Nat) (q : Pt) : Pt := if i = k then X else { q with tcProp := q.tcProp || tells }
def stepP (t : Tm) (l : List Pt) (k : Nat) : List Pt × Bool :=
  if rightBr t = true then
    match l[k]? with
    | none => (l, false)
    | some p => match stepF t p with
      | none => (l, false)
      | some m => (l.mapIdx (tellAt m.1 m.2 k), true)
  else (l, false)
/-- At any number at all. -/
def stepI (t : Tm) (l : List Pt) (k : Int) : List Pt × Bool := if 0 ≤ k then stepP t l k.toNat else (l, false)
def cpassN (t : Tm) (l : List Pt) : Nat → List Pt
  | 0 => l
  | k + 1 => (stepP t (cpassN t l k) k).1
def cpassP (t : Tm) (l : List Pt) : List Pt × Bool := (cpassN t l l.length, !decide (cpassN t l l.length = l))
/-- Flush off in all; the Ids of those in which it was on. -/
def offP (p : Pt) : Pt := { p with flush := false }
def flushedP (l : List Pt) : List Pt × List Int := (l.map offP, (l.filter Pt.flush).map Pt.id)

theorem stepP_wrong {t : Tm} {l : List Pt} {k : Nat} (h : rightBr t = false) : stepP t l k = (l, false) := by
  unfold stepP
  rw [if_neg (by rw [h]; decide)]
theorem stepP_out {t : Tm} {l : List Pt} {k : Nat} (h : ¬ k < l.length) : stepP t l k = (l, false) := by
  unfold stepP
  rw [List.getElem?_eq_none (by omega)]
  by_cases hb : rightBr t = true
  · rw [if_pos hb]
  · rw [if_neg hb]
theorem stepP_no {t : Tm} {l : List Pt} {k : Nat} {p : Pt} (hp : l[k]? = some p) (hm : stepF t p = none) : stepP t l k = (l, false) := by
  unfold stepP
  rw [hp]
  by_cases hb : rightBr t = true
  · rw [if_pos hb]
    simp only [hm]
  · rw [if_neg hb]
theorem stepP_yes {t : Tm} {l : List Pt} {k : Nat} {p : Pt} {X : Pt} {T : Bool} (hb : rightBr t = true) (hp : l[k]? = some p) (hm : stepF t p = some (X, T)) : stepP t l k = (l.mapIdx (tellAt X T k), true) := by
  unfold stepP
  rw [if_pos hb, hp]
  simp only [hm]
theorem stepP_len (t : Tm) (l : List Pt) (k : Nat) : (stepP t l k).1.length = l.length := by
  unfold stepP
  split
  · split
    · rfl
    · split
      · rfl
      · simp
  · rfl
theorem cpassN_len (t : Tm) (l : List Pt) : ∀ k, (cpassN t l k).length = l.length
  | 0 => rfl
  | k + 1 => by
    show (stepP t (cpassN t l k) k).1.length = _
    rw [stepP_len, cpassN_len t l k]

/-! What ChangeTells asks. -/
/-- What a step leaves of the port itself. -/
structure Kch (q p : Pt) : Prop where
  role : p.role = q.role
  learn : p.learn = q.learn
  forward : p.forward = q.forward
  learning : p.learning = q.learning
  forwarding : p.forwarding = q.forwarding
  vec : p.vec = q.vec
  source : p.source = q.source
  tcProp : p.tcProp = true → q.tcProp = true
theorem Kch.refl (p : Pt) : Kch p p := ⟨rfl, rfl, rfl, rfl, rfl, rfl, rfl, id⟩
theorem count_kch (t : Tm) (p : Pt) : Kch p (countP t p) := by
  unfold countP
  split
  · exact Kch.refl p
  · split
    · exact ⟨rfl, rfl, rfl, rfl, rfl, rfl, rfl, id⟩
    · exact ⟨rfl, rfl, rfl, rfl, rfl, rfl, rfl, id⟩
theorem step_kch {t : Tm} {p X : Pt} {T : Bool} (h : stepF t p = some (X, T)) : Kch p X := by
  unfold stepF at h
  have c := count_kch t p
  split at h
  · cases h; exact ⟨rfl, rfl, rfl, rfl, rfl, rfl, rfl, fun e => by cases e⟩
  split at h
  · cases h; exact ⟨c.role, c.learn, c.forward, c.learning, c.forwarding, c.vec, c.source, c.tcProp⟩
  split at h
  · cases h; exact ⟨rfl, rfl, rfl, rfl, rfl, rfl, rfl, id⟩
  split at h
  · cases h; exact ⟨rfl, rfl, rfl, rfl, rfl, rfl, rfl, fun e => by cases e⟩
  split at h
  · cases h; exact ⟨rfl, rfl, rfl, rfl, rfl, rfl, rfl, fun e => by cases e⟩
  split at h
  · cases h
    have key : ∀ q, Kch p q → Kch p (heedP13 q) := fun q c => by
      unfold heedP13
      split
      · exact ⟨c.role, c.learn, c.forward, c.learning, c.forwarding, c.vec, c.source, c.tcProp⟩
      · exact ⟨c.role, c.learn, c.forward, c.learning, c.forwarding, c.vec, c.source, c.tcProp⟩
    refine key _ ?_
    split
    · exact c
    · exact Kch.refl p
  split at h
  · cases h; exact ⟨c.role, c.learn, c.forward, c.learning, c.forwarding, c.vec, c.source, fun e => by cases e⟩
  split at h
  · cases h; exact ⟨rfl, rfl, rfl, rfl, rfl, rfl, rfl, id⟩
  · cases h
def mustB13 (p : Pt) : Bool := decide (p.change = 2) && (inB p && (!p.oper && (p.heardTc || p.heardTcn)))
theorem step_must {t : Tm} {p : Pt} (h : mustB13 p = true) : ∃ X, stepF t p = some (X, true) := by
  unfold mustB13 at h
  simp only [Bool.and_eq_true, decide_eq_true_eq, Bool.or_eq_true, Bool.not_eq_true'] at h
  obtain ⟨h1, h2, h3, h4⟩ := h
  have d0 : decide (p.change = 0) = false := by rw [h1]; rfl
  have d1 : decide (p.change = 1) = false := by rw [h1]; rfl
  have d2 : decide (p.change = 2) = true := by rw [h1]; rfl
  have d4 : (p.heardTcn || p.heardTc) = true := by rw [Bool.or_comm]; simpa using h4
  unfold stepF
  rw [d0, d1, d2, h2, h3, d4]
  exact ⟨_, rfl⟩
/-- Behind a step, of a port's own place and of any other. -/
theorem step_at {t : Tm} {l : List Pt} {k i : Nat} {p q : Pt} (hb : rightBr t = true) (hp : l[k]? = some p) (hq : l[i]? = some q) :
    ∃ r, (stepP t l k).1[i]? = some r ∧ (i = k → Kch q r) ∧ (¬ i = k → ∃ T : Bool, r = { q with tcProp := q.tcProp || T } ∧ (mustB13 p = true → T = true)) := by
  cases hs : stepF t p with
  | none =>
    rw [stepP_no hp hs]
    refine ⟨q, hq, fun _ => Kch.refl q, fun _ => ⟨false, by simp, fun hm => ?_⟩⟩
    obtain ⟨X, hX⟩ := step_must (t := t) hm
    rw [hs] at hX
    cases hX
  | some m =>
    obtain ⟨X, T⟩ := m
    rw [stepP_yes hb hp hs]
    refine ⟨tellAt X T k i q, by simp [hq], fun e => ?_, fun e => ⟨T, ?_, fun hm => ?_⟩⟩
    · subst e
      rw [hp] at hq
      cases hq
      unfold tellAt
      rw [if_pos rfl]
      exact step_kch hs
    · unfold tellAt
      rw [if_neg e]
    · obtain ⟨Y, hY⟩ := step_must (t := t) hm
      rw [hs] at hY
      cases hY
      rfl
end Im
end Go.Proofs.YtngdilmgbgdkcaaDoor
