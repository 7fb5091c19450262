/-
  Plain mathematics of layer 12 (how a port comes to its role, and to forward): no program is named here.
-/
import Derived.Test.YtngdilmgbgdkcaaDoorInMath2
namespace Go.Proofs.YtngdilmgbgdkcaaDoor
set_option linter.unusedVariables false
set_option linter.unusedSimpArgs false
namespace Im
open Vm Rm Bm

/-- What a move makes of the port itself, and whether it is to sync, or to reroot, all. -/
structure Mv where
  own : Pt
  syncAll : Bool
  rerootAll : Bool

def syncedO (p : Pt) : Bool := p.ready && (decide (p.role = p.selected) && (decide (p.role = 1) || p.synced))
def rerootedO (p : Pt) : Bool := decide (p.rr = 0) || decide (p.role = 1)
/-- All others are so. -/
def othersB (f : Pt → Bool) (l : List Pt) (k : Nat) : Bool := l.zipIdx.all fun x => decide (x.2 = k) || f x.1

def stillB (p : Pt) : Bool := !p.learning && !p.forwarding
def agreesB (so : Bool) (p : Pt) : Bool := (!p.agree && so) || (p.proposed && p.agree)
/-- Of 0, 3 and 4: moves 3 to 6. -/
def blockF (t : Tm) (so : Bool) (p : Pt) : Option Mv :=
  if (!decide (p.role = 0) && (stillB p && (p.proposed && !p.agree))) = true then some ⟨{ p with proposed := false }, true, false⟩
  else if (!decide (p.role = 0) && agreesB so p) = true then some ⟨{ p with proposed := false, agree := true, newInfo := true }, false, false⟩
  else if (stillB p && (!decide (p.fd = if p.role = 0 then t.max else t.delay) || (p.sync || (p.reroot || !p.synced)))) = true then
    some ⟨{ p with fd := if p.role = 0 then t.max else t.delay, synced := true, rr := 0, sync := false, reroot := false }, false, false⟩
  else if (decide (p.role = 4) && !decide (p.rb = 2 * t.hello)) = true then some ⟨{ p with rb := 2 * t.hello }, false, false⟩
  else none
/-- Of 1: moves 7 to 13. -/
def rootF (t : Tm) (so ro : Bool) (p : Pt) : Option Mv :=
  if (p.proposed && !p.agree) = true then some ⟨{ p with proposed := false }, true, false⟩
  else if agreesB so p = true then some ⟨{ p with proposed := false, sync := false, agree := true, newInfo := true }, false, false⟩
  else if ((p.agreed && !p.synced) || (p.sync && p.synced)) = true then some ⟨{ p with synced := true, sync := false }, false, false⟩
  else if (!p.forward && !p.reroot) = true then some ⟨p, false, true⟩
  else if (!decide (p.rr = t.delay)) = true then some ⟨{ p with rr := t.delay }, false, false⟩
  else if (p.reroot && p.forward) = true then some ⟨{ p with reroot := false }, false, false⟩
  else if ((decide (p.fd = 0) || (decide (p.rb = 0) && (p.sendRstp && ro))) && !p.learn) = true then some ⟨{ p with learn := true, fd := t.delay }, false, false⟩
  else if ((decide (p.fd = 0) || (decide (p.rb = 0) && (p.sendRstp && ro))) && !p.forward) = true then some ⟨{ p with forward := true, fd := 0 }, false, false⟩
  else none
def desMay (p : Pt) : Bool := (decide (p.fd = 0) || (p.agreed || p.oper)) && ((decide (p.rr = 0) || !p.reroot) && (!p.sync && !p.disputed))
def desStops (p : Pt) : Bool := (p.sync && !p.synced) || ((p.reroot && !decide (p.rr = 0)) || p.disputed)
/-- Of 2: moves 14 to 18. -/
def desF (t : Tm) (p : Pt) : Option Mv :=
  if (!p.forward && (!p.agreed && (!p.proposing && (!p.oper && p.sendRstp)))) = true then some ⟨{ p with proposing := true, newInfo := true, edge := 3 }, false, false⟩
  else if ((!p.synced && (stillB p || (p.agreed || p.oper))) || (p.sync && p.synced)) = true then some ⟨{ p with rr := 0, synced := true, sync := false }, false, false⟩
  else if (decide (p.rr = 0) && p.reroot) = true then some ⟨{ p with reroot := false }, false, false⟩
  else if (desStops p && (!p.oper && (p.learn || p.forward))) = true then some ⟨{ p with learn := false, forward := false, disputed := false, fd := t.delay }, false, false⟩
  else if (desMay p && !p.learn) = true then some ⟨{ p with learn := true, fd := t.delay }, false, false⟩
  else if (desMay p && !p.forward) = true then some ⟨{ p with forward := true, fd := 0, agreed := p.sendRstp }, false, false⟩
  else none
/-- Moves 1 and 2. -/
def roleF' (t : Tm) (p : Pt) : Option Mv :=
  if p.selected = 0 ∨ p.selected = 3 ∨ p.selected = 4 then some ⟨{ p with role := p.selected, learn := false, forward := false }, false, false⟩
  else if p.selected = 1 then some ⟨{ p with role := 1, rr := t.delay }, false, false⟩
  else if p.selected = 2 then some ⟨{ p with role := 2 }, false, false⟩
  else none
/-- A port's move, by what the others are. -/
def moveF (t : Tm) (so ro : Bool) (p : Pt) : Option Mv :=
  if (p.ready && !p.update) = false then none
  else if ¬ p.selected = p.role then roleF' t p
  else if p.role = 0 ∨ p.role = 3 ∨ p.role = 4 then blockF t so p
  else if p.role = 1 then rootF t so ro p
  else if p.role = 2 then desF t p
  else none
/-- What a move makes of port i. -/
def spreadAt (m : Mv) (k i : Nat) (q : Pt) : Pt :=
  if i = k then { m.own with reroot := m.own.reroot || m.rerootAll }
  else { q with sync := q.sync || m.syncAll, reroot := q.reroot || m.rerootAll }
def moveAtP (t : Tm) (l : List Pt) (k : Nat) : Option (List Pt) :=
  if rightBr t = true then
    match l[k]? with
    | none => none
    | some p => (moveF t (othersB syncedO l k) (othersB rerootedO l k) p).map fun m => l.mapIdx (spreadAt m k)
  else none
def moveP (t : Tm) (l : List Pt) (k : Nat) : List Pt × Bool := match moveAtP t l k with | none => (l, false) | some m => (m, true)
def stateP (p : Pt) : Pt :=
  if p.learn = false then { p with learning := false, forwarding := false }
  else if p.learning = false then { p with forwarding := p.forwarding && p.forward, learning := true }
  else { p with forwarding := p.forward }
/-- Behind the moves and states of the first k ports. -/
def passN (t : Tm) (l : List Pt) : Nat → List Pt
  | 0 => l
  | k + 1 => ((moveP t (passN t l k) k).1).modify k stateP
def passP (t : Tm) (l : List Pt) : List Pt × Bool := (passN t l l.length, !decide (passN t l l.length = l))
/-- Behind n passes, as long as each changes something; and how many did. -/
def restN (t : Tm) : Nat → List Pt → List Pt × Nat
  | 0, l => (l, 0)
  | n + 1, l => if (passP t l).2 = true then ((restN t n (passP t l).1).1, (restN t n (passP t l).1).2 + 1) else (l, 0)
def restP (t : Tm) (l : List Pt) : List Pt × Nat := restN t 200 l

/-! What TransSafe asks. -/
/-- What names a port, and what it was told. -/
structure Kpt (q p : Pt) : Prop where
  id : p.id = q.id
  cost : p.cost = q.cost
  on : p.on = q.on
  source : p.source = q.source
  vec : p.vec = q.vec
  times : p.times = q.times
  selected : p.selected = q.selected
  offer : p.offer = q.offer
  update : p.update = q.update
  ready : p.ready = q.ready
  reselect : p.reselect = q.reselect
  oper : p.oper = q.oper
  txCount : p.txCount = q.txCount
  role : p.role = q.role ∨ p.role = q.selected
theorem Kpt.refl (p : Pt) : Kpt p p := ⟨rfl, rfl, rfl, rfl, rfl, rfl, rfl, rfl, rfl, rfl, rfl, rfl, rfl, .inl rfl⟩
theorem Kpt.trans {a b c : Pt} (h : Kpt a b) (k : Kpt b c) : Kpt a c :=
  ⟨k.id.trans h.id, k.cost.trans h.cost, k.on.trans h.on, k.source.trans h.source, k.vec.trans h.vec, k.times.trans h.times, k.selected.trans h.selected, k.offer.trans h.offer, k.update.trans h.update, k.ready.trans h.ready, k.reselect.trans h.reselect, k.oper.trans h.oper, k.txCount.trans h.txCount, by
    rcases k.role with e | e
    · rw [e]; exact h.role
    · exact .inr (e.trans h.selected)⟩
/-- It learns where it may, and forwards where it may, and learns. -/
def safeB (p : Pt) : Bool := (p.learn || (!p.learning && !p.forwarding)) && ((p.forward || !p.forwarding) && (!p.forwarding || p.learning))
theorem safe_iff (p : Pt) : safeB p = true ↔ ((!p.learn && (p.learning || p.forwarding)) || ((!p.forward && p.forwarding) || (p.forwarding && !p.learning))) = false := by
  unfold safeB
  cases p.learn <;> cases p.learning <;> cases p.forward <;> cases p.forwarding <;> decide
theorem state_safe (p : Pt) : safeB (stateP p) = true := by
  unfold stateP
  by_cases h : p.learn = false
  · rw [if_pos h]; simp [safeB]
  · rw [if_neg h]
    have h' : p.learn = true := by cases hl : p.learn; exact absurd hl h; rfl
    by_cases h2 : p.learning = false
    · rw [if_pos h2]; simp only [safeB, h']; cases p.forwarding <;> cases p.forward <;> decide
    · rw [if_neg h2]
      have h3 : p.learning = true := by cases hl : p.learning; exact absurd hl h2; rfl
      simp only [safeB, h', h3]; cases p.forward <;> decide
theorem state_kept (p : Pt) : Kpt p (stateP p) := by
  unfold stateP
  split
  · exact ⟨rfl, rfl, rfl, rfl, rfl, rfl, rfl, rfl, rfl, rfl, rfl, rfl, rfl, .inl rfl⟩
  · split
    · exact ⟨rfl, rfl, rfl, rfl, rfl, rfl, rfl, rfl, rfl, rfl, rfl, rfl, rfl, .inl rfl⟩
    · exact ⟨rfl, rfl, rfl, rfl, rfl, rfl, rfl, rfl, rfl, rfl, rfl, rfl, rfl, .inl rfl⟩
theorem role_kept {t : Tm} {p : Pt} {m : Mv} (h : roleF' t p = some m) : Kpt p m.own := by
  unfold roleF' at h
  split at h
  · cases h; exact ⟨rfl, rfl, rfl, rfl, rfl, rfl, rfl, rfl, rfl, rfl, rfl, rfl, rfl, .inr rfl⟩
  · split at h
    · rename_i e; cases h; exact ⟨rfl, rfl, rfl, rfl, rfl, rfl, rfl, rfl, rfl, rfl, rfl, rfl, rfl, .inr e.symm⟩
    · split at h
      · rename_i e; cases h; exact ⟨rfl, rfl, rfl, rfl, rfl, rfl, rfl, rfl, rfl, rfl, rfl, rfl, rfl, .inr e.symm⟩
      · cases h
theorem block_kept {t : Tm} {so : Bool} {p : Pt} {m : Mv} (h : blockF t so p = some m) : Kpt p m.own := by
  unfold blockF at h
  repeat' split at h
  all_goals first | (cases h; done) | (cases h; exact ⟨rfl, rfl, rfl, rfl, rfl, rfl, rfl, rfl, rfl, rfl, rfl, rfl, rfl, .inl rfl⟩)
theorem root_kept {t : Tm} {so ro : Bool} {p : Pt} {m : Mv} (h : rootF t so ro p = some m) : Kpt p m.own := by
  unfold rootF at h
  repeat' split at h
  all_goals first | (cases h; done) | (cases h; exact ⟨rfl, rfl, rfl, rfl, rfl, rfl, rfl, rfl, rfl, rfl, rfl, rfl, rfl, .inl rfl⟩)
theorem des_kept {t : Tm} {p : Pt} {m : Mv} (h : desF t p = some m) : Kpt p m.own := by
  unfold desF at h
  repeat' split at h
  all_goals first | (cases h; done) | (cases h; exact ⟨rfl, rfl, rfl, rfl, rfl, rfl, rfl, rfl, rfl, rfl, rfl, rfl, rfl, .inl rfl⟩)
theorem move_kept {t : Tm} {so ro : Bool} {p : Pt} {m : Mv} (h : moveF t so ro p = some m) : Kpt p m.own := by
  unfold moveF at h
  split at h
  · cases h
  · split at h
    · exact role_kept h
    · split at h
      · exact block_kept h
      · split at h
        · exact root_kept h
        · split at h
          · exact des_kept h
          · cases h
/-- What another port's move leaves of a port. -/
theorem spread_other {m : Mv} {k i : Nat} {q : Pt} (hne : ¬ i = k) : Kpt q (spreadAt m k i q) ∧ safeB (spreadAt m k i q) = safeB q := by
  unfold spreadAt
  rw [if_neg hne]
  exact ⟨⟨rfl, rfl, rfl, rfl, rfl, rfl, rfl, rfl, rfl, rfl, rfl, rfl, rfl, .inl rfl⟩, rfl⟩
theorem spread_own {m : Mv} {k : Nat} {q : Pt} (h : Kpt q m.own) : Kpt q (spreadAt m k k q) := by
  unfold spreadAt
  rw [if_pos rfl]
  exact h.trans ⟨rfl, rfl, rfl, rfl, rfl, rfl, rfl, rfl, rfl, rfl, rfl, rfl, rfl, .inl rfl⟩
theorem moveP_len (t : Tm) (l : List Pt) (k : Nat) : (moveP t l k).1.length = l.length := by
  unfold moveP moveAtP
  by_cases h : rightBr t = true
  · rw [if_pos h]
    cases hp : l[k]? with
    | none => rfl
    | some p =>
      dsimp only
      cases moveF t (othersB syncedO l k) (othersB rerootedO l k) p with
      | none => rfl
      | some m => simp
  · rw [if_neg h]
theorem moveP_at {t : Tm} {l : List Pt} {k i : Nat} {q : Pt} (hi : l[i]? = some q) : ∃ p, (moveP t l k).1[i]? = some p ∧ Kpt q p ∧ (¬ i = k → safeB p = safeB q) := by
  unfold moveP moveAtP
  by_cases h : rightBr t = true
  · rw [if_pos h]
    cases hp : l[k]? with
    | none => exact ⟨q, hi, Kpt.refl q, fun _ => rfl⟩
    | some p =>
      dsimp only
      cases hm : moveF t (othersB syncedO l k) (othersB rerootedO l k) p with
      | none => exact ⟨q, hi, Kpt.refl q, fun _ => rfl⟩
      | some m =>
        refine ⟨spreadAt m k i q, by simp [hi], ?_, fun hne => (spread_other hne).2⟩
        by_cases hne : i = k
        · subst hne
          rw [hi] at hp
          cases hp
          exact spread_own (move_kept hm)
        · exact (spread_other hne).1
  · rw [if_neg h]
    exact ⟨q, hi, Kpt.refl q, fun _ => rfl⟩
theorem passN_len (t : Tm) (l : List Pt) : ∀ k, (passN t l k).length = l.length
  | 0 => rfl
  | k + 1 => by
    show ((moveP t (passN t l k) k).1.modify k stateP).length = _
    rw [List.length_modify, moveP_len, passN_len t l k]
theorem passN_at {t : Tm} {l : List Pt} {i : Nat} {q : Pt} (hi : l[i]? = some q) : ∀ k, ∃ p, (passN t l k)[i]? = some p ∧ Kpt q p ∧ (i < k → safeB p = true)
  | 0 => ⟨q, hi, Kpt.refl q, fun h => absurd h (by omega)⟩
  | k + 1 => by
    obtain ⟨p, hp, hk, hs⟩ := passN_at (t := t) hi k
    obtain ⟨r, hr, hk2, hs2⟩ := moveP_at (t := t) (k := k) hp
    show ∃ p, ((moveP t (passN t l k) k).1.modify k stateP)[i]? = some p ∧ _
    rw [List.getElem?_modify, hr]
    by_cases e : k = i
    · subst e
      refine ⟨stateP r, by simp, (hk.trans hk2).trans (state_kept r), fun _ => state_safe r⟩
    · refine ⟨r, by simp [e], hk.trans hk2, fun h => ?_⟩
      rw [hs2 (fun h => e h.symm)]
      exact hs (by omega)
/-- P12.2. -/
theorem pass_safe {t : Tm} {l : List Pt} {i : Nat} {q : Pt} (hi : l[i]? = some q) : ∃ p, (passP t l).1[i]? = some p ∧ Kpt q p ∧ safeB p = true := by
  obtain ⟨p, hp, hk, hs⟩ := passN_at (t := t) hi l.length
  exact ⟨p, hp, hk, hs (List.getElem?_eq_some_iff.1 hi).1⟩
theorem pass_len (t : Tm) (l : List Pt) : (passP t l).1.length = l.length := passN_len t l l.length
theorem rest_len (t : Tm) : ∀ n l, (restN t n l).1.length = l.length
  | 0, l => rfl
  | n + 1, l => by
    unfold restN
    split
    · show (restN t n (passP t l).1).1.length = _
      rw [rest_len t n, pass_len]
    · rfl
/-- Step by step, as a loop goes. -/
theorem restN_step {t : Tm} {n : Nat} {l : List Pt} (h : (passP t l).2 = true) : restN t (n + 1) l = ((restN t n (passP t l).1).1, (restN t n (passP t l).1).2 + 1) := by rw [restN, if_pos h]
theorem restN_stop {t : Tm} {n : Nat} {l : List Pt} (h : (passP t l).2 = false) : restN t (n + 1) l = (l, 0) := by rw [restN, if_neg (by rw [h]; simp)]
end Im
end Go.Proofs.YtngdilmgbgdkcaaDoor
