/-
  Plain mathematics of layer 7: what each call does to a table; what a table keeps; that VLANs know nothing of each other while there is room.
-/
import Derived.Test.YtkpfdaomhkcokaaFdMath
namespace Go.Proofs.Ytkpfdaomhkcokaa
set_option linter.unusedVariables false
set_option linter.unusedSimpArgs false
namespace Dm

structure Tb where
  l : List En
  learned : Int
def grp6 (m : ByteArray) : Bool := decide ((m.data.getD 0 0).toNat % 2 = 1)
/-- May these be? -/
def askedR (v : Int) (m : ByteArray) (p now : Int) : Int :=
  if v < 1 ∨ 4094 < v ∨ p < 0 ∨ 15 < p ∨ now < 0 ∨ 1099511627776 < now then 1 else if m.size ≠ 6 ∨ grp6 m = true then 2 else 0
def learnT (room : Nat) (t : Tb) (v : Int) (m : ByteArray) (p now : Int) : Tb × Int :=
  if askedR v m p now = 0 then
    match findE t.l ⟨v, m⟩ with
    | some x => if x.fixed then (t, 0) else (⟨putR t.l ⟨v, m, p, now, false⟩, if x.port = p then t.learned else t.learned + 1⟩, 0)
    | none => if t.l.length < room then (⟨putR t.l ⟨v, m, p, now, false⟩, t.learned + 1⟩, 0)
      else match oldN t.l t.l.length with
        | none => (t, 0)
        | some o => (⟨putR (t.l.eraseIdx o) ⟨v, m, p, now, false⟩, t.learned + 1⟩, 0)
  else (t, askedR v m p now)
def fixT (room : Nat) (t : Tb) (v : Int) (m : ByteArray) (p : Int) : Tb × Int :=
  if askedR v m p 0 = 0 then
    if findE t.l ⟨v, m⟩ = none ∧ room ≤ t.l.length then (t, 7) else (⟨putR t.l ⟨v, m, p, 0, true⟩, t.learned⟩, 0)
  else (t, askedR v m p 0)
def dropT (t : Tb) (v : Int) (m : ByteArray) : Tb × Int :=
  if findE t.l ⟨v, m⟩ = none then (t, 5) else (⟨t.l.eraseIdx (placeR t.l ⟨v, m⟩).1, t.learned⟩, 0)
def staysA (now long : Int) (x : En) : Bool := x.fixed || decide (now < x.heard) || decide (now - x.heard < max long 0)
def staysF (v p : Int) (x : En) : Bool := x.fixed || !decide (x.vlan = v) || !decide (x.port = p)
def ageT (t : Tb) (now long : Int) : Tb × Int := (⟨t.l.filter (staysA now long), t.learned⟩, t.l.length - (t.l.filter (staysA now long)).length)
def flushT (t : Tb) (v p : Int) : Tb × Int := (⟨t.l.filter (staysF v p), t.learned⟩, t.l.length - (t.l.filter (staysF v p)).length)

/-- A call. -/
structure Ac where
  kind : Int
  vlan : Int
  mac : ByteArray
  port : Int
  n : Int
  m : Int
def stepT (room : Nat) (t : Tb) (a : Ac) : Tb × Int :=
  if a.kind = 0 then learnT room t a.vlan a.mac a.port a.n
  else if a.kind = 1 then fixT room t a.vlan a.mac a.port
  else if a.kind = 2 then dropT t a.vlan a.mac
  else if a.kind = 3 then ageT t a.n a.m
  else if a.kind = 4 then flushT t a.vlan a.port
  else (t, 0)

/-- What an entry may be. -/
structure En.ok (x : En) : Prop where
  v0 : 1 ≤ x.vlan
  v1 : x.vlan ≤ 4094
  mac : x.mac.size = 6
  p0 : 0 ≤ x.port
  p1 : x.port ≤ 15
  h0 : 0 ≤ x.heard
  h1 : x.heard ≤ 1099511627776
structure Tb.ok (room : Nat) (t : Tb) : Prop where
  sorted : Sorted t.l
  room : t.l.length ≤ room
  each : ∀ x ∈ t.l, x.ok
theorem asked_ok {v : Int} {m : ByteArray} {p now : Int} (h : askedR v m p now = 0) (f : Bool) : En.ok ⟨v, m, p, now, f⟩ := by
  unfold askedR at h
  split at h
  · cases h
  · split at h
    · cases h
    · rename_i h1 h2
      refine ⟨?_, ?_, ?_, ?_, ?_, ?_, ?_⟩ <;> simp only <;> first | omega | exact Decidable.byContradiction fun e => h2 (.inl e)
theorem put_ok {room : Nat} {l : List En} {e : En} {n : Int} (hs : Sorted l) (hl : (putR l e).length ≤ room) (he : ∀ x ∈ l, x.ok) (ho : e.ok) : Tb.ok room ⟨putR l e, n⟩ :=
  ⟨sorted_put hs e, hl, fun x hx => (mem_put hx).elim (fun e => e ▸ ho) (fun k => he x k)⟩
theorem put_there {l : List En} (hs : Sorted l) {e x : En} (h : findE l e.key = some x) : (putR l e).length = l.length := by
  rw [put_length, (place_find hs e.key).1, h]; rfl
theorem put_new {l : List En} (hs : Sorted l) {e : En} (h : findE l e.key = none) : (putR l e).length = l.length + 1 := by
  rw [put_length, (place_find hs e.key).1, h]; rfl
theorem learn_ok {room : Nat} {t : Tb} (h : t.ok room) (v : Int) (m : ByteArray) (p now : Int) : (learnT room t v m p now).1.ok room := by
  unfold learnT
  by_cases ha : askedR v m p now = 0
  · rw [if_pos ha]
    cases hf : findE t.l ⟨v, m⟩ with
    | some x =>
      simp only
      split
      · exact h
      · exact put_ok h.sorted (by rw [put_there (e := ⟨v, m, p, now, false⟩) h.sorted (x := x) hf]; exact h.room) h.each (asked_ok ha _)
    | none =>
      simp only
      split
      · exact put_ok h.sorted (by rw [put_new (e := ⟨v, m, p, now, false⟩) h.sorted hf]; omega) h.each (asked_ok ha _)
      · cases ho : oldN t.l t.l.length with
        | none => exact h
        | some o =>
          obtain ⟨y, hy⟩ := (old_spec t.l _ (Nat.le_refl _)).2 o ho
          have hs := sorted_erase h.sorted o
          refine put_ok hs ?_ (fun x hx => h.each x (List.mem_of_mem_eraseIdx hx)) (asked_ok ha _)
          have hn : findE (t.l.eraseIdx o) (En.key ⟨v, m, p, now, false⟩) = none := by
            rw [find_erase h.sorted hy.at_]
            split
            · rfl
            · exact hf
          rw [put_new hs hn, List.length_eraseIdx, if_pos hy.lt]
          have := h.room
          have := hy.lt
          omega
  · rw [if_neg ha]; exact h
theorem fix_ok {room : Nat} {t : Tb} (h : t.ok room) (v : Int) (m : ByteArray) (p : Int) : (fixT room t v m p).1.ok room := by
  unfold fixT
  by_cases ha : askedR v m p 0 = 0
  · rw [if_pos ha]
    split
    · exact h
    · rename_i hc
      cases hf : findE t.l ⟨v, m⟩ with
      | some x => exact put_ok h.sorted (by rw [put_there (e := ⟨v, m, p, 0, true⟩) h.sorted (x := x) hf]; exact h.room) h.each (asked_ok ha _)
      | none => exact put_ok h.sorted (by rw [put_new (e := ⟨v, m, p, 0, true⟩) h.sorted hf]; have : ¬ room ≤ t.l.length := fun k => hc ⟨hf, k⟩; omega) h.each (asked_ok ha _)
  · rw [if_neg ha]; exact h
theorem drop_ok {room : Nat} {t : Tb} (h : t.ok room) (v : Int) (m : ByteArray) : (dropT t v m).1.ok room := by
  unfold dropT
  split
  · exact h
  · exact ⟨sorted_erase h.sorted _, Nat.le_trans (List.length_eraseIdx_le _ _) h.room, fun x hx => h.each x (List.mem_of_mem_eraseIdx hx)⟩
theorem filter_ok {room : Nat} {t : Tb} (h : t.ok room) (p : En → Bool) (n : Int) : Tb.ok room ⟨t.l.filter p, n⟩ :=
  ⟨sorted_filter h.sorted p, Nat.le_trans (List.length_filter_le _ _) h.room, fun x hx => h.each x (List.mem_filter.1 hx).1⟩
theorem step_ok {room : Nat} {t : Tb} (h : t.ok room) (a : Ac) : (stepT room t a).1.ok room := by
  unfold stepT
  split
  · exact learn_ok h _ _ _ _
  · split
    · exact fix_ok h _ _ _
    · split
      · exact drop_ok h _ _
      · split
        · exact filter_ok h _ _
        · split
          · exact filter_ok h _ _
          · exact h

theorem key_mk (v : Int) (m : ByteArray) (p h : Int) (f : Bool) : En.key ⟨v, m, p, h, f⟩ = ⟨v, m⟩ := rfl
/-- A fixed entry stays, whatever is learned, aged or flushed. -/
theorem fixed_stays {room : Nat} {t : Tb} (h : t.ok room) (a : Ac) (h1 : ¬ a.kind = 1) (h2 : ¬ a.kind = 2) {x : En} (hx : x ∈ t.l) (hf : x.fixed = true) : findE (stepT room t a).1.l x.key = some x := by
  have hfx := mem_find h.sorted hx
  have hfil : ∀ p : En → Bool, p x = true → findE (t.l.filter p) x.key = some x := fun p hp => by
    rw [find_filter h.sorted, hfx]; simp only [Option.filter, hp, if_true]
  unfold stepT
  split
  · unfold learnT
    split
    · cases hg : findE t.l ⟨a.vlan, a.mac⟩ with
      | some y =>
        simp only
        cases hy : y.fixed with
        | true => rw [if_pos rfl]; exact hfx
        | false =>
          rw [if_neg Bool.false_ne_true]
          show findE (putR t.l _) x.key = some x
          rw [find_put h.sorted, if_neg]
          · exact hfx
          · intro e
            have e' : x.key = (⟨a.vlan, a.mac⟩ : Ky) := e
            rw [e', hg] at hfx
            cases hfx
            rw [hf] at hy; cases hy
      | none =>
        simp only
        have hne : ¬ x.key = (⟨a.vlan, a.mac⟩ : Ky) := fun e => by rw [e, hg] at hfx; cases hfx
        split
        · show findE (putR t.l _) x.key = some x
          rw [find_put h.sorted, if_neg (show ¬ x.key = En.key ⟨a.vlan, a.mac, a.port, a.n, false⟩ from hne)]
          exact hfx
        · cases ho : oldN t.l t.l.length with
          | none => exact hfx
          | some o =>
            obtain ⟨y, hy⟩ := (old_spec t.l _ (Nat.le_refl _)).2 o ho
            show findE (putR (t.l.eraseIdx o) _) x.key = some x
            rw [find_put (sorted_erase h.sorted o), if_neg (show ¬ x.key = En.key ⟨a.vlan, a.mac, a.port, a.n, false⟩ from hne), find_erase h.sorted hy.at_, if_neg]
            · exact hfx
            · intro e
              have h3 := mem_find h.sorted (List.mem_of_getElem? hy.at_)
              rw [← e, hfx] at h3
              cases h3
              rw [hy.free] at hf; cases hf
    · exact hfx
  · split
    · exact hfil _ (by simp [staysA, hf])
    · split
      · exact hfil _ (by simp [staysF, hf])
      · exact hfx
/-- What is learned is found, where none is fixed. -/
theorem learned_found {room : Nat} {t : Tb} (h : t.ok room) (hr : 1 ≤ room) (v : Int) (m : ByteArray) (p now : Int) (ha : askedR v m p now = 0) (hn : ∀ x ∈ t.l, x.fixed = false) : findE (learnT room t v m p now).1.l ⟨v, m⟩ = some ⟨v, m, p, now, false⟩ := by
  unfold learnT
  rw [if_pos ha]
  have hp : ∀ l, Sorted l → findE (putR l ⟨v, m, p, now, false⟩) ⟨v, m⟩ = some ⟨v, m, p, now, false⟩ := fun l hl => by rw [find_put hl, key_mk, if_pos rfl]
  cases hg : findE t.l ⟨v, m⟩ with
  | some y =>
    simp only
    rw [hn y (find_mem hg).1, if_neg Bool.false_ne_true]
    exact hp _ h.sorted
  | none =>
    simp only
    split
    · exact hp _ h.sorted
    · rename_i hlen
      cases ho : oldN t.l t.l.length with
      | some o => exact hp _ (sorted_erase h.sorted o)
      | none =>
        exfalso
        have h0 : 0 < t.l.length := by omega
        have := (old_spec t.l _ (Nat.le_refl _)).1 ho 0 t.l[0] h0 (List.getElem?_eq_getElem h0)
        rw [hn _ (List.getElem_mem h0)] at this
        cases this
end Dm
end Go.Proofs.Ytkpfdaomhkcokaa
