/-
  Plain mathematics of layer 7 (the table): no program is named here. Entries in order, put, taken out, kept by a test; which one was heard longest ago; what each call does to a table.
-/
import Derived.WalkKit
namespace Go.Proofs.Ytkpfdaomhkcokaa
set_option linter.unusedVariables false
set_option linter.unusedSimpArgs false
namespace Dm

/-- What an entry is of. -/
structure Ky where
  vlan : Int
  mac : ByteArray
deriving DecidableEq
theorem mac_eq {a b : ByteArray} (h : a.toList = b.toList) : a = b := by
  rw [ByteArray.toList_eq, ByteArray.toList_eq] at h
  obtain ⟨x⟩ := a
  obtain ⟨y⟩ := b
  have : x = y := Array.toList_inj.1 h
  rw [this]
def Ky.lt (a b : Ky) : Prop := a.vlan < b.vlan ∨ (a.vlan = b.vlan ∧ a.mac.toList < b.mac.toList)
instance (a b : Ky) : Decidable (a.lt b) := by unfold Ky.lt; exact inferInstance
theorem lt_irrefl (a : Ky) : ¬ a.lt a := by
  rintro (h | ⟨_, h⟩)
  · omega
  · exact List.lt_irrefl _ h
theorem lt_trans {a b c : Ky} (h : a.lt b) (k : b.lt c) : a.lt c := by
  rcases h with h | ⟨h1, h2⟩ <;> rcases k with k | ⟨k1, k2⟩
  · exact .inl (by omega)
  · exact .inl (by omega)
  · exact .inl (by omega)
  · exact .inr ⟨by omega, List.lt_trans h2 k2⟩
theorem lt_tri {a b : Ky} (h1 : ¬ a = b) (h2 : ¬ a.lt b) : b.lt a := by
  unfold Ky.lt at *
  by_cases e : a.vlan = b.vlan
  · right
    refine ⟨e.symm, ?_⟩
    by_cases h : b.mac.toList < a.mac.toList
    · exact h
    · exfalso
      have h3 : ¬ a.mac.toList < b.mac.toList := fun h' => h2 (.inr ⟨e, h'⟩)
      have := mac_eq (List.le_antisymm (List.not_lt.1 h) (List.not_lt.1 h3))
      obtain ⟨va, ma⟩ := a
      obtain ⟨vb, mb⟩ := b
      simp only at e this
      exact h1 (by rw [e, this])
  · left
    have : ¬ a.vlan < b.vlan := fun h => h2 (.inl h)
    omega
theorem lt_ne {a b : Ky} (h : a.lt b) : ¬ a = b := fun e => lt_irrefl b (e ▸ h)
theorem lt_not {a b : Ky} (h : a.lt b) : ¬ b.lt a := fun k => lt_irrefl a (lt_trans h k)

/-- An entry. -/
structure En where
  vlan : Int
  mac : ByteArray
  port : Int
  heard : Int
  fixed : Bool
def En.key (x : En) : Ky := ⟨x.vlan, x.mac⟩
def Sorted (l : List En) : Prop := l.Pairwise (fun a b => a.key.lt b.key)

/-- Where an entry is, or would be; is it there? -/
def placeR : List En → Ky → Nat × Bool
  | [], _ => (0, false)
  | x :: l, k => if x.key = k then (0, true) else if k.lt x.key then (0, false) else ((placeR l k).1 + 1, (placeR l k).2)
def findE (l : List En) (k : Ky) : Option En := l.find? (fun x => decide (x.key = k))
/-- An entry put in its place, instead of its own. -/
def putR : List En → En → List En
  | [], e => [e]
  | x :: l, e => if x.key = e.key then e :: l else if e.key.lt x.key then e :: x :: l else x :: putR l e
theorem put_place (l : List En) (e : En) : putR l e = l.take (placeR l e.key).1 ++ e :: l.drop (if (placeR l e.key).2 then (placeR l e.key).1 + 1 else (placeR l e.key).1) := by
  induction l with
  | nil => rfl
  | cons x l ih =>
    unfold putR placeR
    by_cases h1 : x.key = e.key
    · rw [if_pos h1, if_pos h1]; rfl
    · rw [if_neg h1, if_neg h1]
      by_cases h2 : e.key.lt x.key
      · rw [if_pos h2, if_pos h2]; rfl
      · rw [if_neg h2, if_neg h2, ih]
        cases (placeR l e.key).2 <;> simp
theorem place_le (l : List En) (k : Ky) : (placeR l k).1 ≤ l.length ∧ ((placeR l k).2 = true → (placeR l k).1 < l.length) := by
  induction l with
  | nil => simp [placeR]
  | cons x l ih =>
    unfold placeR
    by_cases h1 : x.key = k
    · rw [if_pos h1]; simp
    · rw [if_neg h1]
      by_cases h2 : k.lt x.key
      · rw [if_pos h2]; simp
      · rw [if_neg h2]
        simp only [List.length_cons]
        exact ⟨by omega, fun h => by have := ih.2 h; omega⟩
theorem place_at (l : List En) (k : Ky) (h : (placeR l k).2 = true) : ∃ x, l[(placeR l k).1]? = some x ∧ x.key = k := by
  induction l with
  | nil => simp [placeR] at h
  | cons x l ih =>
    unfold placeR at h ⊢
    by_cases h1 : x.key = k
    · rw [if_pos h1]; exact ⟨x, rfl, h1⟩
    · rw [if_neg h1] at h ⊢
      by_cases h2 : k.lt x.key
      · rw [if_pos h2] at h; cases h
      · rw [if_neg h2] at h ⊢
        simpa using ih h
theorem find_mem {l : List En} {k : Ky} {x : En} (h : findE l k = some x) : x ∈ l ∧ x.key = k := by
  unfold findE at h
  have h1 := List.mem_of_find?_eq_some h
  have h2 := List.find?_some h
  exact ⟨h1, of_decide_eq_true h2⟩
theorem find_none {l : List En} {k : Ky} (h : ∀ x ∈ l, ¬ x.key = k) : findE l k = none := by
  unfold findE
  rw [List.find?_eq_none]
  intro x hx
  simp [h x hx]
theorem mem_find {l : List En} (hs : Sorted l) {x : En} (hx : x ∈ l) : findE l x.key = some x := by
  induction l with
  | nil => cases hx
  | cons y l ih =>
    have hs' := List.pairwise_cons.1 hs
    unfold findE
    rw [List.find?_cons]
    rcases List.mem_cons.1 hx with rfl | hx
    · simp
    · have hne := lt_ne (hs'.1 x hx)
      simp only [hne, decide_false, Bool.false_eq_true]
      exact ih hs'.2 hx
theorem place_find {l : List En} (hs : Sorted l) (k : Ky) : (placeR l k).2 = (findE l k).isSome ∧ ((placeR l k).2 = true → l[(placeR l k).1]? = findE l k) := by
  induction l with
  | nil => simp [placeR, findE]
  | cons x l ih =>
    have hs' := List.pairwise_cons.1 hs
    unfold placeR
    by_cases h1 : x.key = k
    · rw [if_pos h1]
      have : findE (x :: l) k = some x := by unfold findE; rw [List.find?_cons]; simp [h1]
      rw [this]; simp
    · rw [if_neg h1]
      have e : findE (x :: l) k = findE l k := by unfold findE; rw [List.find?_cons]; simp [h1]
      rw [e]
      by_cases h2 : k.lt x.key
      · rw [if_pos h2, find_none (fun y hy e => lt_ne (lt_trans h2 (hs'.1 y hy)) e.symm)]; simp
      · rw [if_neg h2]
        simpa using ih hs'.2

theorem mem_put {l : List En} {e y : En} (h : y ∈ putR l e) : y = e ∨ (y ∈ l) := by
  induction l with
  | nil => simp [putR] at h; exact .inl h
  | cons x l ih =>
    unfold putR at h
    split at h
    · rcases List.mem_cons.1 h with h | h
      · exact .inl h
      · exact .inr (List.mem_cons_of_mem _ h)
    · split at h
      · rcases List.mem_cons.1 h with h | h
        · exact .inl h
        · exact .inr h
      · rcases List.mem_cons.1 h with h | h
        · exact .inr (h ▸ List.mem_cons_self)
        · rcases ih h with h | h
          · exact .inl h
          · exact .inr (List.mem_cons_of_mem _ h)
theorem sorted_put {l : List En} (hs : Sorted l) (e : En) : Sorted (putR l e) := by
  induction l with
  | nil => simp [putR, Sorted]
  | cons x l ih =>
    have hs' := List.pairwise_cons.1 hs
    unfold putR
    by_cases h1 : x.key = e.key
    · rw [if_pos h1]
      exact List.pairwise_cons.2 ⟨fun y hy => h1 ▸ hs'.1 y hy, hs'.2⟩
    · rw [if_neg h1]
      by_cases h2 : e.key.lt x.key
      · rw [if_pos h2]
        refine List.pairwise_cons.2 ⟨fun y hy => ?_, hs⟩
        rcases List.mem_cons.1 hy with rfl | hy
        · exact h2
        · exact lt_trans h2 (hs'.1 y hy)
      · rw [if_neg h2]
        refine List.pairwise_cons.2 ⟨fun y hy => ?_, ih hs'.2⟩
        rcases mem_put hy with rfl | hy
        · exact lt_tri (fun e => h1 e.symm) h2
        · exact hs'.1 y hy
theorem find_put {l : List En} (hs : Sorted l) (e : En) (k : Ky) : findE (putR l e) k = if k = e.key then some e else findE l k := by
  induction l with
  | nil =>
    by_cases h : e.key = k
    · simp [putR, findE, h]
    · have h' : ¬ k = e.key := fun e => h e.symm
      simp [putR, findE, h, h']
  | cons x l ih =>
    have hs' := List.pairwise_cons.1 hs
    have hc : ∀ (y : En) (r : List En), findE (y :: r) k = if y.key = k then some y else findE r k := by
      intro y r
      unfold findE
      rw [List.find?_cons]
      by_cases h : y.key = k <;> simp [h]
    unfold putR
    by_cases h1 : x.key = e.key
    · rw [if_pos h1, hc, hc]
      by_cases h : e.key = k
      · rw [if_pos h, if_pos h.symm]
      · rw [if_neg h, if_neg (fun e => h e.symm), if_neg (by rw [h1]; exact h)]
    · rw [if_neg h1]
      by_cases h2 : e.key.lt x.key
      · rw [if_pos h2, hc]
        by_cases h : e.key = k
        · rw [if_pos h, if_pos h.symm]
        · rw [if_neg h, if_neg (fun e => h e.symm)]
      · rw [if_neg h2, hc, hc, ih hs'.2]
        by_cases h : x.key = k
        · rw [if_pos h, if_pos h, if_neg (by rw [← h]; exact h1)]
        · rw [if_neg h, if_neg h]
theorem put_length (l : List En) (e : En) : (putR l e).length = if (placeR l e.key).2 then l.length else l.length + 1 := by
  induction l with
  | nil => rfl
  | cons x l ih =>
    unfold putR placeR
    by_cases h1 : x.key = e.key
    · rw [if_pos h1, if_pos h1]; rfl
    · rw [if_neg h1, if_neg h1]
      by_cases h2 : e.key.lt x.key
      · rw [if_pos h2, if_pos h2]; rfl
      · rw [if_neg h2, if_neg h2, List.length_cons, ih]
        cases (placeR l e.key).2 <;> simp
theorem sorted_filter {l : List En} (hs : Sorted l) (p : En → Bool) : Sorted (l.filter p) := List.Pairwise.filter p hs
theorem sorted_erase {l : List En} (hs : Sorted l) (i : Nat) : Sorted (l.eraseIdx i) := List.Pairwise.sublist (List.eraseIdx_sublist l i) hs
/-- Two rows in order, of which each finds what the other one does, are the same. -/
theorem sorted_ext {l m : List En} (hl : Sorted l) (hm : Sorted m) (h : ∀ k, findE l k = findE m k) : l = m := by
  induction l generalizing m with
  | nil =>
    cases m with
    | nil => rfl
    | cons y m =>
      have := h y.key
      rw [mem_find hm List.mem_cons_self] at this
      cases this
  | cons x l ih =>
    have hx : findE m x.key = some x := by rw [← h, mem_find hl List.mem_cons_self]
    cases m with
    | nil => cases hx
    | cons y m =>
      have hl' := List.pairwise_cons.1 hl
      have hm' := List.pairwise_cons.1 hm
      have hy : findE (x :: l) y.key = some y := by rw [h, mem_find hm List.mem_cons_self]
      have exy : x = y := by
        rcases List.mem_cons.1 (find_mem hx).1 with e | e
        · exact e
        · rcases List.mem_cons.1 (find_mem hy).1 with e' | e'
          · exact e'.symm
          · exact absurd (hl'.1 y e') (lt_not (hm'.1 x e))
      subst exy
      congr 1
      refine ih hl'.2 hm'.2 fun k => ?_
      have hk := h k
      unfold findE at hk ⊢
      rw [List.find?_cons, List.find?_cons] at hk
      by_cases e : x.key = k
      · have n1 : findE l k = none := find_none (fun z hz ez => lt_ne (hl'.1 z hz) (e.trans ez.symm))
        have n2 : findE m k = none := find_none (fun z hz ez => lt_ne (hm'.1 z hz) (e.trans ez.symm))
        exact n1.trans n2.symm
      · simpa [e] using hk
/-- The entry at a place, taken out. -/
theorem find_erase {l : List En} (hs : Sorted l) {i : Nat} {x : En} (hx : l[i]? = some x) (k : Ky) : findE (l.eraseIdx i) k = if k = x.key then none else findE l k := by
  induction l generalizing i with
  | nil => cases hx
  | cons y l ih =>
    have hs' := List.pairwise_cons.1 hs
    have hc : ∀ (y : En) (r : List En), findE (y :: r) k = if y.key = k then some y else findE r k := by
      intro y r
      unfold findE
      rw [List.find?_cons]
      by_cases h : y.key = k <;> simp [h]
    cases i with
    | zero =>
      simp at hx
      subst hx
      rw [List.eraseIdx_cons_zero, hc]
      by_cases h : y.key = k
      · rw [if_pos h.symm, find_none (fun z hz ez => lt_ne (hs'.1 z hz) (h.trans ez.symm))]
      · rw [if_neg (fun e => h e.symm), if_neg h]
    | succ i =>
      rw [List.eraseIdx_cons_succ, hc, hc]
      have hx' : l[i]? = some x := by simpa using hx
      rw [ih hs'.2 hx']
      by_cases h : y.key = k
      · have : ¬ k = x.key := fun e => lt_ne (hs'.1 x (List.mem_of_getElem? hx')) (h.trans e)
        rw [if_pos h, if_pos h, if_neg this]
      · rw [if_neg h, if_neg h]
theorem find_filter {l : List En} (hs : Sorted l) (p : En → Bool) (k : Ky) : findE (l.filter p) k = (findE l k).filter p := by
  cases hf : findE l k with
  | none =>
    refine find_none fun x hx e => ?_
    have := mem_find hs (List.mem_filter.1 hx).1
    rw [e, hf] at this
    cases this
  | some x =>
    obtain ⟨hm, hk⟩ := find_mem hf
    cases hp : p x with
    | true =>
      have h1 : x ∈ l.filter p := List.mem_filter.2 ⟨hm, hp⟩
      have h2 := mem_find (sorted_filter hs p) h1
      rw [hk] at h2
      rw [h2]
      simp only [Option.filter, hp, if_true]
    | false =>
      have : (some x).filter p = none := by simp only [Option.filter, hp, Bool.false_eq_true, if_false]
      rw [this]
      refine find_none fun y hy e => ?_
      have h1 := mem_find hs (List.mem_filter.1 hy).1
      rw [e, hf] at h1
      cases h1
      have := (List.mem_filter.1 hy).2
      rw [hp] at this; cases this

/-- Of the first k, which one was heard longest ago, of those that aren't fixed. -/
def oldN (l : List En) : Nat → Option Nat
  | 0 => none
  | k + 1 => match l[k]? with
    | some x => if x.fixed then oldN l k else match oldN l k with
      | none => some k
      | some o => match l[o]? with
        | some y => if x.heard < y.heard then some k else some o
        | none => some k
    | none => oldN l k
structure Oldest (l : List En) (k o : Nat) (y : En) : Prop where
  lt : o < k
  at_ : l[o]? = some y
  free : y.fixed = false
  least : ∀ i x, i < k → l[i]? = some x → x.fixed = false → y.heard < x.heard ∨ (y.heard = x.heard ∧ o ≤ i)
theorem old_spec (l : List En) (k : Nat) (hk : k ≤ l.length) : (oldN l k = none → ∀ i x, i < k → l[i]? = some x → x.fixed = true) ∧ (∀ o, oldN l k = some o → ∃ y, Oldest l k o y) := by
  induction k with
  | zero => exact ⟨fun _ i x h => by omega, fun o h => by cases h⟩
  | succ k ih =>
    obtain ⟨ih1, ih2⟩ := ih (by omega)
    obtain ⟨x, hx⟩ : ∃ x, l[k]? = some x := ⟨l[k], List.getElem?_eq_getElem (by omega)⟩
    unfold oldN
    simp only [hx]
    cases hf : x.fixed with
    | true =>
      simp only [if_true]
      constructor
      · intro hn i z hi hz
        by_cases e : i = k
        · subst e; rw [hx] at hz; cases hz; exact hf
        · exact ih1 hn i z (by omega) hz
      · intro o ho
        obtain ⟨y, hy⟩ := ih2 o ho
        refine ⟨y, by have := hy.lt; omega, hy.at_, hy.free, fun i z hi hz hzf => ?_⟩
        by_cases e : i = k
        · subst e; rw [hx] at hz; cases hz; rw [hf] at hzf; cases hzf
        · exact hy.least i z (by omega) hz hzf
    | false =>
      simp only [Bool.false_eq_true, if_false]
      cases ho : oldN l k with
      | none =>
        simp only
        refine ⟨(fun h => by cases h), fun o h => ?_⟩
        cases h
        refine ⟨x, by omega, hx, hf, fun i z hi hz hzf => ?_⟩
        by_cases e : i = k
        · subst e; rw [hx] at hz; cases hz; exact .inr ⟨rfl, Nat.le_refl _⟩
        · have := ih1 ho i z (by omega) hz
          rw [hzf] at this; cases this
      | some o =>
        obtain ⟨y, hy⟩ := ih2 o ho
        simp only [hy.at_]
        by_cases hlt : x.heard < y.heard
        · rw [if_pos hlt]
          refine ⟨(fun h => by cases h), fun o' h => ?_⟩
          cases h
          refine ⟨x, by omega, hx, hf, fun i z hi hz hzf => ?_⟩
          by_cases e : i = k
          · subst e; rw [hx] at hz; cases hz; exact .inr ⟨rfl, Nat.le_refl _⟩
          · rcases hy.least i z (by omega) hz hzf with h | ⟨h, _⟩
            · exact .inl (by omega)
            · exact .inl (by omega)
        · rw [if_neg hlt]
          refine ⟨(fun h => by cases h), fun o' h => ?_⟩
          cases h
          refine ⟨y, by have := hy.lt; omega, hy.at_, hy.free, fun i z hi hz hzf => ?_⟩
          by_cases e : i = k
          · subst e; rw [hx] at hz; cases hz
            by_cases e2 : y.heard = x.heard
            · exact .inr ⟨e2, by have := hy.lt; omega⟩
            · exact .inl (by omega)
          · exact hy.least i z (by omega) hz hzf
end Dm
end Go.Proofs.Ytkpfdaomhkcokaa
