/-
  Plain mathematics of layer 7: as long as there is room, what is done in one VLAN plays no part in another one.
-/
import Derived.Test.YtkpfdaomhkcokaaFdMath2
namespace Go.Proofs.Ytkpfdaomhkcokaa
set_option linter.unusedVariables false
set_option linter.unusedSimpArgs false
namespace Dm

def inV (v : Int) (x : En) : Bool := decide (x.vlan = v)
theorem put_filter {l : List En} (hs : Sorted l) (e : En) (v : Int) : (putR l e).filter (inV v) = if e.vlan = v then putR (l.filter (inV v)) e else l.filter (inV v) := by
  have hf := sorted_filter hs (inV v)
  by_cases hv : e.vlan = v
  · rw [if_pos hv]
    refine sorted_ext (sorted_filter (sorted_put hs e) _) (sorted_put hf e) fun k => ?_
    rw [find_filter (sorted_put hs e), find_put hs, find_put hf, find_filter hs]
    by_cases hk : k = e.key
    · rw [if_pos hk, if_pos hk]
      simp only [Option.filter, inV, hv, decide_true, if_true]
    · rw [if_neg hk, if_neg hk]
  · rw [if_neg hv]
    refine sorted_ext (sorted_filter (sorted_put hs e) _) hf fun k => ?_
    rw [find_filter (sorted_put hs e), find_put hs, find_filter hs]
    by_cases hk : k = e.key
    · rw [if_pos hk]
      have h1 : (some e).filter (inV v) = none := by simp only [Option.filter, inV, hv, decide_false, Bool.false_eq_true, if_false]
      rw [h1]
      cases hx : findE l k with
      | none => rfl
      | some x =>
        have h2 := (find_mem hx).2
        have h3 : x.vlan = e.vlan := by
          have := h2.trans hk
          exact congrArg Ky.vlan this
        have h4 : inV v x = false := by unfold inV; rw [h3]; exact decide_eq_false hv
        simp only [Option.filter, h4, Bool.false_eq_true, if_false]
    · rw [if_neg hk]
theorem find_inV {l : List En} (hs : Sorted l) (v : Int) (m : ByteArray) : findE (l.filter (inV v)) ⟨v, m⟩ = findE l ⟨v, m⟩ := by
  rw [find_filter hs]
  cases hx : findE l ⟨v, m⟩ with
  | none => rfl
  | some x =>
    have h2 : x.vlan = v := congrArg Ky.vlan (find_mem hx).2
    have h4 : inV v x = true := by unfold inV; exact decide_eq_true h2
    simp only [Option.filter, h4, if_true]
theorem filter_comm (l : List En) (p q : En → Bool) : (l.filter p).filter q = (l.filter q).filter p := by
  rw [List.filter_filter, List.filter_filter]
  congr 1
  funext x
  exact Bool.and_comm _ _
theorem erase_filter {l : List En} (hs : Sorted l) {i : Nat} {x : En} (hx : l[i]? = some x) (v : Int) (hv : ¬ x.vlan = v) : (l.eraseIdx i).filter (inV v) = l.filter (inV v) := by
  refine sorted_ext (sorted_filter (sorted_erase hs i) _) (sorted_filter hs _) fun k => ?_
  rw [find_filter (sorted_erase hs i), find_erase hs hx, find_filter hs]
  by_cases hk : k = x.key
  · rw [if_pos hk, hk, mem_find hs (List.mem_of_getElem? hx)]
    have h4 : inV v x = false := by unfold inV; exact decide_eq_false hv
    simp only [Option.filter, h4, Bool.false_eq_true, if_false]
  · rw [if_neg hk]
theorem erase_both {l : List En} (hs : Sorted l) {i j : Nat} {x : En} (hx : l[i]? = some x) (v : Int) (hj : (l.filter (inV v))[j]? = some x) : (l.eraseIdx i).filter (inV v) = (l.filter (inV v)).eraseIdx j := by
  have hf := sorted_filter hs (inV v)
  refine sorted_ext (sorted_filter (sorted_erase hs i) _) (sorted_erase hf j) fun k => ?_
  rw [find_filter (sorted_erase hs i), find_erase hs hx, find_erase hf hj, find_filter hs]
  by_cases hk : k = x.key
  · rw [if_pos hk, if_pos hk]; rfl
  · rw [if_neg hk, if_neg hk]

theorem vlans_learn {ta tb : Tb} (ha : ta.ok 64) (v vl : Int) (m : ByteArray) (p now : Int) (hr : tb.l = ta.l.filter (inV v)) (hlen : ta.l.length < 64) :
    (if vl = v then (learnT 64 tb vl m p now).1.l else tb.l) = (learnT 64 ta vl m p now).1.l.filter (inV v) := by
  have hlb : tb.l.length < 64 := by rw [hr]; exact Nat.lt_of_le_of_lt (List.length_filter_le _ _) hlen
  unfold learnT
  by_cases hk : askedR vl m p now = 0
  · rw [if_pos hk, if_pos hk]
    by_cases hv : vl = v
    · subst hv
      rw [if_pos rfl]
      have hf : findE tb.l ⟨vl, m⟩ = findE ta.l ⟨vl, m⟩ := by rw [hr]; exact find_inV ha.sorted vl m
      rw [hf]
      cases hg : findE ta.l ⟨vl, m⟩ with
      | some x =>
        simp only
        cases hx : x.fixed with
        | true => simp only [if_true]; exact hr
        | false =>
          simp only [Bool.false_eq_true, if_false]
          rw [put_filter ha.sorted, if_pos rfl, hr]
      | none =>
        simp only
        rw [if_pos hlb, if_pos hlen]
        show putR tb.l _ = (putR ta.l _).filter _
        rw [put_filter ha.sorted, if_pos rfl, hr]
    · rw [if_neg hv]
      cases hg : findE ta.l ⟨vl, m⟩ with
      | some x =>
        simp only
        cases hx : x.fixed with
        | true => simp only [if_true]; exact hr
        | false =>
          simp only [Bool.false_eq_true, if_false]
          rw [put_filter ha.sorted, if_neg hv, hr]
      | none =>
        simp only
        rw [if_pos hlen]
        show tb.l = (putR ta.l _).filter _
        rw [put_filter ha.sorted, if_neg hv, hr]
  · rw [if_neg hk, if_neg hk]
    split <;> exact hr
theorem vlans_fix {ta tb : Tb} (ha : ta.ok 64) (v vl : Int) (m : ByteArray) (p : Int) (hr : tb.l = ta.l.filter (inV v)) (hlen : ta.l.length < 64) :
    (if vl = v then (fixT 64 tb vl m p).1.l else tb.l) = (fixT 64 ta vl m p).1.l.filter (inV v) := by
  have hlb : tb.l.length < 64 := by rw [hr]; exact Nat.lt_of_le_of_lt (List.length_filter_le _ _) hlen
  unfold fixT
  by_cases hk : askedR vl m p 0 = 0
  · rw [if_pos hk, if_pos hk, if_neg (show ¬ (findE tb.l ⟨vl, m⟩ = none ∧ 64 ≤ tb.l.length) from fun h => by omega), if_neg (show ¬ (findE ta.l ⟨vl, m⟩ = none ∧ 64 ≤ ta.l.length) from fun h => by omega)]
    simp only
    rw [put_filter ha.sorted]
    by_cases hv : vl = v
    · rw [if_pos hv, if_pos hv, hr]
    · rw [if_neg hv, if_neg hv, hr]
  · rw [if_neg hk, if_neg hk]
    split <;> exact hr
theorem vlans_drop {ta tb : Tb} (ha : ta.ok 64) (hb : tb.ok 64) (v vl : Int) (m : ByteArray) (hr : tb.l = ta.l.filter (inV v)) :
    (if vl = v then (dropT tb vl m).1.l else tb.l) = (dropT ta vl m).1.l.filter (inV v) := by
  unfold dropT
  have hpl : ∀ (t : Tb), Sorted t.l → ∀ x, findE t.l ⟨vl, m⟩ = some x → t.l[(placeR t.l ⟨vl, m⟩).1]? = some x := fun t hs x hx => by
    obtain ⟨h1, h2⟩ := place_find hs ⟨vl, m⟩
    rw [hx] at h1 h2
    exact h2 h1
  cases hg : findE ta.l ⟨vl, m⟩ with
  | none =>
    rw [if_pos (show (none : Option En) = none from rfl)]
    by_cases hv : vl = v
    · subst hv
      have hf : findE tb.l ⟨vl, m⟩ = none := by rw [hr, find_inV ha.sorted vl m]; exact hg
      rw [if_pos rfl, if_pos hf]; exact hr
    · rw [if_neg hv]; exact hr
  | some x =>
    have hsn : ¬ (some x = none) := fun e => by cases e
    rw [if_neg hsn]
    have hx := hpl ta ha.sorted x hg
    have hxv : x.vlan = vl := congrArg Ky.vlan (find_mem hg).2
    by_cases hv : vl = v
    · subst hv
      have hf : findE tb.l ⟨vl, m⟩ = some x := by rw [hr, find_inV ha.sorted vl m]; exact hg
      rw [if_pos rfl, hf, if_neg hsn]
      have hy := hpl tb hb.sorted x hf
      show tb.l.eraseIdx _ = (ta.l.eraseIdx _).filter _
      rw [erase_both ha.sorted hx vl (j := (placeR tb.l ⟨vl, m⟩).1) (by rw [← hr]; exact hy), hr]
    · rw [if_neg hv]
      show tb.l = (ta.l.eraseIdx _).filter _
      rw [erase_filter ha.sorted hx v (by rw [hxv]; exact hv)]; exact hr
/-- One act, in a table of all VLANs and in one of one VLAN alone. -/
theorem vlans_step {ta tb : Tb} (ha : ta.ok 64) (hb : tb.ok 64) (v : Int) (a : Ac) (hr : tb.l = ta.l.filter (inV v)) (hlen : ta.l.length < 64) :
    (if a.kind = 3 ∨ a.vlan = v then (stepT 64 tb a).1.l else tb.l) = (stepT 64 ta a).1.l.filter (inV v) := by
  unfold stepT
  by_cases h0 : a.kind = 0
  · rw [if_pos h0, if_pos h0, ← vlans_learn ha v a.vlan a.mac a.port a.n hr hlen]
    have : (a.kind = 3 ∨ a.vlan = v) ↔ a.vlan = v := ⟨fun h => h.elim (fun h => by omega) id, .inr⟩
    simp only [this]
  · rw [if_neg h0, if_neg h0]
    by_cases h1 : a.kind = 1
    · rw [if_pos h1, if_pos h1, ← vlans_fix ha v a.vlan a.mac a.port hr hlen]
      have : (a.kind = 3 ∨ a.vlan = v) ↔ a.vlan = v := ⟨fun h => h.elim (fun h => by omega) id, .inr⟩
      simp only [this]
    · rw [if_neg h1, if_neg h1]
      by_cases h2 : a.kind = 2
      · rw [if_pos h2, if_pos h2, ← vlans_drop ha hb v a.vlan a.mac hr]
        have : (a.kind = 3 ∨ a.vlan = v) ↔ a.vlan = v := ⟨fun h => h.elim (fun h => by omega) id, .inr⟩
        simp only [this]
      · rw [if_neg h2, if_neg h2]
        by_cases h3 : a.kind = 3
        · rw [if_pos h3, if_pos h3, if_pos (.inl h3)]
          show tb.l.filter _ = (ta.l.filter _).filter _
          rw [hr, filter_comm]
        · rw [if_neg h3, if_neg h3]
          by_cases h4 : a.kind = 4
          · rw [if_pos h4, if_pos h4]
            show _ = (ta.l.filter _).filter _
            by_cases hv : a.vlan = v
            · rw [if_pos (.inr hv)]
              show tb.l.filter _ = _
              rw [hr, filter_comm]
            · rw [if_neg (fun h => h.elim h3 hv), hr, List.filter_filter]
              refine List.filter_congr fun x _ => ?_
              by_cases hx : x.vlan = v
              · have : ¬ x.vlan = a.vlan := fun e => hv (by omega)
                simp [inV, staysF, hx, this]
                exact Or.inl (.inr (by omega))
              · simp [inV, hx]
          · rw [if_neg h4, if_neg h4]
            split <;> exact hr
theorem step_length (room : Nat) {t : Tb} (h : Sorted t.l) (a : Ac) : (stepT room t a).1.l.length ≤ t.l.length + 1 := by
  have hp : ∀ (l : List En) (e : En), (putR l e).length ≤ l.length + 1 := fun l e => by rw [put_length]; split <;> omega
  unfold stepT
  split
  · unfold learnT
    split
    · split
      · split
        · exact Nat.le_succ _
        · exact hp _ _
      · split
        · exact hp _ _
        · split
          · exact Nat.le_succ _
          · exact Nat.le_trans (hp _ _) (Nat.succ_le_succ (List.length_eraseIdx_le _ _))
    · exact Nat.le_succ _
  · split
    · unfold fixT
      split
      · split
        · exact Nat.le_succ _
        · exact hp _ _
      · exact Nat.le_succ _
    · split
      · unfold dropT
        split
        · exact Nat.le_succ _
        · exact Nat.le_trans (List.length_eraseIdx_le _ _) (Nat.le_succ _)
      · split
        · exact Nat.le_trans (List.length_filter_le _ _) (Nat.le_succ _)
        · split
          · exact Nat.le_trans (List.length_filter_le _ _) (Nat.le_succ _)
          · exact Nat.le_succ _
end Dm
end Go.Proofs.Ytkpfdaomhkcokaa
