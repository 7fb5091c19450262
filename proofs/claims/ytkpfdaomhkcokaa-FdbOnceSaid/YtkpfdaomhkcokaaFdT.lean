/-
  An act to a table and to the document's empty one; what the laws of layer 7 share.
-/
import Derived.Test.YtkpfdaomhkcokaaFdS
namespace Go.Proofs.Ytkpfdaomhkcokaa
set_option linter.unusedVariables false
set_option linter.unusedSimpArgs false
open Go.RowKit Go.Maps Dm

theorem step_learned (room : Nat) (t : Tb) (a : Ac) : t.learned ≤ (Dm.stepT room t a).1.learned ∧ (Dm.stepT room t a).1.learned ≤ t.learned + 1 := by
  unfold Dm.stepT
  split
  · unfold learnT
    split
    · split
      · split
        · exact ⟨Int.le_refl _, by show t.learned ≤ t.learned + 1; omega⟩
        · refine ⟨?_, ?_⟩ <;> (simp only; split <;> omega)
      · split
        · exact ⟨by show _ ≤ t.learned + 1; omega, Int.le_refl _⟩
        · split
          · exact ⟨Int.le_refl _, by show t.learned ≤ t.learned + 1; omega⟩
          · exact ⟨by show _ ≤ t.learned + 1; omega, Int.le_refl _⟩
    · exact ⟨Int.le_refl _, by show t.learned ≤ t.learned + 1; omega⟩
  · split
    · unfold fixT
      split
      · split
        · exact ⟨Int.le_refl _, by show t.learned ≤ t.learned + 1; omega⟩
        · exact ⟨Int.le_refl _, by show t.learned ≤ t.learned + 1; omega⟩
      · exact ⟨Int.le_refl _, by show t.learned ≤ t.learned + 1; omega⟩
    · split
      · unfold dropT
        split
        · exact ⟨Int.le_refl _, by show t.learned ≤ t.learned + 1; omega⟩
        · exact ⟨Int.le_refl _, by show t.learned ≤ t.learned + 1; omega⟩
      · split
        · exact ⟨Int.le_refl _, by show t.learned ≤ t.learned + 1; omega⟩
        · split
          · exact ⟨Int.le_refl _, by show t.learned ≤ t.learned + 1; omega⟩
          · exact ⟨Int.le_refl _, by show t.learned ≤ t.learned + 1; omega⟩
theorem IsTab.kept {w w' : World} {tb mb ta ma room : Nat} {t : Tb} (h : IsTab w tb mb room t) (hk : Kept2 ta ma w w') (h1 : tb ≠ ta) (h2 : tb ≠ ma) (h3 : mb ≠ ta) (h4 : mb ≠ ma) : IsTab w' tb mb room t :=
  h.same (hk.block tb h.blk.lt h1 h2) (hk.block mb h.map.lt h3 h4)
theorem ARow.kept {w w' : World} {a : Option Addr} {l : List Ac} {ta ma B : Nat} (h : ARow w a l) (hB : ∀ g, a = some g → g.block < B) (hb : B ≤ w.heap.size) (hk : Kept2 ta ma w w') (h1 : B ≤ ta) (h2 : B ≤ ma) : ARow w' a l :=
  ⟨fun j x hx => by
    obtain ⟨g, o, rfl, hg, k⟩ := h.at_ j x hx
    have hlt := hB _ rfl
    have hbe : w'.heap[g]? = w.heap[g]? := hk.block g hg (by have : g < B := hlt; omega) (by have : g < B := hlt; omega)
    have hce : ∀ j, w'.cell? ⟨g, j, none⟩ = w.cell? ⟨g, j, none⟩ := fun j => by simp [World.cell?, hbe]
    obtain ⟨k0, k1, k2, k3, k4, k5⟩ := k
    exact ⟨g, o, rfl, Nat.lt_of_lt_of_le hg hk.size, (hce _).trans k0, (hce _).trans k1, (hce _).trans k2, (hce _).trans k3, (hce _).trans k4, (hce _).trans k5⟩, h.rng⟩
theorem empty_ok (room : Nat) : Tb.ok room ⟨[], 0⟩ := ⟨List.Pairwise.nil, Nat.zero_le _, fun x hx => by cases hx⟩
/-- An act, beside the document's empty table. -/
theorem does_e (tb mb room : Nat) (t : Tb) (k v : Int) (m : ByteArray) (p n q : Int) (w : World) (h : IsTab w tb mb room t) (hn1 : t.learned ≤ 1000000) (hm : m.size ≤ 20) (hv : inI64 v) (hnn : inI64 n) :
    Calls Try.prog 9 #[.pointer (some ⟨tb, 0, none⟩), .agg #[.int .i64 (room : Nat), .slice none 0 0, .int .i64 0], .agg #[.int .i64 k, .int .i64 v, .string m, .int .i64 p, .int .i64 n, .int .i64 q]] w fun e w' => ∃ u, e = .returned u ∧ IsTab w' tb mb room (Dm.stepT room t ⟨k, v, m, p, n, q⟩).1 ∧ Kept2 tb mb w w' := by
  refine (does_w tb mb room t ⟨[], 0⟩ none 0 ⟨k, v, m, p, n, q⟩ w h (row_nil _ _) (Nat.le_refl _) (empty_ok _) (Int.le_refl _) (by decide) hn1 hm hv hnn).mono ?_
  rintro e w' ⟨a', cap', rfl, _, _, h1, h2⟩
  exact ⟨_, rfl, h1, h2⟩
theorem filter_at {l : List En} {p : En → Bool} {j : Nat} {x : En} (h : l[j]? = some x) (hp : p x = true) : (l.filter p)[((l.take j).filter p).length]? = some x := by
  have hj : j < l.length := (List.getElem?_eq_some_iff.1 h).1
  have e : l = l.take j ++ x :: l.drop (j + 1) := by
    have hx := (List.getElem?_eq_some_iff.1 h).2
    rw [← hx, ← List.drop_eq_getElem_cons hj, List.take_append_drop]
  have e2 : l.filter p = (l.take j).filter p ++ x :: (l.drop (j + 1)).filter p := by
    rw [e, List.filter_append, List.filter_cons_of_pos hp]
    rw [← e]
  rw [e2, List.getElem?_append_right (Nat.le_refl _), Nat.sub_self]
  rfl
end Go.Proofs.Ytkpfdaomhkcokaa
