/-
  What the walks of FdbOnce and FdbPlays share: does beside the empty table, Find, a guard's mathematics.
-/
import Derived.Test.YtkpfdaomhkcokaaFdV
namespace Go.Proofs.Ytkpfdaomhkcokaa
set_option linter.unusedVariables false
set_option linter.unusedSimpArgs false
open Go.RowKit Go.Maps Dm

theorem does_x (tb mb room : Nat) (t t' : Tb) (k v : Int) (m : ByteArray) (p n q : Int) (w : World) (h : IsTab w tb mb room t) (hn1 : t.learned ≤ 1000000) (hm : m.size ≤ 20) (hv : inI64 v) (hnn : inI64 n) (ht : (Dm.stepT room t ⟨k, v, m, p, n, q⟩).1 = t') :
    Calls Try.prog 9 #[.pointer (some ⟨tb, 0, none⟩), .agg #[.int .i64 (room : Nat), .slice none 0 0, .int .i64 0], .agg #[.int .i64 k, .int .i64 v, .string m, .int .i64 p, .int .i64 n, .int .i64 q]] w fun e w' => ∃ u, e = .returned u ∧ IsTab w' tb mb room t' ∧ Kept2 tb mb w w' := by
  subst ht
  exact does_e tb mb room t k v m p n q w h hn1 hm hv hnn
theorem find_x (tb mb room : Nat) (t : Tb) (v : Int) (m : ByteArray) (P : Int) (E : Bool) (w : World) (h : IsTab w tb mb room t) (hk : KyOk ⟨v, m⟩) (hf : findR t.l ⟨v, m⟩ = (P, E)) :
    Calls Try.prog 12 #[.pointer (some ⟨tb, 0, none⟩), .int .i64 v, .string m] w fun e w' => e = .returned (.tuple #[.int .i64 P, .bool E]) ∧ Grown w w' := by
  have := find_w tb mb room t v m w h hk
  rwa [hf] at this
theorem ky_en {x : En} (h : x.ok) : KyOk ⟨x.vlan, x.mac⟩ := kyok _ _ ⟨by have := h.v0; omega, by have := h.v1; omega⟩ (by have := h.mac; omega)
theorem asked_zero {v : Int} {m : ByteArray} {p n : Int} (h0 : 0 < m.size) (c2 : m.size = 6) (c3 : (m[0]'h0).toNat % 2 = 0) (c4 : 1 ≤ v) (c5 : v ≤ 4094) (c6 : 0 ≤ p) (c7 : p < 16) (c8 : 0 ≤ n) (c9 : n ≤ 1099511627776) : askedR v m p n = 0 := by
  unfold askedR
  have hg := grp_at m h0
  have h4 : grp6 m = false := by rw [hg]; exact decide_eq_false (by omega)
  rw [if_neg (by omega), if_neg (by rw [h4]; simp; omega)]
theorem sorted_next {l : List En} (hs : Sorted l) {i : Nat} {x y : En} (hx : l[i]? = some x) (hy : l[i + 1]? = some y) : x.key.lt y.key := by
  obtain ⟨h1, rfl⟩ := List.getElem?_eq_some_iff.1 hx
  obtain ⟨h2, rfl⟩ := List.getElem?_eq_some_iff.1 hy
  exact List.pairwise_iff_getElem.1 hs i (i + 1) h1 h2 (Nat.lt_succ_self i)
theorem find_at {t : Tb} {k : Ky} {x : En} (hf : findE t.l k = some x) : findR t.l k = (x.port, true) := by unfold findR; rw [hf]

end Go.Proofs.Ytkpfdaomhkcokaa
