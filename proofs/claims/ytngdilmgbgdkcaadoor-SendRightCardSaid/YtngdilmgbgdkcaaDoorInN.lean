/-
  Layer 11: a row of ports, in memory; Clone; whether one of them is to be chosen anew.
-/
import Derived.Test.YtngdilmgbgdkcaaDoorInM
import Derived.Test.YtngdilmgbgdkcaaDoorRoK
import Derived.Maps.AppendAt
import Derived.Deep.AppendLies
import Derived.Deep.MidRow
import Derived.Lib.SliceRun
namespace Go.Proofs.YtngdilmgbgdkcaaDoor
set_option linter.unusedVariables false
set_option linter.unusedSimpArgs false
open Go.RowKit Vm Rm Bm Im

/-! ### Many ports, as cells -/
theorem cellsT_len (p : Pt) : (cellsT p).toList.length = 61 := rfl
def cells61 (l : List Pt) : List Value := l.flatMap (fun p => (cellsT p).toList)
theorem cells61_length (l : List Pt) : (cells61 l).length = l.length * 61 := by
  induction l with
  | nil => rfl
  | cons v l ih =>
    have e : cells61 (v :: l) = (cellsT v).toList ++ cells61 l := rfl
    rw [e, List.length_append, ih, List.length_cons, cellsT_len]
    omega
theorem cells61_add (l : List Pt) (x : Pt) : cells61 (l ++ [x]) = cells61 l ++ (cellsT x).toList := by simp [cells61]
theorem cells61_at {l : List Pt} {j : Nat} {p : Pt} (h : l[j]? = some p) (c : Nat) (hc : c < 61) : (cells61 l)[j * 61 + c]? = (cellsT p).toList[c]? := by
  induction l generalizing j with
  | nil => simp at h
  | cons y l ih =>
    have e : cells61 (y :: l) = (cellsT y).toList ++ cells61 l := rfl
    have ly := cellsT_len y
    rw [e]
    cases j with
    | zero =>
      simp only [List.getElem?_cons_zero, Option.some.injEq] at h
      subst h
      rw [List.getElem?_append_left (by omega)]
      congr 1; omega
    | succ j =>
      rw [List.getElem?_append_right (by omega), ly]
      have := ih (j := j) (by simpa using h)
      rw [← this]
      congr 1; omega
theorem cells61_one (l : List Pt) : ∀ u ∈ cells61 l, u.oneCell' = true := by
  intro u hu
  obtain ⟨p, _, hp⟩ := List.mem_flatMap.1 hu
  have h1 := cellsT_one p
  rw [Array.all_eq_true_iff_forall_mem] at h1
  exact h1 u (by simpa using hp)
theorem setCells_size (b : Nat) : ∀ (vs : List Value) (o : Nat) (w : World), (w.setCells b o vs).heap.size = w.heap.size
  | [], _, _ => rfl
  | v :: r, o, w => by rw [World.setCells, setCells_size b r (o + 1) _, size_set]
theorem below_setCells {B : Nat} {a : World} (b : Nat) (hb : B ≤ b) : ∀ (vs : List Value) (o : Nat) (w : World), Below B a w → Below B a (w.setCells b o vs)
  | [], _, _, h => h
  | v :: r, o, w, h => by rw [World.setCells]; exact below_setCells b hb r (o + 1) _ (h.setCell hb _)
/-- A row of ports. -/
structure PRow (w : World) (a : Option Addr) (l : List Pt) : Prop where
  at_ : ∀ j p, l[j]? = some p → ∃ g o : Nat, a = some ⟨g, o, none⟩ ∧ g < w.heap.size ∧ w.rangeAt g (o + j * 61) (cellsT p).toList
theorem prow_nil (w : World) (a : Option Addr) : PRow w a [] := ⟨fun j p h => by simp at h⟩
theorem range_next {w w' : World} {g o B : Nat} {cs : List Value} (h : w.rangeAt g o cs) (hg : g < B) (hb : Below B w w') : w'.rangeAt g o cs := fun j v hv => (hb.cell (p := ⟨g, o + j, none⟩) hg).trans (h j v hv)
theorem PRow.next {w w' : World} {a : Option Addr} {l : List Pt} (h : PRow w a l) (hb : Below w.heap.size w w') : PRow w' a l :=
  ⟨fun j p hp => by obtain ⟨g, o, e, hg, k⟩ := h.at_ j p hp; exact ⟨g, o, e, Nat.lt_of_lt_of_le hg hb.size, range_next k hg hb⟩⟩
/-- A row of ports in a block of its own, which may be written. -/
structure WRow (w : World) (g : Nat) (l : List Pt) : Prop where
  lt : g < w.heap.size
  at_ : ∀ j p, l[j]? = some p → w.rangeAt g (j * 61) (cellsT p).toList
  free : w.there g 0 (l.length * 61)
theorem there_next {w w' : World} {g o n B : Nat} (h : w.there g o n) (hg : g < B) (hb : Below B w w') : w'.there g o n := fun j hj => by
  have h0 := hb.block g hg
  obtain ⟨h1, h2⟩ := h j hj
  constructor
  · rw [hb.cell (p := ⟨g, o + j, none⟩) hg]; exact h1
  · unfold World.frozen? at h2 ⊢
    simp only [h0]
    exact h2
theorem WRow.next {w w' : World} {g : Nat} {l : List Pt} (h : WRow w g l) (hb : Below w.heap.size w w') : WRow w' g l :=
  ⟨Nat.lt_of_lt_of_le h.lt hb.size, fun j p hp => range_next (h.at_ j p hp) h.lt hb, there_next h.free h.lt hb⟩
theorem WRow.row {w : World} {g : Nat} {l : List Pt} (h : WRow w g l) : PRow w (some ⟨g, 0, none⟩) l :=
  ⟨fun j p hp => ⟨g, 0, rfl, h.lt, by rw [Nat.zero_add]; exact h.at_ j p hp⟩⟩
theorem WRow.at61 {w : World} {g : Nat} {l : List Pt} (h : WRow w g l) {k : Nat} (hk : k < l.length) : w.there g (k * 61) 61 := fun j hj => by
  have := h.free (k * 61 + j) (by omega)
  rw [Nat.zero_add] at this
  exact this
theorem WRow.set {w : World} {g : Nat} {l : List Pt} (h : WRow w g l) {k : Nat} (hk : k < l.length) (X : Pt) : WRow (w.setCells g (k * 61) (cellsT X).toList) g (l.set k X) := by
  have hf := h.at61 hk
  refine ⟨by rw [setCells_size]; exact h.lt, fun j p hp => ?_, ?_⟩
  · by_cases hj : k = j
    · subst hj
      rw [List.getElem?_set_self hk] at hp
      cases hp
      exact World.rangeAt_setCells_same w g (k * 61) _ (by rw [cellsT_len]; exact hf)
    · rw [List.getElem?_set_ne hj] at hp
      exact World.rangeAt_setCells_apart (h.at_ j p hp) g (k * 61) _ (.inr (by rw [cellsT_len, cellsT_len]; omega))
  · rw [List.length_set]
    exact World.there_setCells h.free _ _ _
theorem info61 : (Tryd.prog.info? 30).map (fun i => (i.zero, i.size, i.bytes)) = some (some (.agg (cellsT zeroP)), 61, 296) := by kernel_rfl
theorem prow_owned {w : World} {base : Nat} {T : TypeId} {v : Value} {l : List Pt} (h : w.ownsRow base T 61 v l.length (cells61 l)) : ∃ (a : Option Addr) (cap : Nat), v = .slice a l.length cap ∧ l.length ≤ cap ∧ PRow w a l ∧ ((a = none ∧ l = []) ∨ ∃ g, a = some ⟨g, 0, none⟩ ∧ base ≤ g ∧ WRow w g l) := by
  rcases h.2 with ⟨rfl, h0⟩ | ⟨g, cap, cur, rfl, hbg, hg, hnc, hcm, hcs, htake⟩
  · have : l = [] := List.eq_nil_of_length_eq_zero h0
    subst this
    exact ⟨none, 0, rfl, Nat.le_refl _, prow_nil _ _, .inl ⟨rfl, rfl⟩⟩
  · have hlt := (Array.getElem?_eq_some_iff.1 hg).1
    have hW : WRow w g l := by
      refine ⟨hlt, fun j p hp => ?_, ?_⟩
      · intro c v hv
        have hjl := (List.getElem?_eq_some_iff.1 hp).1
        have hc : c < 61 := by have := (List.getElem?_eq_some_iff.1 hv).1; rw [cellsT_len] at this; exact this
        have h1 := h.cellAt (j * 61 + c) (by omega)
        rw [cells61_at hp c hc, hv] at h1
        exact h1
      · intro j hj
        have h1 := h.cellAt j (by omega)
        have h2 : j < (cells61 l).length := by rw [cells61_length]; exact hj
        rw [Nat.zero_add]
        refine ⟨by rw [h1, List.getElem?_eq_getElem h2]; rfl, ?_⟩
        simp [World.frozen?, hg]
    exact ⟨_, cap, rfl, hnc, hW.row, .inr ⟨g, rfl, hbg, hW⟩⟩
theorem PRow.news {w : World} {ad : Addr} {l : List Pt} (h : PRow w (some ad) l) : ∀ j u, (cells61 l)[j]? = some u → w.cell? (ad.add j) = some u := by
  intro j u hj
  have hl : j < l.length * 61 := by have := (List.getElem?_eq_some_iff.1 hj).1; rwa [cells61_length] at this
  have hk : j / 61 < l.length := Nat.div_lt_of_lt_mul (by omega)
  obtain ⟨p, hp⟩ := at_some (l := l) (k := j / 61) hk
  obtain ⟨g, o, e, hg, hc⟩ := h.at_ (j / 61) p hp
  cases e
  have hj2 : j / 61 * 61 + j % 61 = j := by omega
  have h1 := cells61_at hp (j % 61) (Nat.mod_lt _ (by omega))
  rw [hj2, hj] at h1
  have h2 := hc (j % 61) u h1.symm
  rw [Addr.add_mid]
  rw [show o + j = o + j / 61 * 61 + j % 61 from by omega]
  exact h2

end Go.Proofs.YtngdilmgbgdkcaaDoor
