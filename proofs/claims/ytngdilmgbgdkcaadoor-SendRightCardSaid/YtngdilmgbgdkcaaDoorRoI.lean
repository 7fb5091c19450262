/-
  Layer 8: Select.
-/
import Derived.Test.YtngdilmgbgdkcaaDoorRoG
import Derived.Deep.AppendLies
import Derived.Deep.RegionLaw
import Derived.Deep.CutBlock
namespace Go.Proofs.YtngdilmgbgdkcaaDoor
set_option linter.unusedVariables false
set_option linter.unusedSimpArgs false
open Go.RowKit Vm Rm

theorem infoInt : (Tryd.prog.info? 3).map (fun i => (i.zero, i.size, i.bytes)) = some (some (.int .i64 0), 1, 8) := by kernel_rfl
theorem infoVec : (Tryd.prog.info? 28).map (fun i => (i.zero, i.size, i.bytes)) = some (some (vv 0 0 0 0), 4, 32) := by kernel_rfl
def cellsI (l : List Int) : List Value := l.map (fun n => .int .i64 n)
def cellsV (l : List Vc) : List Value := l.flatMap (fun v => [.int .u64 v.root, .int .u64 v.cost, .int .u64 v.bridge, .int .u64 v.port])
theorem cellsI_length (l : List Int) : (cellsI l).length = l.length := by simp [cellsI]
theorem cellsV_length (l : List Vc) : (cellsV l).length = l.length * 4 := by
  induction l with
  | nil => rfl
  | cons v l ih =>
    have e : cellsV (v :: l) = [.int .u64 v.root, .int .u64 v.cost, .int .u64 v.bridge, .int .u64 v.port] ++ cellsV l := rfl
    rw [e, List.length_append, ih, List.length_cons]
    simp
    omega
theorem cellsI_add (l : List Int) (x : Int) : cellsI (l ++ [x]) = cellsI l ++ [.int .i64 x] := by simp [cellsI]
theorem cellsV_add (l : List Vc) (v : Vc) : cellsV (l ++ [v]) = cellsV l ++ [.int .u64 v.root, .int .u64 v.cost, .int .u64 v.bridge, .int .u64 v.port] := by simp [cellsV]
theorem cellsV_at {l : List Vc} {j : Nat} {v : Vc} (h : l[j]? = some v) (c : Nat) (hc : c < 4) : (cellsV l)[j * 4 + c]? = [Value.int .u64 v.root, .int .u64 v.cost, .int .u64 v.bridge, .int .u64 v.port][c]? := by
  induction l generalizing j with
  | nil => simp at h
  | cons y l ih =>
    have e : cellsV (y :: l) = [Value.int .u64 y.root, .int .u64 y.cost, .int .u64 y.bridge, .int .u64 y.port] ++ cellsV l := rfl
    rw [e]
    cases j with
    | zero =>
      simp at h
      subst h
      rw [List.getElem?_append_left (by simp; omega)]
      congr 1; omega
    | succ j =>
      rw [List.getElem?_append_right (by simp; omega)]
      have := ih (j := j) (by simpa using h)
      rw [← this]
      congr 1; simp; omega
/-- A row of ints; of vectors. -/
structure NRow (w : World) (a : Option Addr) (l : List Int) : Prop where
  at_ : ∀ j x, l[j]? = some x → ∃ g o : Nat, a = some ⟨g, o, none⟩ ∧ g < w.heap.size ∧ w.cell? ⟨g, o + j, none⟩ = some (.int .i64 x)
structure VRow (w : World) (a : Option Addr) (l : List Vc) : Prop where
  at_ : ∀ j x, l[j]? = some x → ∃ g o : Nat, a = some ⟨g, o, none⟩ ∧ g < w.heap.size ∧ w.cell? ⟨g, o + j * 4, none⟩ = some (.int .u64 x.root) ∧ w.cell? ⟨g, o + j * 4 + 1, none⟩ = some (.int .u64 x.cost) ∧ w.cell? ⟨g, o + j * 4 + 2, none⟩ = some (.int .u64 x.bridge) ∧ w.cell? ⟨g, o + j * 4 + 3, none⟩ = some (.int .u64 x.port)
theorem NRow.next {w w' : World} {a : Option Addr} {l : List Int} (h : NRow w a l) (hb : Below w.heap.size w w') : NRow w' a l :=
  ⟨fun j x hx => by obtain ⟨g, o, e, hg, k⟩ := h.at_ j x hx; exact ⟨g, o, e, Nat.lt_of_lt_of_le hg hb.size, (hb.cell (p := ⟨g, o + j, none⟩) hg).trans k⟩⟩
theorem VRow.next {w w' : World} {a : Option Addr} {l : List Vc} (h : VRow w a l) (hb : Below w.heap.size w w') : VRow w' a l :=
  ⟨fun j x hx => by
    obtain ⟨g, o, e, hg, k0, k1, k2, k3⟩ := h.at_ j x hx
    exact ⟨g, o, e, Nat.lt_of_lt_of_le hg hb.size, (hb.cell (p := ⟨g, o + j * 4, none⟩) hg).trans k0, (hb.cell (p := ⟨g, o + j * 4 + 1, none⟩) hg).trans k1, (hb.cell (p := ⟨g, o + j * 4 + 2, none⟩) hg).trans k2, (hb.cell (p := ⟨g, o + j * 4 + 3, none⟩) hg).trans k3⟩⟩
theorem nrow_owned {w : World} {base : Nat} {v : Value} {l : List Int} (h : w.ownsRow base 3 1 v l.length (cellsI l)) : ∃ (a : Option Addr) (cap : Nat), v = .slice a l.length cap ∧ NRow w a l ∧ ∀ x, a = some x → base ≤ x.block := by
  rcases h.2 with ⟨rfl, h0⟩ | ⟨g, cap, cur, rfl, hbg, hg, hnc, hcm, hcs, htake⟩
  · have : l = [] := List.eq_nil_of_length_eq_zero h0
    subst this
    exact ⟨none, 0, rfl, ⟨fun j x h => by simp at h⟩, fun x e => by cases e⟩
  · refine ⟨_, cap, rfl, ⟨fun j n hj => ⟨g, 0, rfl, (Array.getElem?_eq_some_iff.1 hg).1, ?_⟩⟩, fun x e => by cases e; exact hbg⟩
    have hjl := (List.getElem?_eq_some_iff.1 hj).1
    have hc := h.cellAt j (by omega)
    rw [Nat.zero_add, hc]
    simp [cellsI, hj]
theorem vrow_owned {w : World} {base : Nat} {v : Value} {l : List Vc} (h : w.ownsRow base 28 4 v l.length (cellsV l)) : ∃ (a : Option Addr) (cap : Nat), v = .slice a l.length cap ∧ VRow w a l ∧ ∀ x, a = some x → base ≤ x.block := by
  rcases h.2 with ⟨rfl, h0⟩ | ⟨g, cap, cur, rfl, hbg, hg, hnc, hcm, hcs, htake⟩
  · have : l = [] := List.eq_nil_of_length_eq_zero h0
    subst this
    exact ⟨none, 0, rfl, ⟨fun j x h => by simp at h⟩, fun x e => by cases e⟩
  · refine ⟨_, cap, rfl, ⟨fun j n hj => ⟨g, 0, rfl, (Array.getElem?_eq_some_iff.1 hg).1, ?_⟩⟩, fun x e => by cases e; exact hbg⟩
    have hjl := (List.getElem?_eq_some_iff.1 hj).1
    have key : ∀ c, c < 4 → w.cell? ⟨g, 0 + j * 4 + c, none⟩ = [Value.int .u64 n.root, .int .u64 n.cost, .int .u64 n.bridge, .int .u64 n.port][c]? := fun c hc => by
      have h1 := h.cellAt (j * 4 + c) (by omega)
      rw [cellsV_at hj c hc] at h1
      rw [Nat.zero_add]; exact h1
    exact ⟨key 0 (by omega), key 1 (by omega), key 2 (by omega), key 3 (by omega)⟩

/-! ### What Select answers -/
def offerR (br : Int) (v : Vc) (p : Inf) : Vc := ⟨v.root, v.cost, br, p.id⟩
def offersR (br : Int) (l : List Inf) : List Vc := l.map (offerR br (rootV br l))
def rolesN (br : Int) (l : List Inf) : Nat → List Int
  | 0 => []
  | k + 1 => rolesN br l k ++ (match l[k]? with | some p => [roleAt br l k p] | none => [])
theorem rolesN_succ {br : Int} {l : List Inf} {k : Nat} {p : Inf} (h : l[k]? = some p) : rolesN br l (k + 1) = rolesN br l k ++ [roleAt br l k p] := by rw [rolesN, h]
theorem rolesN_length (br : Int) (l : List Inf) : ∀ k, k ≤ l.length → (rolesN br l k).length = k
  | 0, _ => rfl
  | k + 1, h => by
    obtain ⟨p, hp⟩ := at_some (l := l) (k := k) (by omega)
    rw [rolesN_succ hp, List.length_append, rolesN_length br l k (by omega)]
    rfl
theorem rolesN_at {br : Int} {l : List Inf} {i : Nat} {p : Inf} (hp : l[i]? = some p) : ∀ k, k ≤ l.length → i < k → (rolesN br l k)[i]? = some (roleAt br l i p)
  | 0, _, h => by omega
  | k + 1, hk, h => by
    obtain ⟨q, hq⟩ := at_some (l := l) (k := k) (by omega)
    have hlen := rolesN_length br l k (by omega)
    rw [rolesN_succ hq]
    by_cases e : i = k
    · subst e
      rw [hp] at hq; cases hq
      rw [List.getElem?_append_right (by omega), hlen, Nat.sub_self]
      rfl
    · rw [List.getElem?_append_left (by omega)]
      exact rolesN_at hp k (by omega) (by omega)
theorem offers_succ {br : Int} {v : Vc} {l : List Inf} {k : Nat} {p : Inf} (h : l[k]? = some p) : (l.take (k + 1)).map (offerR br v) = (l.take k).map (offerR br v) ++ [⟨v.root, v.cost, br, p.id⟩] := by
  rw [take_next' h, List.map_append]; rfl
theorem offers_at {br : Int} {l : List Inf} {i : Nat} {p : Inf} (hp : l[i]? = some p) : (offersR br l)[i]? = some (offerR br (rootV br l) p) := by
  unfold offersR
  rw [List.getElem?_map, hp]; rfl
theorem offers_len (br : Int) (l : List Inf) : (offersR br l).length = l.length := by unfold offersR; rw [List.length_map]

/-! ### A result's block -/
abbrev res (r c b p P : Int) (rs os : Value) : Value := .agg #[.int .u64 r, .int .u64 c, .int .u64 b, .int .u64 p, .int .i64 P, rs, os]
/-- A block of seven, filled anew. -/
abbrev put7 (w : World) (n : Nat) (r c b p P : Int) (rs os : Value) : World := ((((put4 w n r c b p).setCell ⟨n, 4, none⟩ (.int .i64 P)).setCell ⟨n, 5, none⟩ rs).setCell ⟨n, 6, none⟩ os)
theorem below_put7 {B : Nat} {a w : World} (h : Below B a w) {n : Nat} (hn : B ≤ n) (r c b p P : Int) (rs os : Value) : Below B a (put7 w n r c b p P rs os) :=
  (((below_put4 h hn r c b p).setCell (p := ⟨n, 4, none⟩) hn _).setCell (p := ⟨n, 5, none⟩) hn _).setCell (p := ⟨n, 6, none⟩) hn _
theorem own_far {w : World} {base x : Nat} {T : TypeId} {s : Nat} {v : Value} {k : Nat} {xs : List Value} (h : w.ownsRow base T s v k xs) (hx : x < base) : some x ≠ v.ownBlock := by
  intro e
  have := (h.lt x e.symm).1
  omega
/-- Rows of two types lie in two blocks. -/
theorem own_apart {w : World} {base base' : Nat} {T T' : TypeId} {s s' : Nat} {v v' : Value} {k k' : Nat} {xs xs' : List Value} (h : w.ownsRow base T s v k xs) (h' : w.ownsRow base' T' s' v' k' xs') (hT : T ≠ T') : v.ownBlock = none ∨ v.ownBlock ≠ v'.ownBlock := by
  rcases h.2 with ⟨rfl, _⟩ | ⟨g, cap, cur, rfl, _, hg, _⟩
  · exact .inl rfl
  · right
    intro e
    rcases h'.2 with ⟨rfl, _⟩ | ⟨g', cap', cur', rfl, _, hg', _⟩
    · simp [Value.ownBlock] at e
    · simp [Value.ownBlock] at e
      subst e
      rw [hg] at hg'
      simp at hg'
      exact hT hg'.2
theorem grown_set (w : World) (b i : Nat) (v : Value) : w.grownBy (w.setCell ⟨b, i, none⟩ v) (some b) :=
  ⟨rfl, rfl, rfl, by show w.heap.size ≤ (w.heap.modify _ _).size; simp, fun k _ h => Below.heap_setCell w ⟨b, i, none⟩ v k (fun e => h (by rw [show k = b from e]))⟩

end Go.Proofs.YtngdilmgbgdkcaaDoor
