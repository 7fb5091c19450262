/-
  Layer 7: slices.IndexFunc, DeleteFunc, MinFunc over a row of entries.
-/
import Derived.Test.YtkpfdaomhkcokaaFdD
import Derived.Lib.SliceRun
import Derived.Laws.IdiomCopy
namespace Go.Proofs.Ytkpfdaomhkcokaa
set_option linter.unusedVariables false
set_option linter.unusedSimpArgs false
open Go.RowKit Dm

theorem at_some {α : Type} {l : List α} {k : Nat} (h : k < l.length) : ∃ x, l[k]? = some x := ⟨l[k], List.getElem?_eq_getElem h⟩
/-- Five cells that may be written. -/
def Free5 (w : World) (g o : Nat) : Prop := w.frozen? ⟨g, o, none⟩ = false ∧ w.frozen? ⟨g, o + 1, none⟩ = false ∧ w.frozen? ⟨g, o + 2, none⟩ = false ∧ w.frozen? ⟨g, o + 3, none⟩ = false ∧ w.frozen? ⟨g, o + 4, none⟩ = false
theorem Free5.below {w w' : World} {g o B : Nat} (h : Free5 w g o) (hb : Below B w w') (hB : g < B) : Free5 w' g o := by
  obtain ⟨h0, h1, h2, h3, h4⟩ := h
  exact ⟨(hb.frozen (p := ⟨g, o, none⟩) hB).trans h0, (hb.frozen (p := ⟨g, o + 1, none⟩) hB).trans h1, (hb.frozen (p := ⟨g, o + 2, none⟩) hB).trans h2, (hb.frozen (p := ⟨g, o + 3, none⟩) hB).trans h3, (hb.frozen (p := ⟨g, o + 4, none⟩) hB).trans h4⟩
/-- A row of entries that may be written. -/
structure RowW (w : World) (g o : Nat) (l : List En) : Prop where
  lt : g < w.heap.size
  at_ : ∀ j x, l[j]? = some x → At5 w g (o + j * 5) x.vlan x.mac x.port x.heard x.fixed ∧ Free5 w g (o + j * 5)
theorem RowW.next {w w' : World} {g o : Nat} {l : List En} (h : RowW w g o l) (hb : Below w.heap.size w w') : RowW w' g o l :=
  ⟨Nat.lt_of_lt_of_le h.lt hb.size, fun j x hx => ⟨(h.at_ j x hx).1.below hb h.lt, (h.at_ j x hx).2.below hb h.lt⟩⟩
theorem rowW_of {w : World} {g n : Nat} {l : List En} (h : Row w (some ⟨g, 0, none⟩) l) (hf : Fresh w n (some ⟨g, 0, none⟩) l.length) (hg : g < w.heap.size) : RowW w g 0 l := by
  refine ⟨hg, fun j x hx => ?_⟩
  obtain ⟨g', o', e, _, k⟩ := h.at_ j x hx
  obtain ⟨rfl, rfl⟩ : g = g' ∧ 0 = o' := by cases e; exact ⟨rfl, rfl⟩
  have hj : j < l.length := (List.getElem?_eq_some_iff.1 hx).1
  have hfr : ∀ c, c < l.length * 5 → w.frozen? ⟨g, c, none⟩ = false := fun c hc => (hf ⟨g, 0, none⟩ rfl).2.2.2 c hc
  exact ⟨k, hfr _ (by omega), hfr _ (by omega), hfr _ (by omega), hfr _ (by omega), hfr _ (by omega)⟩
def set5 (w : World) (g p : Nat) (x : En) : World :=
  ((((w.setCell ⟨g, p, none⟩ (.int .i64 x.vlan)).setCell ⟨g, p + 1, none⟩ (.string x.mac)).setCell ⟨g, p + 2, none⟩ (.int .i64 x.port)).setCell ⟨g, p + 3, none⟩ (.int .i64 x.heard)).setCell ⟨g, p + 4, none⟩ (.bool x.fixed)

/-- Behind k rounds: none of the first k is fixed. -/
def XInv (l : List En) (w : World) (i : Value) (wr : World) : Prop :=
  ∃ k : Nat, k ≤ l.length ∧ i = .int .i64 (k : Nat) ∧ (∀ j x, j < k → l[j]? = some x → x.fixed = false) ∧ Grown w wr

set_option maxHeartbeats 1000000 in
theorem index_w (g o cap : Nat) (l : List En) (w : World) (h : RowW w g o l) (hl : l.length ≤ 1000) :
    Calls Try.prog 62 #[.slice (some ⟨g, o, none⟩) l.length cap, .func (.func 52) #[] #[]] w fun e w' =>
      ∃ r : Int, e = .returned (.int .i64 r) ∧ ((r = -1 ∧ ∀ x ∈ l, x.fixed = false) ∨ ∃ (k : Nat) (x : En), r = k ∧ l[k]? = some x ∧ x.fixed = true ∧ ∀ j y, j < k → l[j]? = some y → y.fixed = false) ∧ Grown w w' := by
  obtain ⟨n, hn⟩ : ∃ n, l.length = n := ⟨_, rfl⟩
  rw [hn] at hl ⊢
  have hlt := h.lt
  have HA := Lib.hid h
  clear h
  go_enter Try.func62, Try.ntmps62
  go_wp2_with fail
  go_loopw [8] (fun i wr => XInv l w i wr) (fun i _ => n - (intOf i).toNat)
  case atStart => exact ⟨0, Nat.zero_le _, rfl, fun j x h => by omega, Grown.refl _⟩
  case round =>
    obtain ⟨k, hk, rfl, hno, hG⟩ := hrel
    by_cases hkl : k < n
    · obtain ⟨⟨v, m, p, hh, f⟩, hx⟩ := at_some (l := l) (k := k) (by omega)
      have hR := HA.out.next hG.below
      obtain ⟨⟨q0, q1, q2, q3, q4⟩, _⟩ := hR.at_ k _ hx
      simp only at q0 q1 q2 q3 q4
      have hgr := hR.lt
      have HN := Lib.hid hno
      have HX := Lib.hid hx
      clear hno hx hR
      have HF := fixed_any ⟨v, m, p, hh, f⟩ wr
      simp only at HF
      cases f with
      | true =>
        go_wp2_with (go_at_call 52; refine HF.mono ?_; clear HF; rintro e w1 ⟨rfl, hG1⟩)
        go_ret
        exact ⟨(k : Nat), rfl, .inr ⟨k, _, rfl, HX.out, rfl, HN.out⟩, hG.trans hG1⟩
      | false =>
        go_wp2_with (go_at_call 52; refine HF.mono ?_; clear HF; rintro e w1 ⟨rfl, hG1⟩)
        refine ⟨⟨k + 1, by omega, by go_num, fun j y hj hy => ?_, hG.trans hG1⟩, by simp [intOf]; omega⟩
        by_cases e : j = k
        · subst e; rw [HX.out] at hy; cases hy; rfl
        · exact HN.out j y (by omega) hy
    · obtain rfl : k = n := by omega
      go_wp2
      go_ret
      refine ⟨-1, rfl, .inl ⟨rfl, fun x hx => ?_⟩, hG⟩
      obtain ⟨j, hj⟩ := List.getElem?_of_mem hx
      exact hno j x (by have := (List.getElem?_eq_some_iff.1 hj).1; omega) hj

/-! ### DeleteFunc -/
theorem cells5_some {w : World} {g p : Nat} {v : Int} {m : ByteArray} {q h : Int} {f : Bool} (k : At5 w g p v m q h f) : ∀ j, j < 5 → (w.cell? ⟨g, p + j, none⟩).isSome = true := by
  obtain ⟨k0, k1, k2, k3, k4⟩ := k
  intro j hj
  match j, hj with
  | 0, _ => rw [Nat.add_zero, k0]; rfl
  | 1, _ => rw [k1]; rfl
  | 2, _ => rw [k2]; rfl
  | 3, _ => rw [k3]; rfl
  | 4, _ => rw [k4]; rfl
theorem at5_set {w : World} {g p : Nat} (x : En) (hs : ∀ j, j < 5 → (w.cell? ⟨g, p + j, none⟩).isSome = true) : At5 (w.setCells g p (cellsOf x)) g p x.vlan x.mac x.port x.heard x.fixed := by
  have h := World.cell?_setCells_in g (cellsOf x) p w hs
  exact ⟨h 0 (by simp [cellsOf]), h 1 (by simp [cellsOf]), h 2 (by simp [cellsOf]), h 3 (by simp [cellsOf]), h 4 (by simp [cellsOf])⟩
theorem at5_out {w : World} {g p q : Nat} {v : Int} {m : ByteArray} {po h : Int} {f : Bool} (k : At5 w g q v m po h f) (vs : List Value) (hq : q + 5 ≤ p ∨ p + vs.length ≤ q) : At5 (w.setCells g p vs) g q v m po h f := by
  obtain ⟨k0, k1, k2, k3, k4⟩ := k
  have e : ∀ c, c < 5 → (w.setCells g p vs).cell? ⟨g, q + c, none⟩ = w.cell? ⟨g, q + c, none⟩ := fun c hc => World.cell?_setCells_out g vs p w ⟨g, q + c, none⟩ (fun _ _ => by simp only; omega)
  exact ⟨(e 0 (by omega)).trans k0, (e 1 (by omega)).trans k1, (e 2 (by omega)).trans k2, (e 3 (by omega)).trans k3, (e 4 (by omega)).trans k4⟩
theorem free5_set {w : World} {g q : Nat} (h : Free5 w g q) (p : Nat) (vs : List Value) : Free5 (w.setCells g p vs) g q := by
  obtain ⟨h0, h1, h2, h3, h4⟩ := h
  have e : ∀ x, (w.setCells g p vs).frozen? x = w.frozen? x := World.frozen?_setCells g vs p w
  exact ⟨(e _).trans h0, (e _).trans h1, (e _).trans h2, (e _).trans h3, (e _).trans h4⟩
theorem size_setCells (g : Nat) : ∀ (vs : List Value) (p : Nat) (w : World), (w.setCells g p vs).heap.size = w.heap.size
  | [], _, _ => rfl
  | v :: r, p, w => by
    rw [World.setCells, size_setCells g r]
    show (w.heap.modify _ _).size = _
    simp
theorem below_setCells {n : Nat} {a : World} (g : Nat) (hg : n ≤ g) : ∀ (vs : List Value) (p : Nat) (w : World), Below n a w → Below n a (w.setCells g p vs)
  | [], _, _, h => h
  | v :: r, p, w, h => by
    rw [World.setCells]
    exact below_setCells g hg r _ _ (h.setCell (p := ⟨g, p, none⟩) hg v)
theorem rowW_set {w : World} {g o : Nat} {l : List En} (h : RowW w g o l) (i : Nat) (x : En) (hi : i < l.length) : RowW (w.setCells g (o + i * 5) (cellsOf x)) g o (l.set i x) := by
  refine ⟨by rw [size_setCells]; exact h.lt, fun j y hy => ?_⟩
  by_cases e : i = j
  · subst e
    rw [List.getElem?_set_self hi] at hy
    cases hy
    obtain ⟨z, hz⟩ := at_some hi
    obtain ⟨k, kf⟩ := h.at_ i z hz
    exact ⟨at5_set x (cells5_some k), free5_set kf _ _⟩
  · rw [List.getElem?_set_ne e] at hy
    obtain ⟨k, kf⟩ := h.at_ j y hy
    exact ⟨at5_out k _ (by simp [cellsOf]; omega), free5_set kf _ _⟩

/-- The row behind k rounds: what is kept of the first j, then what lay there. -/
def keptB (x : En) : Bool := !x.fixed
def rowJ (l : List En) (j : Nat) : List En := (l.take j).filter keptB ++ l.drop ((l.take j).filter keptB).length
theorem kept_le (l : List En) (j : Nat) (hj : j ≤ l.length) : ((l.take j).filter keptB).length ≤ j := by
  refine Nat.le_trans (List.length_filter_le _ _) ?_
  rw [List.length_take]; omega
theorem rowJ_length (l : List En) (j : Nat) (hj : j ≤ l.length) : (rowJ l j).length = l.length := by
  have := kept_le l j hj
  unfold rowJ
  rw [List.length_append, List.length_drop]; omega
theorem rowJ_at (l : List En) (j : Nat) (hj : j < l.length) : (rowJ l j)[j]? = l[j]? := by
  have := kept_le l j (by omega)
  unfold rowJ
  rw [List.getElem?_append_right this, List.getElem?_drop]
  congr 1; omega
theorem take_succ_at {l : List En} {j : Nat} {x : En} (hx : l[j]? = some x) : l.take (j + 1) = l.take j ++ [x] := by
  rw [List.take_add_one, hx]; rfl
theorem rowJ_keep {l : List En} {j : Nat} {x : En} (hx : l[j]? = some x) (hk : x.fixed = false) : rowJ l (j + 1) = (rowJ l j).set ((l.take j).filter keptB).length x ∧ ((l.take (j + 1)).filter keptB).length = ((l.take j).filter keptB).length + 1 := by
  have hj : j < l.length := (List.getElem?_eq_some_iff.1 hx).1
  have hle := kept_le l j (by omega)
  have e : (l.take (j + 1)).filter keptB = (l.take j).filter keptB ++ [x] := by rw [take_succ_at hx, List.filter_append]; simp [keptB, hk]
  refine ⟨?_, by rw [e]; simp⟩
  unfold rowJ
  rw [e, List.length_append, List.set_append_right _ _ (Nat.le_refl _), Nat.sub_self, List.append_assoc]
  congr 1
  generalize ((l.take j).filter keptB).length = i at hle
  have hi : i < l.length := by omega
  show x :: l.drop (i + 1) = (l.drop i).set 0 x
  rw [List.drop_eq_getElem_cons hi, List.set_cons_zero]
theorem rowJ_skip {l : List En} {j : Nat} {x : En} (hx : l[j]? = some x) (hk : x.fixed = true) : rowJ l (j + 1) = rowJ l j ∧ ((l.take (j + 1)).filter keptB).length = ((l.take j).filter keptB).length := by
  have e : (l.take (j + 1)).filter keptB = (l.take j).filter keptB := by rw [take_succ_at hx, List.filter_append]; simp [keptB, hk]
  unfold rowJ
  rw [e]
  exact ⟨rfl, rfl⟩
theorem rowJ_first {l : List En} {k : Nat} {x : En} (hx : l[k]? = some x) (hf : x.fixed = true) (hno : ∀ j y, j < k → l[j]? = some y → y.fixed = false) : rowJ l (k + 1) = l ∧ ((l.take (k + 1)).filter keptB).length = k := by
  have hk : k < l.length := (List.getElem?_eq_some_iff.1 hx).1
  have e0 : (l.take k).filter keptB = l.take k := by
    rw [List.filter_eq_self]
    intro y hy
    obtain ⟨j, hj⟩ := List.getElem?_of_mem hy
    have hjk : j < k := by have := (List.getElem?_eq_some_iff.1 hj).1; rw [List.length_take] at this; omega
    rw [List.getElem?_take_of_lt hjk] at hj
    simp [keptB, hno j y hjk hj]
  obtain ⟨h1, h2⟩ := rowJ_skip hx hf
  rw [h1, h2]
  unfold rowJ
  rw [e0, List.length_take, Nat.min_eq_left (by omega), List.take_append_drop]
  exact ⟨rfl, rfl⟩
theorem rowJ_end (l : List En) : (l.take l.length).filter keptB = l.filter keptB := by rw [List.take_length]

theorem clear_run (g p m c : Nat) (w : World) (hc : ∀ j, j < m * 5 → (w.cell? ⟨g, p + j, none⟩).isSome = true) (hf : ∀ j, j < m * 5 → w.frozen? ⟨g, p + j, none⟩ = false) :
    ∃ zs : List Value, zs.length = m * 5 ∧ ∀ ty, (Builtin.clear_ #[36] ty #[.slice (some ⟨g, p, none⟩) m c]).run Try.prog w = .ok (.tuple #[]) (w.setCells g p zs) := by
  cases m with
  | zero => exact ⟨[], rfl, fun ty => by simp [Builtin.clear_, run_underlying Try.underlying36, World.setCells]⟩
  | succ m =>
    have hl : ((Builtin.zeroCells (ev zeroE).cells (m + 1)).toList).length = (m + 1) * 5 := by simp [Builtin.zeroCells, Value.cells]
    refine ⟨(Builtin.zeroCells (ev zeroE).cells (m + 1)).toList, hl, fun ty => ?_⟩
    have hst := run_storeCells_cells (P := Try.prog) g p (Builtin.zeroCells (ev zeroE).cells (m + 1)).toList 0 w (by rw [hl]; simpa using hc) (by rw [hl]; simpa using hf) (by
      intro v hv
      simp only [Builtin.zeroCells, Value.cells, Array.toList_map, List.mem_map] at hv
      obtain ⟨i, _, rfl⟩ := hv
      have : i % 5 < 5 := Nat.mod_lt _ (by omega)
      show (#[Value.int .i64 0, Value.string ⟨#[]⟩, Value.int .i64 0, Value.int .i64 0, Value.bool false][i % 5]!).oneCell' = true
      generalize i % 5 = c at this
      match c, this with
      | 0, _ => rfl
      | 1, _ => rfl
      | 2, _ => rfl
      | 3, _ => rfl
      | 4, _ => rfl)
    simp only [Nat.add_zero] at hst
    have hz := zeroE_run w
    simp [Builtin.clear_, run_underlying Try.underlying36, hz, hst]

theorem index_none {g o cap : Nat} {l : List En} {w : World} (h : RowW w g o l) (hl : l.length ≤ 1000) (hall : ∀ x ∈ l, x.fixed = false) :
    Calls Try.prog 62 #[.slice (some ⟨g, o, none⟩) l.length cap, .func (.func 52) #[] #[]] w fun e w' => e = .returned (.int .i64 (-1)) ∧ Grown w w' := by
  refine (index_w g o cap l w h hl).mono ?_
  rintro e w' ⟨r, rfl, ⟨rfl, _⟩ | ⟨k, x, rfl, hx, hf, _⟩, hG⟩
  · exact ⟨rfl, hG⟩
  · rw [hall x (List.mem_of_getElem? hx)] at hf; cases hf
theorem index_some {g o cap : Nat} {l : List En} {w : World} (h : RowW w g o l) (hl : l.length ≤ 1000) {k : Nat} {x : En} (hx : l[k]? = some x) (hf : x.fixed = true) (hno : ∀ j y, j < k → l[j]? = some y → y.fixed = false) :
    Calls Try.prog 62 #[.slice (some ⟨g, o, none⟩) l.length cap, .func (.func 52) #[] #[]] w fun e w' => e = .returned (.int .i64 k) ∧ Grown w w' := by
  refine (index_w g o cap l w h hl).mono ?_
  rintro e w' ⟨r, rfl, ⟨rfl, hall⟩ | ⟨k', x', rfl, hx', hf', hno'⟩, hG⟩
  · rw [hall x (List.mem_of_getElem? hx)] at hf; cases hf
  · rcases Nat.lt_trichotomy k k' with h | h | h
    · rw [hno' k x h hx] at hf; cases hf
    · subst h; exact ⟨rfl, hG⟩
    · rw [hno k' x' h hx'] at hf'; cases hf'
theorem first_fixed (l : List En) : (∀ x ∈ l, x.fixed = false) ∨ ∃ (k : Nat) (x : En), l[k]? = some x ∧ x.fixed = true ∧ ∀ j y, j < k → l[j]? = some y → y.fixed = false := by
  induction l with
  | nil => exact .inl (by simp)
  | cons z l ih =>
    cases hz : z.fixed with
    | true => exact .inr ⟨0, z, rfl, hz, fun j y h => by omega⟩
    | false =>
      rcases ih with h | ⟨k, x, h1, h2, h3⟩
      · exact .inl (fun x hx => by rcases List.mem_cons.1 hx with rfl | hx; exact hz; exact h x hx)
      · refine .inr ⟨k + 1, x, h1, h2, fun j y hj hy => ?_⟩
        cases j with
        | zero => cases hy; exact hz
        | succ j => exact h3 j y (by omega) hy

/-- Behind the first hit's place. -/
def DInv (l : List En) (m g o n : Nat) (w : World) (i j : Value) (wr : World) : Prop :=
  ∃ (jn a : Nat), jn ≤ m ∧ j = .int .i64 (jn : Nat) ∧ i = .int .i64 (a : Nat) ∧ ((l.take jn).filter keptB).length = a ∧ RowW wr g o (rowJ l jn) ∧ Below n w wr

set_option maxRecDepth 20000 in
set_option maxHeartbeats 2000000 in
theorem delete_w (g o cap n : Nat) (l : List En) (w : World) (h : RowW w g o l) (hl : l.length ≤ 1000) (hcap : l.length ≤ cap) (hn : n ≤ g) :
    Calls Try.prog 51 #[.slice (some ⟨g, o, none⟩) l.length cap, .func (.func 52) #[] #[]] w fun e w' =>
      e = .returned (.slice (some ⟨g, o, none⟩) (l.filter keptB).length cap) ∧ RowW w' g o (l.filter keptB) ∧ Below n w w' := by
  have hlt := h.lt
  have HA := Lib.hid h
  rcases first_fixed l with hno | ⟨k, x, hx, hf, hno⟩
  · have hI := index_none (cap := cap) h hl hno
    have e : l.filter keptB = l := by rw [List.filter_eq_self]; intro x hx; simp [keptB, hno x hx]
    rw [e]
    clear h hno e
    go_enter Try.func51, Try.ntmps51
    go_wp2_with (go_at_call 62; refine hI.mono ?_; clear hI; rintro e w1 ⟨rfl, hG⟩)
    go_ret
    exact ⟨rfl, HA.out.next hG.below, hG.below.mono (by omega)⟩
  · have hI := index_some (cap := cap) h hl hx hf hno
    have hk : k < l.length := (List.getElem?_eq_some_iff.1 hx).1
    have HX := Lib.hid (rowJ_first hx hf hno)
    have hKm : (l.filter keptB).length < l.length := List.length_filter_lt_length_iff_exists.2 ⟨x, List.mem_of_getElem? hx, by simp [keptB, hf]⟩
    clear h hx hf hno
    obtain ⟨m, hm⟩ : ∃ m, l.length = m := ⟨_, rfl⟩
    obtain ⟨K, hK⟩ : ∃ K, (l.filter keptB).length = K := ⟨_, rfl⟩
    have HM := Lib.hid hm
    have HK := Lib.hid hK
    rw [hm] at hI hl hcap hk hKm ⊢
    rw [hK] at hKm ⊢
    clear hK hm
    have hne1 : ((k : Int) == -1) = false := beq_eq_false_iff_ne.2 (by omega)
    go_enter Try.func51, Try.ntmps51
    go_wp2_with (go_at_call 62; refine hI.mono ?_; clear hI; rintro e w1 ⟨rfl, hG⟩)
    go_loopw [5, 6] (fun i j wr => DInv l m g o n w i j wr) (fun _ j _ => m - (intOf j).toNat)
    case atStart => exact ⟨k + 1, k, by omega, by go_num, rfl, HX.out.2, by rw [HX.out.1]; exact HA.out.next hG.below, hG.below.mono (by omega)⟩
    case round =>
      obtain ⟨j, a, hj, rfl, rfl, ha, hR, hB⟩ := hrel
      have hgr := hR.lt
      by_cases hjm : j < m
      · have hm := HM.out
        obtain ⟨⟨v, mc, p, hh, f⟩, hx⟩ := at_some (l := l) (k := j) (by omega)
        have haj : a ≤ j := by rw [← ha]; exact kept_le l j (by omega)
        obtain ⟨⟨q0, q1, q2, q3, q4⟩, _⟩ := hR.at_ j _ (by rw [rowJ_at l j (by omega)]; exact hx)
        simp only at q0 q1 q2 q3 q4
        obtain ⟨z, hz⟩ := at_some (l := rowJ l j) (k := a) (by rw [rowJ_length l j (by omega)]; omega)
        have HZ := Lib.hid (hR.at_ a z hz)
        have HR := Lib.hid hR
        have HX2 := Lib.hid hx
        have HA2 := Lib.hid ha
        clear hR hx ha hz hm
        have HF := fun w' => fixed_any ⟨v, mc, p, hh, f⟩ w'
        simp only at HF
        obtain ⟨W, hW⟩ : ∃ W, W = wr.alloc (.cells #[.int .i64 v, .string mc, .int .i64 p, .int .i64 hh, .bool f] 41) := ⟨_, rfl⟩
        have hWB : Below wr.heap.size wr W := by rw [hW]; exact below_box _ _
        have kW : EBlk W wr.heap.size ⟨v, mc, p, hh, f⟩ := by rw [hW]; exact eblk_new _ _ _ _ _ _
        have lW : wr.heap.size < W.heap.size := kW.lt
        have HC := HF W
        cases f with
        | true =>
          go_wp2_with (go_at_call 52; rw [← hW]; refine HC.mono ?_; clear HC HF; rintro e w2 ⟨rfl, hG2⟩)
          obtain ⟨r1, r2⟩ := rowJ_skip HX2.out rfl
          refine ⟨⟨j + 1, a, by omega, by go_num, rfl, by rw [r2]; exact HA2.out, by rw [r1]; exact (HR.out.next hWB).next hG2.below, (hB.trans (hWB.mono (by omega))).trans (hG2.below.mono (by have := hWB.size; omega))⟩, by simp [intOf]; omega⟩
        | false =>
          have hgW : g < W.heap.size := Nat.lt_of_lt_of_le hgr hWB.size
          have Z2 := Lib.hid (fun (w2 : World) (hb : Below W.heap.size W w2) => And.intro ((HZ.out.1.below hWB hgr).below hb hgW) ((HZ.out.2.below hWB hgr).below hb hgW))
          go_wp2_with (go_at_call 52; rw [← hW]; refine HC.mono ?_; clear HC HF; rintro e w2 ⟨rfl, hG2⟩; obtain ⟨⟨z0, z1, z2, z3, z4⟩, y0, y1, y2, y3, y4⟩ := Z2.out w2 hG2.below; obtain ⟨b0, b1, b2, b3, b4⟩ := (kW.next hG2.below).cells)
          obtain ⟨r1, r2⟩ := rowJ_keep HX2.out rfl
          have e5 : ((((w2.setCell ⟨g, o + a * 5, none⟩ (.int .i64 v)).setCell ⟨g, o + a * 5 + 1, none⟩ (.string mc)).setCell ⟨g, o + a * 5 + 2, none⟩ (.int .i64 p)).setCell ⟨g, o + a * 5 + 3, none⟩ (.int .i64 hh)).setCell ⟨g, o + a * 5 + 4, none⟩ (.bool false) = w2.setCells g (o + a * 5) (cellsOf ⟨v, mc, p, hh, false⟩) := rfl
          rw [e5]
          have R2 := (HR.out.next hWB).next hG2.below
          have hB2 : Below n w w2 := (hB.trans (hWB.mono (by omega))).trans (hG2.below.mono (by have := hWB.size; omega))
          have ha := HA2.out
          have hm := HM.out
          refine ⟨⟨j + 1, a + 1, by omega, by go_num, by go_num, by rw [r2, ha], ?_, below_setCells g hn _ _ _ hB2⟩, by simp [intOf]; omega⟩
          rw [r1, ha]
          exact rowW_set R2 a _ (by rw [rowJ_length l j (by omega)]; omega)
      · obtain rfl : j = m := by omega
        have hm := HM.out
        have haj : a ≤ j := by rw [← ha]; exact kept_le l j (by omega)
        have hRl : (rowJ l j).length = j := by rw [rowJ_length l j (by omega), hm]
        have hcell : ∀ t, t < (j - a) * 5 → (wr.cell? ⟨g, o + a * 5 + t, none⟩).isSome = true ∧ wr.frozen? ⟨g, o + a * 5 + t, none⟩ = false := fun t ht => by
          obtain ⟨z, hz⟩ := at_some (l := rowJ l j) (k := a + t / 5) (by omega)
          obtain ⟨k1, f0, f1, f2, f3, f4⟩ := hR.at_ _ z hz
          have hs := cells5_some k1 (t % 5) (Nat.mod_lt _ (by omega))
          have e1 : o + (a + t / 5) * 5 + t % 5 = o + a * 5 + t := by omega
          rw [e1] at hs
          refine ⟨hs, ?_⟩
          rw [← e1]
          have h5 : t % 5 < 5 := Nat.mod_lt _ (by omega)
          generalize t % 5 = c at h5
          match c, h5 with
          | 0, _ => exact f0
          | 1, _ => exact f1
          | 2, _ => exact f2
          | 3, _ => exact f3
          | 4, _ => exact f4
        obtain ⟨zs, hzl, hcl⟩ := clear_run g (o + a * 5) (j - a) (cap - a) wr (fun t ht => (hcell t ht).1) (fun t ht => (hcell t ht).2)
        have hend := rowJ_end l
        rw [hm] at hend
        rw [hend, HK.out] at ha
        subst ha
        have HR := Lib.hid hR
        have HE := Lib.hid hend
        have HL := Lib.hid hRl
        clear hR hcell hend hRl hm hzl
        go_wp2
        go_ret
        refine ⟨rfl, ⟨by rw [size_setCells]; exact HR.out.lt, fun t y hy => ?_⟩, below_setCells g hn _ _ _ hB⟩
        have hK := HK.out
        have htK : t < K := by rw [← hK]; exact (List.getElem?_eq_some_iff.1 hy).1
        have hty : (rowJ l j)[t]? = some y := by
          unfold rowJ
          rw [HE.out, List.getElem?_append_left (by rw [hK]; exact htK)]
          exact hy
        obtain ⟨k1, k2⟩ := HR.out.at_ t y hty
        exact ⟨at5_out k1 _ (Or.inl (by omega)), free5_set k2 _ _⟩
end Go.Proofs.Ytkpfdaomhkcokaa
