/-
  Layer 15: awake: what it asks, at literals.
  Layer 15: an instance behind a law's start; a row of what was sent; awake.
-/
import Derived.Test.YtldobcfejldbiaaGreatDoorMbj
import Derived.Test.YtldobcfejldbiaaGreatDoorMbe
namespace Go.Proofs.YtldobcfejldbiaaGreatDoor
set_option linter.unusedVariables false
set_option linter.unusedSimpArgs false
open Go.RowKit Go.Maps Vm Rm Bm Im

def S15 : List Su := [⟨1, 4, false⟩, ⟨2, 4, true⟩]
def X15a : Rs := newX 9 U9 S15
def X15b : Rs := powerX 9 U9 X15a 0 true
def X15c : Rs := powerX 9 U9 X15b 1 true
def X15d : Rs := sendX 9 U9 X15c
theorem new_15 : newB U9 S15 = true := by decide +kernel
set_option maxRecDepth 100000 in
theorem facts_15 : X15c.l.map (fun p => (p.role, p.proposing, p.forwarding)) = [(2, true, false), (2, false, true)] := by decide +kernel
set_option maxRecDepth 100000 in
theorem outs_15 : (outsI U9 X15c.l).map (fun x => (x.1, x.2.kind, x.2.root, x.2.cost, x.2.bridge, x.2.port)) = [(0, 3, 9, 0, 9, 1), (1, 3, 9, 0, 9, 2)] := by decide +kernel
set_option maxRecDepth 100000 in
theorem rounds_15 : 0 < X15d.r ∧ X15d.r < 100 := by decide +kernel
theorem lens_15 : X15a.l.length = 2 ∧ X15b.l.length = 2 ∧ X15c.l.length = 2 := by decide +kernel
theorem two_of15 {α : Type} {l : List α} (h : l.length = 2) : ∃ a b, l = [a, b] := by
  match l, h with
  | [a, b], _ => exact ⟨a, b, rfl⟩
theorem ports_of {l : List Pt} (h : l.map (fun p => (p.role, p.proposing, p.forwarding)) = [(2, true, false), (2, false, true)]) (h2 : l.length = 2) : ∃ P Q : Pt, l = [P, Q] ∧ P.role = 2 ∧ P.proposing = true ∧ P.forwarding = false ∧ Q.role = 2 ∧ Q.forwarding = true := by
  obtain ⟨P, Q, rfl⟩ := two_of15 h2
  clear h2
  simp only [List.map_cons, List.map_nil, List.cons.injEq, Prod.mk.injEq, and_true] at h
  obtain ⟨⟨h1, h2, h3⟩, h4, h5, h6⟩ := h
  exact ⟨P, Q, rfl, h1, h2, h3, h4, h6⟩
theorem sent_of {l : List (Nat × Bp)} (h : l.map (fun x => (x.1, x.2.kind, x.2.root, x.2.cost, x.2.bridge, x.2.port)) = [(0, 3, 9, 0, 9, 1), (1, 3, 9, 0, 9, 2)]) : ∃ M N : Bp, l = [(0, M), (1, N)] ∧ M.kind = 3 ∧ M.root = 9 ∧ M.cost = 0 ∧ M.bridge = 9 ∧ M.port = 1 := by
  have h2 : l.length = 2 := by have := congrArg List.length h; rw [List.length_map] at this; exact this
  obtain ⟨⟨a, M⟩, ⟨b, N⟩, rfl⟩ := two_of15 h2
  clear h2
  simp only [List.map_cons, List.map_nil, List.cons.injEq, Prod.mk.injEq, and_true] at h
  obtain ⟨⟨rfl, h1, h2, h3, h4, h5⟩, rfl, _⟩ := h
  exact ⟨M, N, rfl, h1, h2, h3, h4, h5⟩
theorem start_of (xa xb xc xd : Rs) (h1 : newX 9 U9 S15 = xa) (h2 : powerX 9 U9 xa 0 true = xb) (h3 : powerX 9 U9 xb 1 true = xc) (h4 : sendX 9 U9 xc = xd) (hl : xa.l.length = 2 ∧ xb.l.length = 2 ∧ xc.l.length = 2)
    (hp : xc.l.map (fun p => (p.role, p.proposing, p.forwarding)) = [(2, true, false), (2, false, true)]) (ho : (outsI U9 xc.l).map (fun x => (x.1, x.2.kind, x.2.root, x.2.cost, x.2.bridge, x.2.port)) = [(0, 3, 9, 0, 9, 1), (1, 3, 9, 0, 9, 2)]) (hr : 0 < xd.r ∧ xd.r < 100) :
    ∃ xa xb xc xd : Rs, newX 9 U9 S15 = xa ∧ powerX 9 U9 xa 0 true = xb ∧ powerX 9 U9 xb 1 true = xc ∧ sendX 9 U9 xc = xd ∧ (xa.l.length = 2 ∧ xb.l.length = 2 ∧ xc.l.length = 2) ∧
    (∃ P Q : Pt, xc.l = [P, Q] ∧ P.role = 2 ∧ P.proposing = true ∧ P.forwarding = false ∧ Q.role = 2 ∧ Q.forwarding = true) ∧
    (∃ M N : Bp, outsI U9 xc.l = [(0, M), (1, N)] ∧ M.kind = 3 ∧ M.root = 9 ∧ M.cost = 0 ∧ M.bridge = 9 ∧ M.port = 1) ∧ 0 < xd.r ∧ xd.r < 100 :=
  ⟨xa, xb, xc, xd, h1, h2, h3, h4, hl, ports_of hp hl.2.2, sent_of ho, hr⟩
/-- All that awake asks, behind variables. -/
theorem start_15 : ∃ xa xb xc xd : Rs, newX 9 U9 S15 = xa ∧ powerX 9 U9 xa 0 true = xb ∧ powerX 9 U9 xb 1 true = xc ∧ sendX 9 U9 xc = xd ∧ (xa.l.length = 2 ∧ xb.l.length = 2 ∧ xc.l.length = 2) ∧
    (∃ P Q : Pt, xc.l = [P, Q] ∧ P.role = 2 ∧ P.proposing = true ∧ P.forwarding = false ∧ Q.role = 2 ∧ Q.forwarding = true) ∧
    (∃ M N : Bp, outsI U9 xc.l = [(0, M), (1, N)] ∧ M.kind = 3 ∧ M.root = 9 ∧ M.cost = 0 ∧ M.bridge = 9 ∧ M.port = 1) ∧ 0 < xd.r ∧ xd.r < 100 :=
  start_of X15a X15b X15c X15d rfl rfl rfl rfl lens_15 facts_15 outs_15 rounds_15
end Go.Proofs.YtldobcfejldbiaaGreatDoor

namespace Go.Proofs.YtldobcfejldbiaaGreatDoor
set_option linter.unusedVariables false
set_option linter.unusedSimpArgs false
open Go.RowKit Go.Maps Vm Rm Bm Im

/-- An instance made behind a start. -/
structure XIs (w0 w : World) (xb g cap mb : Nat) (i : Int) (t : Tm) (k : Nat) (x : Rs) : Prop where
  is : IsX w xb g cap mb i t k x
  hx : w0.heap.size ≤ xb
  hm : w0.heap.size ≤ mb
  hg : w0.heap.size ≤ g
  below : Below w0.heap.size w0 w
theorem XIs.next {w0 w w' : World} {xb g cap mb k : Nat} {i : Int} {t : Tm} {x : Rs} (h : XIs w0 w xb g cap mb i t k x) (hb : Below w.heap.size w w') : XIs w0 w' xb g cap mb i t k x :=
  ⟨h.is.next hb, h.hx, h.hm, h.hg, bw_trans h.below hb⟩
theorem XIs.act {w0 w w' : World} {xb g cap mb k : Nat} {i : Int} {t : Tm} {x y : Rs} (h : XIs w0 w xb g cap mb i t k x) (a : Act15 w w' xb g mb i t k y) : ∃ g' cap', XIs w0 w' xb g' cap' mb i t (k + 1) y ∧ K3 xb mb g w w' := by
  obtain ⟨g', cap', hg, hy, hk⟩ := a
  exact ⟨g', cap', ⟨hy, h.hx, h.hm, by have := h.hg; have := h.below.size; omega, hk.below h.below h.hx h.hm h.hg h.below.size⟩, hk⟩
theorem XIs.roles {w0 w : World} {xb g cap mb k : Nat} {i : Int} {t : Tm} {x : Rs} (h : XIs w0 w xb g cap mb i t k x) (hT : TRoles w0) : TRoles w := hT.next h.below
theorem XIs.lt {w0 w : World} {xb g cap mb k : Nat} {i : Int} {t : Tm} {x : Rs} (h : XIs w0 w xb g cap mb i t k x) : xb < w.heap.size ∧ mb < w.heap.size ∧ g < w.heap.size := ⟨h.is.blk.lt, h.is.fm.lt, h.is.row.lt⟩
/-- A row made behind an instance is none of its blocks. -/
theorem WRow.k3 {w w' : World} {x m g a : Nat} {l : List Pt} (h : WRow w a l) (hk : K3 x m g w w') (h1 : x < a) (h2 : m < a) (h3 : g < a) : WRow w' a l := h.same (hk.block a h.lt (by omega) (by omega) (by omega)) (Nat.lt_of_lt_of_le h.lt hk.size)

/-! ### A row of what was sent -/
structure ORow (w : World) (a : Option Addr) (l : List (Nat × Bp)) : Prop where
  at_ : ∀ j x, l[j]? = some x → ∃ g : Nat, a = some ⟨g, 0, none⟩ ∧ g < w.heap.size ∧ w.rangeAt g (j * 11) (cellsO x).toList
theorem ORow.next {w w' : World} {a : Option Addr} {l : List (Nat × Bp)} (h : ORow w a l) (hb : Below w.heap.size w w') : ORow w' a l :=
  ⟨fun j x hx => by obtain ⟨g, e, hg, k⟩ := h.at_ j x hx; exact ⟨g, e, Nat.lt_of_lt_of_le hg hb.size, range_next k hg hb⟩⟩
theorem outRow_len (l : List (Nat × Bp)) : (outRow l).length = l.length * 11 := by
  induction l with
  | nil => rfl
  | cons v l ih =>
    have e : outRow (v :: l) = (cellsO v).toList ++ outRow l := rfl
    have ly : (cellsO v).toList.length = 11 := rfl
    rw [e, List.length_append, ih, ly, List.length_cons]
    omega
theorem outRow_at {l : List (Nat × Bp)} {j : Nat} {x : Nat × Bp} (h : l[j]? = some x) (c : Nat) (hc : c < 11) : (outRow l)[j * 11 + c]? = (cellsO x).toList[c]? := by
  induction l generalizing j with
  | nil => simp at h
  | cons y l ih =>
    have e : outRow (y :: l) = (cellsO y).toList ++ outRow l := rfl
    have ly : (cellsO y).toList.length = 11 := rfl
    rw [e]
    cases j with
    | zero =>
      simp only [List.getElem?_cons_zero, Option.some.injEq] at h
      subst h
      rw [List.getElem?_append_left (by omega)]
      congr 1; omega
    | succ j =>
      rw [List.getElem?_append_right (by omega), ly]
      have := ih (j := j) (by simpa using h)
      rw [← this]
      congr 1; omega
theorem orow_owned {w : World} {base : Nat} {v : Value} {l : List (Nat × Bp)} (h : w.ownsRow base 66 11 v l.length (outRow l)) : ∃ (a : Option Addr) (cap : Nat), v = .slice a l.length cap ∧ l.length ≤ cap ∧ ORow w a l ∧ (∀ g o, a = some ⟨g, o, none⟩ → base ≤ g) := by
  rcases h.2 with ⟨rfl, h0⟩ | ⟨g, cap, cur, rfl, hbg, hg, hnc, hcm, hcs, htake⟩
  · have : l = [] := List.eq_nil_of_length_eq_zero h0
    subst this
    exact ⟨none, 0, rfl, Nat.le_refl _, ⟨fun j x hx => by simp at hx⟩, fun g o e => by cases e⟩
  · refine ⟨_, cap, rfl, hnc, ⟨fun j x hx => ⟨g, rfl, (Array.getElem?_eq_some_iff.1 hg).1, fun c v hv => ?_⟩⟩, fun g' o e => by cases e; exact hbg⟩
    have hjl := (List.getElem?_eq_some_iff.1 hx).1
    have hc : c < 11 := (List.getElem?_eq_some_iff.1 hv).1
    have h1 := h.cellAt (j * 11 + c) (by omega)
    rw [outRow_at hx c hc, hv] at h1
    exact h1

/-! ### awake -/
set_option maxRecDepth 100000 in
theorem wpList_su2 {ops : Array Oper} {rest : List Oper} {op : Oper} {a : Act} {w : World} {Q : Exit → Act → World → Prop} (hgd : op.guard = none) (x y : Operand) (ho : op.op = .buildSlice 27 2 #[(0, x), (1, y)]) (i c i' c' : Int) (e e' : Bool) (hx : a.eval x = suv i c e) (hy : a.eval y = suv i' c' e')
    (h : wpList Tryz.prog ops Q rest (a.put op.dst (.slice (some ⟨w.heap.size, 0, none⟩) 2 2)) (w.alloc (.cells #[.int .u64 i, .int .u64 c, .bool e, .int .u64 i', .int .u64 c', .bool e'] 82))) : wpList Tryz.prog ops Q (op :: rest) a w := by
  obtain ⟨i0, hi, hz0, hz1⟩ : ∃ i, Tryz.prog.info? 82 = some i ∧ i.zero = some (suv 0 0 false) ∧ i.size = 3 := by
    have h2 : (Tryz.prog.info? 82).map (fun i => (i.zero, i.size)) = some (some (suv 0 0 false), 3) := by kernel_rfl
    rw [Option.map_eq_some_iff] at h2
    obtain ⟨i, h3, h4⟩ := h2
    simp only [Prod.mk.injEq] at h4
    exact ⟨i, h3, h4.1, h4.2⟩
  refine wpList_buildSlice hgd 27 82 2 _ ho #[.int .u64 i, .int .u64 c, .bool e, .int .u64 i', .int .u64 c', .bool e'] i0 _ Tryz.underlying27 hi hz0 (by rw [hz1]; decide) (by rw [hz1]; decide) ?_ h
  simp only [List.map_toArray, List.map_cons, List.map_nil, hx, hy, hz1]
  kernel_rfl
theorem su2_row (w : World) : SuRow (w.alloc (.cells #[.int .u64 1, .int .u64 4, .bool false, .int .u64 2, .int .u64 4, .bool true] 82)) (some ⟨w.heap.size, 0, none⟩) S15 := by
  have h := heap_alloc_new w (.cells #[.int .u64 1, .int .u64 4, .bool false, .int .u64 2, .int .u64 4, .bool true] 82)
  have hs := size_box w (.cells #[.int .u64 1, .int .u64 4, .bool false, .int .u64 2, .int .u64 4, .bool true] 82)
  generalize w.alloc (.cells #[.int .u64 1, .int .u64 4, .bool false, .int .u64 2, .int .u64 4, .bool true] 82) = W at h hs ⊢
  generalize w.heap.size = b at h hs ⊢
  have c := fun j => cell_of_row W b j _ _ _ h
  refine ⟨fun j s hj => ⟨b, 0, rfl, by omega, fun k v hv => ?_⟩⟩
  rw [Nat.zero_add]
  match j, hj with
  | 0, hj =>
    obtain rfl : (⟨1, 4, false⟩ : Su) = s := by simpa [S15] using hj
    match k, hv with
    | 0, hv => exact (c 0).trans hv
    | 1, hv => exact (c 1).trans hv
    | 2, hv => exact (c 2).trans hv
    | k + 3, hv => cases hv
  | 1, hj =>
    obtain rfl : (⟨2, 4, true⟩ : Su) = s := by simpa [S15] using hj
    match k, hv with
    | 0, hv => exact (c 3).trans hv
    | 1, hv => exact (c 4).trans hv
    | 2, hv => exact (c 5).trans hv
    | k + 3, hv => cases hv
  | j + 2, hj => simp [S15] at hj
theorem nine : Vm.u64B 9 := ⟨by decide, by decide⟩
theorem su15_ok : ∀ s ∈ S15, Vm.u64B s.id ∧ Vm.u64B s.cost := by
  intro s hs
  simp only [S15, List.mem_cons, List.not_mem_nil, or_false] at hs
  rcases hs with rfl | rfl <;> exact ⟨⟨by decide, by decide⟩, ⟨by decide, by decide⟩⟩
theorem zeroM_ok : BpOk zeroM ∧ (vecOf zeroM).ok ∧ rightB zeroM = false := by
  refine ⟨?_, ?_, by decide +kernel⟩
  · constructor <;> first | (constructor <;> decide) | decide
  · exact ⟨⟨by decide, by decide⟩, ⟨by decide, by decide⟩, ⟨by decide, by decide⟩, ⟨by decide, by decide⟩⟩

set_option maxRecDepth 20000 in
set_option maxHeartbeats 16000000 in
theorem awake15_any (w : World) (hT : TRoles w) : Calls Tryz.prog 6 #[] w fun e w' => e = .returned (.bool true) ∧ Below w.heap.size w w' := by
  obtain ⟨xa, xb2, xc, xd, ha, hb, hc, hd, ⟨la, lb, lc⟩, ⟨P, Q, hPQ, hP1, hP2, hP3, hQ1, hQ2⟩, ⟨M, N, hMN, hM1, hM2, hM3, hM4, hM5⟩, hr0, hr1⟩ := start_15
  have CU := Lib.hid (fun w' => usual_w 9 w')
  have CN1 := Lib.hid (fun (w' : World) (a : Option Addr) (hr : SuRow w' a S15) => show Calls Tryz.prog 8 #[brv 9 0 20 2 15, .slice a 2 2] w' (fun e w'' => ∃ xb g cap' mb, e = .returned (.tuple #[.pointer (some ⟨xb, 0, none⟩), .int .i64 0]) ∧ w'.heap.size ≤ xb ∧ w'.heap.size ≤ g ∧ w'.heap.size ≤ mb ∧ IsX w'' xb g cap' mb 9 U9 1 xa ∧ Below w'.heap.size w' w'') from
    ha ▸ (new15_w 9 U9 a 2 S15 w' hr nine su15_ok (by decide)).mono fun e w'' h => by
      rcases h with ⟨h1, _⟩ | ⟨_, h⟩
      · rw [new_15] at h1; cases h1
      · exact h)
  have CN0 := Lib.hid (fun (w' : World) => show Calls Tryz.prog 8 #[brv 9 0 20 2 15, .slice none 0 0] w' (fun e w'' => e = .returned (.tuple #[.pointer none, .int .i64 2]) ∧ Below w'.heap.size w' w'') from
    (new15_w 9 U9 none 0 [] w' ⟨fun j s hs => by simp at hs⟩ nine (fun s hs => by cases hs) (by decide)).mono fun e w'' h => by
      rcases h with ⟨_, h1, h2⟩ | ⟨h1, _⟩
      · exact ⟨h1, h2⟩
      · exact absurd h1 (by decide))
  have CP0 := Lib.hid (fun (xb g cap mb k : Nat) (w' : World) (h : IsX w' xb g cap mb 9 U9 k xa) (hk : k ≤ 1000) => show Calls Tryz.prog 11 #[.pointer (some ⟨xb, 0, none⟩), .int .i64 0, .bool true] w' (fun e w'' => e = .returned (.int .i64 0) ∧ Act15 w' w'' xb g mb 9 U9 k xb2) from
    (power15_w xb g cap mb k 9 U9 xa 0 true w' h nine hk).mono fun e w'' hh => by
      rw [la] at hh
      exact hb ▸ hh)
  have CP1 := Lib.hid (fun (xb g cap mb k : Nat) (w' : World) (h : IsX w' xb g cap mb 9 U9 k xb2) (hk : k ≤ 1000) => show Calls Tryz.prog 11 #[.pointer (some ⟨xb, 0, none⟩), .int .i64 1, .bool true] w' (fun e w'' => e = .returned (.int .i64 0) ∧ Act15 w' w'' xb g mb 9 U9 k xc) from
    (power15_w xb g cap mb k 9 U9 xb2 1 true w' h nine hk).mono fun e w'' hh => by
      rw [lb] at hh
      exact hc ▸ hh)
  have CP2 := Lib.hid (fun (xb g cap mb k : Nat) (w' : World) (h : IsX w' xb g cap mb 9 U9 k xc) (hk : k ≤ 1000) => show Calls Tryz.prog 11 #[.pointer (some ⟨xb, 0, none⟩), .int .i64 2, .bool true] w' (fun e w'' => e = .returned (.int .i64 1) ∧ Act15 w' w'' xb g mb 9 U9 k xc) from
    (power15_w xb g cap mb k 9 U9 xc 2 true w' h nine hk).mono fun e w'' hh => by
      rw [lc] at hh
      exact hh)
  have CH := Lib.hid (fun (xb g cap mb k : Nat) (w' : World) (h : IsX w' xb g cap mb 9 U9 k xc) (hk : k ≤ 1000) => show Calls Tryz.prog 13 #[.pointer (some ⟨xb, 0, none⟩), .int .i64 0, .agg #[.int .i64 0, .int .i64 0, .int .u64 0, .int .u64 0, .int .u64 0, .int .u64 0, .int .i64 0, .int .i64 0, .int .i64 0, .int .i64 0]] w' (fun e w'' => e = .returned (.int .i64 2) ∧ Act15 w' w'' xb g mb 9 U9 k xc) from
    (hear15_w xb g cap mb k 9 U9 xc 0 zeroM w' h nine hk zeroM_ok.1 zeroM_ok.2.1).mono fun e w'' hh => by
      unfold hearCode hearY at hh
      rw [lc, zeroM_ok.2.2] at hh
      exact hh)
  have CPo := Lib.hid (fun (xb g cap mb k : Nat) (P Q : Pt) (e : xc.l = [P, Q]) (w' : World) (h : IsX w' xb g cap mb 9 U9 k xc) => show Calls Tryz.prog 23 #[.pointer (some ⟨xb, 0, none⟩)] w' (fun e w'' => ∃ (g' cap' : Nat), e = .returned (.slice (some ⟨g', 0, none⟩) 2 cap') ∧ w'.heap.size ≤ g' ∧ WRow w'' g' [P, Q] ∧ Below w'.heap.size w' w'') from
    (ports15_w xb g cap mb k 9 U9 xc w' h).mono fun e2 w'' hh => by
      obtain ⟨g', cap', h1, _, h2, h3, h4⟩ := hh
      rw [e] at h1 h3
      exact ⟨g', cap', h1, h2, h3, h4⟩)
  have CS := Lib.hid (fun (xb g cap mb k : Nat) (M N : Bp) (e : outsI U9 xc.l = [(0, M), (1, N)]) (w' : World) (h : IsX w' xb g cap mb 9 U9 k xc) (hT : TRoles w') (hk : k ≤ 1000) => show Calls Tryz.prog 19 #[.pointer (some ⟨xb, 0, none⟩)] w' (fun e w'' => ∃ g' cap' : Nat, e = .returned (.slice (some ⟨g', 0, none⟩) 2 cap') ∧ w''.rangeAt g' 0 (cellsO (0, M)).toList ∧ Act15 w' w'' xb g mb 9 U9 k xd) from
    (send15_w xb g cap mb k 9 U9 xc w' h hT nine hk).mono fun e2 w'' hh => by
      obtain ⟨v, h1, h2, h3⟩ := hh
      rw [e] at h2
      obtain ⟨a, cap', h4, _, h5, _⟩ := orow_owned h2
      obtain ⟨g', h6, _, h7⟩ := h5.at_ 0 (0, M) rfl
      exact ⟨g', cap', by rw [h1, h4, h6]; rfl, by rw [Nat.zero_mul] at h7; exact h7, hd ▸ h3⟩)
  have CR := Lib.hid (fun (xb g cap mb k : Nat) (w' : World) (h : IsX w' xb g cap mb 9 U9 k xd) => rounds15_w xb g cap mb k 9 U9 xd w' h)
  have HT := Lib.hid hT
  have HP := Lib.hid (And.intro hP1 (And.intro hP2 (And.intro hP3 (And.intro hQ1 hQ2))))
  have HM := Lib.hid (And.intro hM1 (And.intro hM2 (And.intro hM3 (And.intro hM4 hM5))))
  have HE := Lib.hid (And.intro hPQ (And.intro hMN (And.intro hr0 hr1)))
  clear hT hP1 hP2 hP3 hQ1 hQ2 hM1 hM2 hM3 hM4 hM5 hPQ hMN hr0 hr1 ha hb hc hd la lb lc
  go_enter Tryz.func6, Tryz.ntmps6
  go_upto_region 2 with (first
    | (go_at_call 25; (with_reducible refine (CU.out _).mono ?_); rintro e w1 ⟨rfl, hb1⟩)
    | (with_reducible refine wpList_su2 rfl _ _ rfl 1 4 2 4 false true rfl rfl ?_)
    | (go_at_call 8; (with_reducible refine (CN1.out _ _ (su2_row w1)).mono ?_); rintro e w2 ⟨xb, g, cap, mb, rfl, hxb, hg, hmb, hx, hb2⟩))
  have X2 := Lib.hid (show XIs w w2 xb g cap mb 9 U9 1 xa from ⟨hx, by have := hb1.size; rw [size_box] at hxb; omega, by have := hb1.size; rw [size_box] at hmb; omega, by have := hb1.size; rw [size_box] at hg; omega, bw_trans (bw_alloc hb1 _) hb2⟩)
  clear hx hxb hg hmb hb1 hb2
  go_upto_region 5 with (first
    | (go_at_call 25; (with_reducible refine (CU.out _).mono ?_); rintro e w3 ⟨rfl, hb3⟩)
    | (go_at_call 8; (with_reducible refine (CN0.out _).mono ?_); rintro e w4 ⟨rfl, hb4⟩))
  have X4 := Lib.hid ((X2.out.next hb3).next hb4)
  clear X2 hb3 hb4
  go_upto_region 6 with (go_at_call 11; first
    | ((with_reducible refine (CP0.out _ _ _ _ _ _ X4.out.is (by decide)).mono ?_); rintro e w5 ⟨rfl, ha5⟩; obtain ⟨g5, cap5, hx5, _⟩ := X4.out.act ha5; have X5 := Lib.hid hx5; clear hx5 ha5)
    | ((with_reducible refine (CP1.out _ _ _ _ _ _ X5.out.is (by decide)).mono ?_); rintro e w6 ⟨rfl, ha6⟩; obtain ⟨g6, cap6, hx6, _⟩ := X5.out.act ha6; have X6 := Lib.hid hx6; clear hx6 ha6))
  clear X4 X5
  go_upto_region 7 with (go_at_call 11; (with_reducible refine (CP2.out _ _ _ _ _ _ X6.out.is (by decide)).mono ?_); rintro e w7 ⟨rfl, ha7⟩; obtain ⟨g7, cap7, hx7, _⟩ := X6.out.act ha7; have X7 := Lib.hid hx7; clear hx7 ha7)
  clear X6
  go_upto_region 8 with (go_at_call 13; (with_reducible refine (CH.out _ _ _ _ _ _ X7.out.is (by decide)).mono ?_); rintro e w8 ⟨rfl, ha8⟩; obtain ⟨g8, cap8, hx8, _⟩ := X7.out.act ha8; have X8 := Lib.hid hx8; clear hx8 ha8)
  clear X7
  go_upto_region 9 with (go_at_call 23; (with_reducible refine (CPo.out _ _ _ _ _ P Q HE.out.1 _ X8.out.is).mono ?_); rintro e w9 ⟨gl, capl, rfl, hgl, hwl, hb9⟩; have W9 := Lib.hid hwl; have X9 := Lib.hid (X8.out.next hb9); have hl8 := Lib.hid X8.out.lt; clear hwl hb9)
  clear X8
  go_upto_region 10 with (go_at_call 19; (with_reducible refine (CS.out _ _ _ _ _ M N HE.out.2.1 _ X9.out.is (X9.out.roles HT.out) (by decide)).mono ?_); rintro e wa ⟨go, capo, rfl, hro, haa⟩; obtain ⟨ga, capa, hxa, hka⟩ := X9.out.act haa; have XA := Lib.hid hxa; have RO := Lib.hid hro; have WA := Lib.hid (W9.out.k3 hka (by have := hl8.out; omega) (by have := hl8.out; omega) (by have := hl8.out; omega)); clear hxa hro hka haa)
  clear X9 W9
  have p22 : wa.cell? ⟨gl, 22, none⟩ = some (.int .i64 2) := HP.out.1 ▸ (WA.out.at_ 0 P rfl) 22 (.int .i64 P.role) rfl
  have p34 : wa.cell? ⟨gl, 34, none⟩ = some (.bool true) := HP.out.2.1 ▸ (WA.out.at_ 0 P rfl) 34 (.bool P.proposing) rfl
  have p30 : wa.cell? ⟨gl, 30, none⟩ = some (.bool false) := HP.out.2.2.1 ▸ (WA.out.at_ 0 P rfl) 30 (.bool P.forwarding) rfl
  have q22 : wa.cell? ⟨gl, 83, none⟩ = some (.int .i64 2) := HP.out.2.2.2.1 ▸ (WA.out.at_ 1 Q rfl) 22 (.int .i64 Q.role) rfl
  have q30 : wa.cell? ⟨gl, 91, none⟩ = some (.bool true) := HP.out.2.2.2.2 ▸ (WA.out.at_ 1 Q rfl) 30 (.bool Q.forwarding) rfl
  have o0 : wa.cell? ⟨go, 0, none⟩ = some (.int .i64 0) := RO.out 0 (.int .i64 0) rfl
  have o1 : wa.cell? ⟨go, 1, none⟩ = some (.int .i64 3) := HM.out.1 ▸ RO.out 1 (.int .i64 M.kind) rfl
  have o3 : wa.cell? ⟨go, 3, none⟩ = some (.int .u64 9) := HM.out.2.1 ▸ RO.out 3 (.int .u64 M.root) rfl
  have o4 : wa.cell? ⟨go, 4, none⟩ = some (.int .u64 0) := HM.out.2.2.1 ▸ RO.out 4 (.int .u64 M.cost) rfl
  have o5 : wa.cell? ⟨go, 5, none⟩ = some (.int .u64 9) := HM.out.2.2.2.1 ▸ RO.out 5 (.int .u64 M.bridge) rfl
  have o6 : wa.cell? ⟨go, 6, none⟩ = some (.int .u64 1) := HM.out.2.2.2.2 ▸ RO.out 6 (.int .u64 M.port) rfl
  have hrd : 0 < xd.r := HE.out.2.2.1
  have CRR := Lib.hid (CR.out _ _ _ _ _ _ XA.out.is)
  have BA := Lib.hid XA.out.below
  clear XA WA RO CR CPo CS CH CP0 CP1 CP2 CN0 CN1 CU HP HM HE
  go_wp2_with (go_at_call 24; (with_reducible refine CRR.out.mono ?_); rintro e wz ⟨rfl, hwz⟩; obtain rfl : wa = wz := hwz.symm)
  go_ret
  exact ⟨rfl, BA.out⟩
end Go.Proofs.YtldobcfejldbiaaGreatDoor
