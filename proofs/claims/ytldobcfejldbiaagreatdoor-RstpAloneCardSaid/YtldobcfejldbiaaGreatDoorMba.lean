/-
  Layer 13: to tell on what was heard; the steps of 0, of 1 and of 2.
-/
import Derived.Test.YtldobcfejldbiaaGreatDoorMam
namespace Go.Proofs.YtldobcfejldbiaaGreatDoor
set_option linter.unusedVariables false
set_option linter.unusedSimpArgs false
open Go.RowKit Vm Rm Bm Im

theorem tell_set (l : List Pt) (k : Nat) (X Y : Pt) (T : Bool) : (l.set k X).mapIdx (tellAt Y T k) = l.mapIdx (tellAt Y T k) := by
  apply List.ext_getElem?
  intro i
  simp only [List.getElem?_mapIdx]
  by_cases hi : k = i
  · subst hi
    rw [List.getElem?_set]
    cases h : l[k]? with
    | none => simp [List.getElem?_eq_none_iff.1 h]
    | some p => simp [(List.getElem?_eq_some_iff.1 h).1, tellAt]
  · rw [List.getElem?_set_ne hi]
theorem tell_put (l : List Pt) (k : Nat) (X Y : Pt) (T : Bool) : (l.mapIdx (tellAt X T k)).set k Y = l.mapIdx (tellAt Y T k) := by
  apply List.ext_getElem?
  intro i
  by_cases hi : k = i
  · subst hi
    rw [List.getElem?_set]
    simp only [List.getElem?_mapIdx, List.length_mapIdx]
    cases h : l[k]? with
    | none => simp [List.getElem?_eq_none_iff.1 h]
    | some p => simp [(List.getElem?_eq_some_iff.1 h).1, tellAt]
  · rw [List.getElem?_set_ne hi]
    simp only [List.getElem?_mapIdx]
    have hi' : ¬ i = k := fun e => hi e.symm
    cases h : l[i]? with
    | none => rfl
    | some p => simp [tellAt, hi']
theorem set_tell (l : List Pt) (k : Nat) (X : Pt) : l.set k X = l.mapIdx (tellAt X false k) := by
  apply List.ext_getElem?
  intro i
  simp only [List.getElem?_mapIdx]
  by_cases hi : k = i
  · subst hi
    rw [List.getElem?_set]
    cases h : l[k]? with
    | none => simp [List.getElem?_eq_none_iff.1 h]
    | some p => simp [(List.getElem?_eq_some_iff.1 h).1, tellAt]
  · rw [List.getElem?_set_ne hi]
    have hi' : ¬ i = k := fun e => hi e.symm
    cases h : l[i]? with
    | none => rfl
    | some p => simp [tellAt, hi']
theorem tell_all {l : List Pt} {k n : Nat} (hk : k < l.length) (hn : l.length = n) (X : Pt) : propN (l.set k X) k n = l.mapIdx (tellAt X true k) := by
  have h : (l.set k X)[k]? = some X := List.getElem?_set_self hk
  have e := propN_full h
  rw [tell_set, List.length_set, hn] at e
  exact e
theorem tell_own {l : List Pt} {k : Nat} (hk : k < l.length) (X : Pt) (T : Bool) : (l.mapIdx (tellAt X T k))[k]? = some X := by
  rw [List.getElem?_mapIdx, List.getElem?_eq_getElem hk]
  simp [tellAt]
theorem Ta.wrowq {w w' : World} {g k q : Nat} {l : List Pt} {X : Pt} (t : Ta g q X w w') (hq : k * 61 = q) (h : WRow w g l) (hk : k < l.length) : WRow w' g (l.set k X) := by
  subst hq
  exact t.wrow h hk
def fl2 : List (Nat × (Pt → Pt)) := [flTc, flTcn]
theorem fl2_ok : ∀ x ∈ fl2, FlagOk x := by
  intro x hx
  simp only [fl2, List.mem_cons, List.not_mem_nil, or_false] at hx
  rcases hx with rfl | rfl
  · exact flTc_ok
  · exact flTcn_ok
theorem fl2_row {w : World} {b g q : Nat} {T : TypeId} (h : w.heap[b]? = some (.cells #[flp g q 40, flp g q 41] T (0, 0))) : FlRow w b g q fl2 := by
  intro j x hx
  have hj : j < 2 := (List.getElem?_eq_some_iff.1 hx).1
  match j, hj with
  | 0, _ => cases hx; exact (cell_of_row w b 0 _ _ _ h).trans rfl
  | 1, _ => cases hx; exact (cell_of_row w b 1 _ _ _ h).trans rfl
/-- One flag alone is forgotten. -/
theorem forget1_w (x : Nat × (Pt → Pt)) (hx : FlagOk x) (c nb g q : Nat) (p X : Pt) (w : World) (h : PAt w g q p) (hc : x.1 = c) (hnb : w.heap.size = nb) (hX : Hid (x.2 p = X)) :
    Calls Tryz.prog 222 #[.slice (some ⟨nb, 0, none⟩) 1 1] (w.alloc (.cells #[.pointer (some ⟨g, q + c, none⟩)] 250)) fun e w' => e = .returned (.tuple #[]) ∧ Ta g q X w w' := by
  subst hnb
  subst hc
  have hgl := h.lt
  have B0 := below_box w (.cells #[flp g q x.1] 250)
  refine (forget_w [x] w.heap.size g q 1 p X _ (fun y hy => by simp at hy; rw [hy]; exact hx) (h.next B0) (fun j y hy => ?_) (by rw [size_box]; omega) (by omega) (by simp) hX).mono fun e w' ⟨h1, h2⟩ => ⟨h1, h2.before B0 hgl⟩
  have hj : j < 1 := (List.getElem?_eq_some_iff.1 hy).1
  obtain rfl : j = 0 := by omega
  cases hy
  exact (cell_of_row _ _ 0 _ _ _ (heap_alloc_new w (.cells #[flp g q x.1] 250))).trans rfl

def heard2 (p : Pt) : Pt := { p with heardTc := false, heardTcn := false }
set_option maxRecDepth 20000 in
set_option maxHeartbeats 1000000 in
theorem tellOn_w (t : Tm) (g n cap k q : Nat) (l : List Pt) (p : Pt) (w : World) (hr : WRow w g l) (hn : l.length = n) (hl : n ≤ 1000) (hp : l[k]? = some p) (hq : k * 61 = q) :
    Calls Tryz.prog 221 #[sv t g n cap k q] w fun e w' => e = .returned (.tuple #[]) ∧ WRow w' g (l.mapIdx (tellAt (heedP13 p) true k)) ∧ Kp g w w' := by
  obtain ⟨W, sb, HW, HS, k0, kB, kL⟩ := oneC_is t g n cap k q w
  have B0 := Lib.hid (HS.out ▸ kB : Below w.heap.size w W)
  have hrW := hr.next B0.out
  have hgl := hr.lt
  rw [HS.out] at hgl
  have hk := (List.getElem?_eq_some_iff.1 hp).1
  have PA := hq ▸ hrW.pat hp
  have BC := Lib.hid (below_box W (.cells #[flp g q 40, flp g q 41] 250))
  have hsg : sb ≠ g := by omega
  have hWg := hrW.lt
  have C := Lib.hid (show Calls Tryz.prog 222 #[.slice (some ⟨W.heap.size, 0, none⟩) 2 2] (W.alloc (.cells #[flp g q 40, flp g q 41] 250)).drew (fun e w' => e = .returned (.tuple #[]) ∧ Ta g q (heard2 p) (W.alloc (.cells #[flp g q 40, flp g q 41] 250)).drew w') from
    forget_w fl2 W.heap.size g q 2 p (heard2 p) _ fl2_ok (by have := PA.next BC.out; exact ⟨this.lt, this.at_, this.free⟩) (fl2_row (heap_alloc_new W _)) (by show W.heap.size < (W.alloc _).heap.size; rw [size_box]; omega) (by omega) (by decide) (Lib.hid rfl))
  have HW' := Lib.hid hWg
  have HR := Lib.hid hrW
  have HQ := Lib.hid hq
  have HN := Lib.hid hn
  have HK := Lib.hid hk
  have KB := Lib.hid k0
  obtain ⟨s0, s1, s2, s3, s4, s5, s6⟩ := k0.cells
  obtain ⟨P1, hP1⟩ : ∃ P, heard2 p = P := ⟨_, rfl⟩
  have e_role : P1.role = p.role := by rw [← hP1]; rfl
  have HH : (p.role = 2 → heedP13 p = { P1 with tcAck := true }) ∧ (¬ p.role = 2 → heedP13 p = P1) := by
    rw [← hP1]
    constructor
    · intro e; unfold heedP13; rw [if_pos e]; rfl
    · intro e; unfold heedP13; rw [if_neg e]; rfl
  have HHH := Lib.hid HH
  rw [hP1] at C
  clear hr hn hq hp hrW PA k0 kB kL hWg hk hP1 HH
  unfold sv scl
  unfold flp at *
  go_enter Tryz.func221, Tryz.ntmps221
  go_upto_region 1 with (fail)
  refine wp_to (W := W) (by exact HW.out.symm) ?_
  rw [HS.out]
  go_upto_region 2 with (fail)
  go_region_with (go_at_call 222; (with_reducible refine C.out.mono ?_); rintro e w1 ⟨rfl, T⟩)
  have T1 := Lib.hid (T.before BC.out.drew HW'.out)
  clear T C
  have SB := Lib.hid (KB.out.ta T1.out hsg)
  clear s0 s1 s2 s3 s4 s5 s6
  obtain ⟨s0, s1, s2, s3, s4, s5, s6⟩ := SB.out.cells
  have c_role := T1.out.blk.c_role
  have c_ack := T1.out.blk.c_tcAck
  have f_ack := T1.out.blk.f_tcAck
  rw [e_role] at c_role
  by_cases e : p.role = 2
  · have d : (p.role == 2) = true := by rw [e]; rfl
    have hX := HHH.out.1 e
    have T2 := Lib.hid (T1.out.s_tcAck true)
    rw [← hX] at T2
    have SB2 := Lib.hid (KB.out.ta T2.out hsg)
    have R2 := Lib.hid (T2.out.wrowq HQ.out HR.out HK.out)
    have CT := Lib.hid (tellOthers_w t g n cap k q _ _ R2.out ((List.length_set ..).trans HN.out) hl)
    rw [tell_all HK.out HN.out] at CT
    clear e hX
    have h1 : ¬ sb = g := hsg
    have h1b : ¬ g = sb := fun e => hsg e.symm
    unfold sv scl at CT
    go_wp2_with (go_at_call 218; (with_reducible refine CT.out.mono ?_); rintro e w2 ⟨rfl, hw2, hk2⟩)
    go_end0
    exact ⟨rfl, hw2, ((Kp.of B0.out).trans' T2.out.kp).trans' hk2⟩
  · have d : (p.role == 2) = false := beq_eq_false_iff_ne.2 e
    have hX := HHH.out.2 e
    have R2 := Lib.hid (T1.out.wrowq HQ.out HR.out HK.out)
    rw [← hX] at R2
    have CT := Lib.hid (tellOthers_w t g n cap k q _ _ R2.out ((List.length_set ..).trans HN.out) hl)
    rw [tell_all HK.out HN.out] at CT
    clear e hX
    unfold sv scl at CT
    go_wp2_with (go_at_call 218; (with_reducible refine CT.out.mono ?_); rintro e w2 ⟨rfl, hw2, hk2⟩)
    go_end0
    exact ⟨rfl, hw2, ((Kp.of B0.out).trans' T1.out.kp).trans' hk2⟩

/-- What a step makes of the row. -/
def stepR (t : Tm) (l : List Pt) (k : Nat) (p : Pt) : List Pt × Bool := match stepF t p with
  | none => (l, false)
  | some m => (l.mapIdx (tellAt m.1 m.2 k), true)
theorem stepR_no {t : Tm} {l : List Pt} {k : Nat} {p : Pt} (h : stepF t p = none) : stepR t l k p = (l, false) := by unfold stepR; rw [h]
theorem stepR_yes {t : Tm} {l : List Pt} {k : Nat} {p X : Pt} {T : Bool} (h : stepF t p = some (X, T)) : stepR t l k p = (l.mapIdx (tellAt X T k), true) := by unfold stepR; rw [h]

set_option maxRecDepth 20000 in
set_option maxHeartbeats 1000000 in
theorem ofInactive0 (t : Tm) (ht : TmOk t) (g n cap k q : Nat) (l L : List Pt) (B : Bool) (p : Pt) (w : World) (hr : WRow w g l) (hn : l.length = n) (hl : n ≤ 1000) (hp : l[k]? = some p) (hq : k * 61 = q) (hc : p.change = 0) (hX : Hid (stepR t l k p = (L, B))) (h_learn : p.learn = false) :
    Calls Tryz.prog 191 #[sv t g n cap k q] w fun e w' => e = .returned (.bool B) ∧ WRow w' g L ∧ Kp g w w' := by
  have hs : stepF t p = none := by
    unfold stepF
    simp [hc, h_learn]
  have e := stepR_no (l := l) (k := k) hs
  have e2 := hX.out.symm.trans e
  cases e2
  clear e hX hs hc
  obtain ⟨W, sb, HW, HS, k0, kB, kL⟩ := oneC_is t g n cap k q w
  have B0 := Lib.hid (HS.out ▸ kB : Below w.heap.size w W)
  have hrW := hr.next B0.out
  have hgl := hr.lt
  rw [HS.out] at hgl
  have hsg : sb ≠ g := by omega
  have HK := Lib.hid (List.getElem?_eq_some_iff.1 hp).1
  have PA := hq ▸ hrW.pat hp
  have HR := Lib.hid hrW
  have HQ := Lib.hid hq
  have HN := Lib.hid hn
  have KB := Lib.hid k0
  have c_learn := PA.c_learn
  rw [h_learn] at c_learn
  obtain ⟨s0, s1, s2, s3, s4, s5, s6⟩ := k0.cells
  have h1a : ¬ sb = g := hsg
  have h1b : ¬ g = sb := fun e => hsg e.symm
  clear hr hn hq hp hrW PA k0 kB kL ht h_learn
  unfold sv scl at *
  go_enter Tryz.func191, Tryz.ntmps191
  go_upto_region 1 with (fail)
  refine wp_to (W := W) (by exact HW.out.symm) ?_
  rw [HS.out]
  go_wp2_with (first
    | fail)
  go_ret
  exact ⟨rfl, HR.out, Kp.of B0.out⟩

set_option maxRecDepth 20000 in
set_option maxHeartbeats 1000000 in
theorem ofInactive1 (t : Tm) (ht : TmOk t) (g n cap k q : Nat) (l L : List Pt) (B : Bool) (p : Pt) (w : World) (hr : WRow w g l) (hn : l.length = n) (hl : n ≤ 1000) (hp : l[k]? = some p) (hq : k * 61 = q) (hc : p.change = 0) (hX : Hid (stepR t l k p = (L, B))) (h_learn : p.learn = true) (h_flush : p.flush = true) :
    Calls Tryz.prog 191 #[sv t g n cap k q] w fun e w' => e = .returned (.bool B) ∧ WRow w' g L ∧ Kp g w w' := by
  have hs : stepF t p = none := by
    unfold stepF
    simp [hc, h_learn, h_flush]
  have e := stepR_no (l := l) (k := k) hs
  have e2 := hX.out.symm.trans e
  cases e2
  clear e hX hs hc
  obtain ⟨W, sb, HW, HS, k0, kB, kL⟩ := oneC_is t g n cap k q w
  have B0 := Lib.hid (HS.out ▸ kB : Below w.heap.size w W)
  have hrW := hr.next B0.out
  have hgl := hr.lt
  rw [HS.out] at hgl
  have hsg : sb ≠ g := by omega
  have HK := Lib.hid (List.getElem?_eq_some_iff.1 hp).1
  have PA := hq ▸ hrW.pat hp
  have HR := Lib.hid hrW
  have HQ := Lib.hid hq
  have HN := Lib.hid hn
  have KB := Lib.hid k0
  have c_learn := PA.c_learn
  rw [h_learn] at c_learn
  have c_flush := PA.c_flush
  rw [h_flush] at c_flush
  obtain ⟨s0, s1, s2, s3, s4, s5, s6⟩ := k0.cells
  have h1a : ¬ sb = g := hsg
  have h1b : ¬ g = sb := fun e => hsg e.symm
  clear hr hn hq hp hrW PA k0 kB kL ht h_learn h_flush
  unfold sv scl at *
  go_enter Tryz.func191, Tryz.ntmps191
  go_upto_region 1 with (fail)
  refine wp_to (W := W) (by exact HW.out.symm) ?_
  rw [HS.out]
  go_wp2_with (first
    | fail)
  go_ret
  exact ⟨rfl, HR.out, Kp.of B0.out⟩

set_option maxRecDepth 20000 in
set_option maxHeartbeats 1000000 in
theorem ofInactive2 (t : Tm) (ht : TmOk t) (g n cap k q : Nat) (l L : List Pt) (B : Bool) (p : Pt) (w : World) (hr : WRow w g l) (hn : l.length = n) (hl : n ≤ 1000) (hp : l[k]? = some p) (hq : k * 61 = q) (hc : p.change = 0) (hX : Hid (stepR t l k p = (L, B))) (h_learn : p.learn = true) (h_flush : p.flush = false) :
    Calls Tryz.prog 191 #[sv t g n cap k q] w fun e w' => e = .returned (.bool B) ∧ WRow w' g L ∧ Kp g w w' := by
  have hs : stepF t p = some (forgetP { p with change := 1 }, false) := by
    unfold stepF
    simp [hc, h_learn, h_flush]
  have e := stepR_yes (l := l) (k := k) hs
  have e2 := hX.out.symm.trans e
  cases e2
  clear e hX hs hc
  obtain ⟨W, sb, HW, HS, k0, kB, kL⟩ := oneC_is t g n cap k q w
  have B0 := Lib.hid (HS.out ▸ kB : Below w.heap.size w W)
  have hrW := hr.next B0.out
  have hgl := hr.lt
  rw [HS.out] at hgl
  have hsg : sb ≠ g := by omega
  have HK := Lib.hid (List.getElem?_eq_some_iff.1 hp).1
  have PA := hq ▸ hrW.pat hp
  have HR := Lib.hid hrW
  have HQ := Lib.hid hq
  have HN := Lib.hid hn
  have KB := Lib.hid k0
  have c_learn := PA.c_learn
  rw [h_learn] at c_learn
  have c_flush := PA.c_flush
  rw [h_flush] at c_flush
  have CL := Lib.hid (toLearning_w g q p _ W PA (Lib.hid rfl))
  obtain ⟨s0, s1, s2, s3, s4, s5, s6⟩ := k0.cells
  have h1a : ¬ sb = g := hsg
  have h1b : ¬ g = sb := fun e => hsg e.symm
  clear hr hn hq hp hrW PA k0 kB kL ht h_learn h_flush
  unfold sv scl at *
  go_enter Tryz.func191, Tryz.ntmps191
  go_upto_region 1 with (fail)
  refine wp_to (W := W) (by exact HW.out.symm) ?_
  rw [HS.out]
  go_wp2_with (first
    | (go_at_call 215; (with_reducible refine CL.out.mono ?_); rintro e w2 ⟨rfl, T⟩))
  go_ret
  have R := T.wrowq HQ.out HR.out HK.out
  rw [set_tell] at R
  exact ⟨rfl, R, (Kp.of B0.out).trans' T.kp⟩

set_option maxRecDepth 20000 in
set_option maxHeartbeats 1000000 in
theorem ofLearning0 (t : Tm) (ht : TmOk t) (g n cap k q : Nat) (l L : List Pt) (B : Bool) (p : Pt) (w : World) (hr : WRow w g l) (hn : l.length = n) (hl : n ≤ 1000) (hp : l[k]? = some p) (hq : k * 61 = q) (hc : p.change = 1) (hX : Hid (stepR t l k p = (L, B))) (h_I : inB p = false) (h_learn : p.learn = true) (h_told : toldB p = false) :
    Calls Tryz.prog 192 #[sv t g n cap k q] w fun e w' => e = .returned (.bool B) ∧ WRow w' g L ∧ Kp g w w' := by
  have hs : stepF t p = none := by
    unfold stepF
    simp [hc, h_I, h_learn, h_told]
  have e := stepR_no (l := l) (k := k) hs
  have e2 := hX.out.symm.trans e
  cases e2
  clear e hX hs hc
  obtain ⟨W, sb, HW, HS, k0, kB, kL⟩ := oneC_is t g n cap k q w
  have B0 := Lib.hid (HS.out ▸ kB : Below w.heap.size w W)
  have hrW := hr.next B0.out
  have hgl := hr.lt
  rw [HS.out] at hgl
  have hsg : sb ≠ g := by omega
  have HK := Lib.hid (List.getElem?_eq_some_iff.1 hp).1
  have PA := hq ▸ hrW.pat hp
  have HR := Lib.hid hrW
  have HQ := Lib.hid hq
  have HN := Lib.hid hn
  have KB := Lib.hid k0
  have CI := Lib.hid (ofTree_w g q p false W PA (Lib.hid h_I))
  have c_learn := PA.c_learn
  rw [h_learn] at c_learn
  have CT := Lib.hid (wasTold_w g q p false W PA (Lib.hid h_told))
  obtain ⟨s0, s1, s2, s3, s4, s5, s6⟩ := k0.cells
  have h1a : ¬ sb = g := hsg
  have h1b : ¬ g = sb := fun e => hsg e.symm
  clear hr hn hq hp hrW PA k0 kB kL ht h_I h_learn h_told
  unfold sv scl at *
  go_enter Tryz.func192, Tryz.ntmps192
  go_upto_region 1 with (fail)
  refine wp_to (W := W) (by exact HW.out.symm) ?_
  rw [HS.out]
  go_wp2_with (first
    | (go_at_call 216; (with_reducible refine CI.out.mono ?_); rintro e w1 ⟨rfl, rfl⟩)
    | (go_at_call 219; (with_reducible refine CT.out.mono ?_); rintro e w1 ⟨rfl, rfl⟩))
  go_ret
  exact ⟨rfl, HR.out, Kp.of B0.out⟩

set_option maxRecDepth 20000 in
set_option maxHeartbeats 1000000 in
theorem ofLearning1 (t : Tm) (ht : TmOk t) (g n cap k q : Nat) (l L : List Pt) (B : Bool) (p : Pt) (w : World) (hr : WRow w g l) (hn : l.length = n) (hl : n ≤ 1000) (hp : l[k]? = some p) (hq : k * 61 = q) (hc : p.change = 1) (hX : Hid (stepR t l k p = (L, B))) (h_I : inB p = false) (h_learn : p.learn = false) (h_learning : p.learning = true) (h_told : toldB p = false) :
    Calls Tryz.prog 192 #[sv t g n cap k q] w fun e w' => e = .returned (.bool B) ∧ WRow w' g L ∧ Kp g w w' := by
  have hs : stepF t p = none := by
    unfold stepF
    simp [hc, h_I, h_learn, h_learning, h_told]
  have e := stepR_no (l := l) (k := k) hs
  have e2 := hX.out.symm.trans e
  cases e2
  clear e hX hs hc
  obtain ⟨W, sb, HW, HS, k0, kB, kL⟩ := oneC_is t g n cap k q w
  have B0 := Lib.hid (HS.out ▸ kB : Below w.heap.size w W)
  have hrW := hr.next B0.out
  have hgl := hr.lt
  rw [HS.out] at hgl
  have hsg : sb ≠ g := by omega
  have HK := Lib.hid (List.getElem?_eq_some_iff.1 hp).1
  have PA := hq ▸ hrW.pat hp
  have HR := Lib.hid hrW
  have HQ := Lib.hid hq
  have HN := Lib.hid hn
  have KB := Lib.hid k0
  have CI := Lib.hid (ofTree_w g q p false W PA (Lib.hid h_I))
  have c_learn := PA.c_learn
  rw [h_learn] at c_learn
  have c_learning := PA.c_learning
  rw [h_learning] at c_learning
  have CT := Lib.hid (wasTold_w g q p false W PA (Lib.hid h_told))
  obtain ⟨s0, s1, s2, s3, s4, s5, s6⟩ := k0.cells
  have h1a : ¬ sb = g := hsg
  have h1b : ¬ g = sb := fun e => hsg e.symm
  clear hr hn hq hp hrW PA k0 kB kL ht h_I h_learn h_learning h_told
  unfold sv scl at *
  go_enter Tryz.func192, Tryz.ntmps192
  go_upto_region 1 with (fail)
  refine wp_to (W := W) (by exact HW.out.symm) ?_
  rw [HS.out]
  go_wp2_with (first
    | (go_at_call 216; (with_reducible refine CI.out.mono ?_); rintro e w1 ⟨rfl, rfl⟩)
    | (go_at_call 219; (with_reducible refine CT.out.mono ?_); rintro e w1 ⟨rfl, rfl⟩))
  go_ret
  exact ⟨rfl, HR.out, Kp.of B0.out⟩

set_option maxRecDepth 20000 in
set_option maxHeartbeats 1000000 in
theorem ofLearning2 (t : Tm) (ht : TmOk t) (g n cap k q : Nat) (l L : List Pt) (B : Bool) (p : Pt) (w : World) (hr : WRow w g l) (hn : l.length = n) (hl : n ≤ 1000) (hp : l[k]? = some p) (hq : k * 61 = q) (hc : p.change = 1) (hX : Hid (stepR t l k p = (L, B))) (h_I : inB p = true) (h_forward : p.forward = false) (h_told : toldB p = false) :
    Calls Tryz.prog 192 #[sv t g n cap k q] w fun e w' => e = .returned (.bool B) ∧ WRow w' g L ∧ Kp g w w' := by
  have hs : stepF t p = none := by
    unfold stepF
    simp [hc, h_I, h_forward, h_told]
  have e := stepR_no (l := l) (k := k) hs
  have e2 := hX.out.symm.trans e
  cases e2
  clear e hX hs hc
  obtain ⟨W, sb, HW, HS, k0, kB, kL⟩ := oneC_is t g n cap k q w
  have B0 := Lib.hid (HS.out ▸ kB : Below w.heap.size w W)
  have hrW := hr.next B0.out
  have hgl := hr.lt
  rw [HS.out] at hgl
  have hsg : sb ≠ g := by omega
  have HK := Lib.hid (List.getElem?_eq_some_iff.1 hp).1
  have PA := hq ▸ hrW.pat hp
  have HR := Lib.hid hrW
  have HQ := Lib.hid hq
  have HN := Lib.hid hn
  have KB := Lib.hid k0
  have CI := Lib.hid (ofTree_w g q p true W PA (Lib.hid h_I))
  have c_forward := PA.c_forward
  rw [h_forward] at c_forward
  have CT := Lib.hid (wasTold_w g q p false W PA (Lib.hid h_told))
  obtain ⟨s0, s1, s2, s3, s4, s5, s6⟩ := k0.cells
  have h1a : ¬ sb = g := hsg
  have h1b : ¬ g = sb := fun e => hsg e.symm
  clear hr hn hq hp hrW PA k0 kB kL ht h_I h_forward h_told
  unfold sv scl at *
  go_enter Tryz.func192, Tryz.ntmps192
  go_upto_region 1 with (fail)
  refine wp_to (W := W) (by exact HW.out.symm) ?_
  rw [HS.out]
  go_wp2_with (first
    | (go_at_call 216; (with_reducible refine CI.out.mono ?_); rintro e w1 ⟨rfl, rfl⟩)
    | (go_at_call 219; (with_reducible refine CT.out.mono ?_); rintro e w1 ⟨rfl, rfl⟩))
  go_ret
  exact ⟨rfl, HR.out, Kp.of B0.out⟩

set_option maxRecDepth 20000 in
set_option maxHeartbeats 1000000 in
theorem ofLearning3 (t : Tm) (ht : TmOk t) (g n cap k q : Nat) (l L : List Pt) (B : Bool) (p : Pt) (w : World) (hr : WRow w g l) (hn : l.length = n) (hl : n ≤ 1000) (hp : l[k]? = some p) (hq : k * 61 = q) (hc : p.change = 1) (hX : Hid (stepR t l k p = (L, B))) (h_I : inB p = true) (h_forward : p.forward = true) (h_oper : p.oper = true) (h_told : toldB p = false) :
    Calls Tryz.prog 192 #[sv t g n cap k q] w fun e w' => e = .returned (.bool B) ∧ WRow w' g L ∧ Kp g w w' := by
  have hs : stepF t p = none := by
    unfold stepF
    simp [hc, h_I, h_forward, h_oper, h_told]
  have e := stepR_no (l := l) (k := k) hs
  have e2 := hX.out.symm.trans e
  cases e2
  clear e hX hs hc
  obtain ⟨W, sb, HW, HS, k0, kB, kL⟩ := oneC_is t g n cap k q w
  have B0 := Lib.hid (HS.out ▸ kB : Below w.heap.size w W)
  have hrW := hr.next B0.out
  have hgl := hr.lt
  rw [HS.out] at hgl
  have hsg : sb ≠ g := by omega
  have HK := Lib.hid (List.getElem?_eq_some_iff.1 hp).1
  have PA := hq ▸ hrW.pat hp
  have HR := Lib.hid hrW
  have HQ := Lib.hid hq
  have HN := Lib.hid hn
  have KB := Lib.hid k0
  have CI := Lib.hid (ofTree_w g q p true W PA (Lib.hid h_I))
  have c_forward := PA.c_forward
  rw [h_forward] at c_forward
  have c_oper := PA.c_oper
  rw [h_oper] at c_oper
  have CT := Lib.hid (wasTold_w g q p false W PA (Lib.hid h_told))
  obtain ⟨s0, s1, s2, s3, s4, s5, s6⟩ := k0.cells
  have h1a : ¬ sb = g := hsg
  have h1b : ¬ g = sb := fun e => hsg e.symm
  clear hr hn hq hp hrW PA k0 kB kL ht h_I h_forward h_oper h_told
  unfold sv scl at *
  go_enter Tryz.func192, Tryz.ntmps192
  go_upto_region 1 with (fail)
  refine wp_to (W := W) (by exact HW.out.symm) ?_
  rw [HS.out]
  go_wp2_with (first
    | (go_at_call 216; (with_reducible refine CI.out.mono ?_); rintro e w1 ⟨rfl, rfl⟩)
    | (go_at_call 219; (with_reducible refine CT.out.mono ?_); rintro e w1 ⟨rfl, rfl⟩))
  go_ret
  exact ⟨rfl, HR.out, Kp.of B0.out⟩

set_option maxRecDepth 20000 in
set_option maxHeartbeats 1000000 in
theorem ofLearning4 (t : Tm) (ht : TmOk t) (g n cap k q : Nat) (l L : List Pt) (B : Bool) (p : Pt) (w : World) (hr : WRow w g l) (hn : l.length = n) (hl : n ≤ 1000) (hp : l[k]? = some p) (hq : k * 61 = q) (hc : p.change = 1) (hX : Hid (stepR t l k p = (L, B))) (h_I : inB p = false) (h_learn : p.learn = true) (h_told : toldB p = true) :
    Calls Tryz.prog 192 #[sv t g n cap k q] w fun e w' => e = .returned (.bool B) ∧ WRow w' g L ∧ Kp g w w' := by
  have hs : stepF t p = some (forgetP p, false) := by
    unfold stepF
    simp [hc, h_I, h_learn, h_told]
  have e := stepR_yes (l := l) (k := k) hs
  have e2 := hX.out.symm.trans e
  cases e2
  clear e hX hs hc
  obtain ⟨W, sb, HW, HS, k0, kB, kL⟩ := oneC_is t g n cap k q w
  have B0 := Lib.hid (HS.out ▸ kB : Below w.heap.size w W)
  have hrW := hr.next B0.out
  have hgl := hr.lt
  rw [HS.out] at hgl
  have hsg : sb ≠ g := by omega
  have HK := Lib.hid (List.getElem?_eq_some_iff.1 hp).1
  have PA := hq ▸ hrW.pat hp
  have HR := Lib.hid hrW
  have HQ := Lib.hid hq
  have HN := Lib.hid hn
  have KB := Lib.hid k0
  have CI := Lib.hid (ofTree_w g q p false W PA (Lib.hid h_I))
  have c_learn := PA.c_learn
  rw [h_learn] at c_learn
  have CT := Lib.hid (wasTold_w g q p true W PA (Lib.hid h_told))
  have CF := Lib.hid (forgetAll_w g q p _ W PA (Lib.hid rfl))
  obtain ⟨s0, s1, s2, s3, s4, s5, s6⟩ := k0.cells
  have h1a : ¬ sb = g := hsg
  have h1b : ¬ g = sb := fun e => hsg e.symm
  clear hr hn hq hp hrW PA k0 kB kL ht h_I h_learn h_told
  unfold sv scl at *
  go_enter Tryz.func192, Tryz.ntmps192
  go_upto_region 1 with (fail)
  refine wp_to (W := W) (by exact HW.out.symm) ?_
  rw [HS.out]
  go_wp2_with (first
    | (go_at_call 216; (with_reducible refine CI.out.mono ?_); rintro e w1 ⟨rfl, rfl⟩)
    | (go_at_call 219; (with_reducible refine CT.out.mono ?_); rintro e w1 ⟨rfl, rfl⟩)
    | (go_at_call 220; (with_reducible refine CF.out.mono ?_); rintro e w2 ⟨rfl, T⟩))
  go_ret
  have R := T.wrowq HQ.out HR.out HK.out
  rw [set_tell] at R
  exact ⟨rfl, R, (Kp.of B0.out).trans' T.kp⟩

set_option maxRecDepth 20000 in
set_option maxHeartbeats 1000000 in
theorem ofLearning5 (t : Tm) (ht : TmOk t) (g n cap k q : Nat) (l L : List Pt) (B : Bool) (p : Pt) (w : World) (hr : WRow w g l) (hn : l.length = n) (hl : n ≤ 1000) (hp : l[k]? = some p) (hq : k * 61 = q) (hc : p.change = 1) (hX : Hid (stepR t l k p = (L, B))) (h_I : inB p = false) (h_learn : p.learn = false) (h_learning : p.learning = true) (h_told : toldB p = true) :
    Calls Tryz.prog 192 #[sv t g n cap k q] w fun e w' => e = .returned (.bool B) ∧ WRow w' g L ∧ Kp g w w' := by
  have hs : stepF t p = some (forgetP p, false) := by
    unfold stepF
    simp [hc, h_I, h_learn, h_learning, h_told]
  have e := stepR_yes (l := l) (k := k) hs
  have e2 := hX.out.symm.trans e
  cases e2
  clear e hX hs hc
  obtain ⟨W, sb, HW, HS, k0, kB, kL⟩ := oneC_is t g n cap k q w
  have B0 := Lib.hid (HS.out ▸ kB : Below w.heap.size w W)
  have hrW := hr.next B0.out
  have hgl := hr.lt
  rw [HS.out] at hgl
  have hsg : sb ≠ g := by omega
  have HK := Lib.hid (List.getElem?_eq_some_iff.1 hp).1
  have PA := hq ▸ hrW.pat hp
  have HR := Lib.hid hrW
  have HQ := Lib.hid hq
  have HN := Lib.hid hn
  have KB := Lib.hid k0
  have CI := Lib.hid (ofTree_w g q p false W PA (Lib.hid h_I))
  have c_learn := PA.c_learn
  rw [h_learn] at c_learn
  have c_learning := PA.c_learning
  rw [h_learning] at c_learning
  have CT := Lib.hid (wasTold_w g q p true W PA (Lib.hid h_told))
  have CF := Lib.hid (forgetAll_w g q p _ W PA (Lib.hid rfl))
  obtain ⟨s0, s1, s2, s3, s4, s5, s6⟩ := k0.cells
  have h1a : ¬ sb = g := hsg
  have h1b : ¬ g = sb := fun e => hsg e.symm
  clear hr hn hq hp hrW PA k0 kB kL ht h_I h_learn h_learning h_told
  unfold sv scl at *
  go_enter Tryz.func192, Tryz.ntmps192
  go_upto_region 1 with (fail)
  refine wp_to (W := W) (by exact HW.out.symm) ?_
  rw [HS.out]
  go_wp2_with (first
    | (go_at_call 216; (with_reducible refine CI.out.mono ?_); rintro e w1 ⟨rfl, rfl⟩)
    | (go_at_call 219; (with_reducible refine CT.out.mono ?_); rintro e w1 ⟨rfl, rfl⟩)
    | (go_at_call 220; (with_reducible refine CF.out.mono ?_); rintro e w2 ⟨rfl, T⟩))
  go_ret
  have R := T.wrowq HQ.out HR.out HK.out
  rw [set_tell] at R
  exact ⟨rfl, R, (Kp.of B0.out).trans' T.kp⟩

set_option maxRecDepth 20000 in
set_option maxHeartbeats 1000000 in
theorem ofLearning6 (t : Tm) (ht : TmOk t) (g n cap k q : Nat) (l L : List Pt) (B : Bool) (p : Pt) (w : World) (hr : WRow w g l) (hn : l.length = n) (hl : n ≤ 1000) (hp : l[k]? = some p) (hq : k * 61 = q) (hc : p.change = 1) (hX : Hid (stepR t l k p = (L, B))) (h_I : inB p = true) (h_forward : p.forward = false) (h_told : toldB p = true) :
    Calls Tryz.prog 192 #[sv t g n cap k q] w fun e w' => e = .returned (.bool B) ∧ WRow w' g L ∧ Kp g w w' := by
  have hs : stepF t p = some (forgetP p, false) := by
    unfold stepF
    simp [hc, h_I, h_forward, h_told]
  have e := stepR_yes (l := l) (k := k) hs
  have e2 := hX.out.symm.trans e
  cases e2
  clear e hX hs hc
  obtain ⟨W, sb, HW, HS, k0, kB, kL⟩ := oneC_is t g n cap k q w
  have B0 := Lib.hid (HS.out ▸ kB : Below w.heap.size w W)
  have hrW := hr.next B0.out
  have hgl := hr.lt
  rw [HS.out] at hgl
  have hsg : sb ≠ g := by omega
  have HK := Lib.hid (List.getElem?_eq_some_iff.1 hp).1
  have PA := hq ▸ hrW.pat hp
  have HR := Lib.hid hrW
  have HQ := Lib.hid hq
  have HN := Lib.hid hn
  have KB := Lib.hid k0
  have CI := Lib.hid (ofTree_w g q p true W PA (Lib.hid h_I))
  have c_forward := PA.c_forward
  rw [h_forward] at c_forward
  have CT := Lib.hid (wasTold_w g q p true W PA (Lib.hid h_told))
  have CF := Lib.hid (forgetAll_w g q p _ W PA (Lib.hid rfl))
  obtain ⟨s0, s1, s2, s3, s4, s5, s6⟩ := k0.cells
  have h1a : ¬ sb = g := hsg
  have h1b : ¬ g = sb := fun e => hsg e.symm
  clear hr hn hq hp hrW PA k0 kB kL ht h_I h_forward h_told
  unfold sv scl at *
  go_enter Tryz.func192, Tryz.ntmps192
  go_upto_region 1 with (fail)
  refine wp_to (W := W) (by exact HW.out.symm) ?_
  rw [HS.out]
  go_wp2_with (first
    | (go_at_call 216; (with_reducible refine CI.out.mono ?_); rintro e w1 ⟨rfl, rfl⟩)
    | (go_at_call 219; (with_reducible refine CT.out.mono ?_); rintro e w1 ⟨rfl, rfl⟩)
    | (go_at_call 220; (with_reducible refine CF.out.mono ?_); rintro e w2 ⟨rfl, T⟩))
  go_ret
  have R := T.wrowq HQ.out HR.out HK.out
  rw [set_tell] at R
  exact ⟨rfl, R, (Kp.of B0.out).trans' T.kp⟩

set_option maxRecDepth 20000 in
set_option maxHeartbeats 1000000 in
theorem ofLearning7 (t : Tm) (ht : TmOk t) (g n cap k q : Nat) (l L : List Pt) (B : Bool) (p : Pt) (w : World) (hr : WRow w g l) (hn : l.length = n) (hl : n ≤ 1000) (hp : l[k]? = some p) (hq : k * 61 = q) (hc : p.change = 1) (hX : Hid (stepR t l k p = (L, B))) (h_I : inB p = true) (h_forward : p.forward = true) (h_oper : p.oper = true) (h_told : toldB p = true) :
    Calls Tryz.prog 192 #[sv t g n cap k q] w fun e w' => e = .returned (.bool B) ∧ WRow w' g L ∧ Kp g w w' := by
  have hs : stepF t p = some (forgetP p, false) := by
    unfold stepF
    simp [hc, h_I, h_forward, h_oper, h_told]
  have e := stepR_yes (l := l) (k := k) hs
  have e2 := hX.out.symm.trans e
  cases e2
  clear e hX hs hc
  obtain ⟨W, sb, HW, HS, k0, kB, kL⟩ := oneC_is t g n cap k q w
  have B0 := Lib.hid (HS.out ▸ kB : Below w.heap.size w W)
  have hrW := hr.next B0.out
  have hgl := hr.lt
  rw [HS.out] at hgl
  have hsg : sb ≠ g := by omega
  have HK := Lib.hid (List.getElem?_eq_some_iff.1 hp).1
  have PA := hq ▸ hrW.pat hp
  have HR := Lib.hid hrW
  have HQ := Lib.hid hq
  have HN := Lib.hid hn
  have KB := Lib.hid k0
  have CI := Lib.hid (ofTree_w g q p true W PA (Lib.hid h_I))
  have c_forward := PA.c_forward
  rw [h_forward] at c_forward
  have c_oper := PA.c_oper
  rw [h_oper] at c_oper
  have CT := Lib.hid (wasTold_w g q p true W PA (Lib.hid h_told))
  have CF := Lib.hid (forgetAll_w g q p _ W PA (Lib.hid rfl))
  obtain ⟨s0, s1, s2, s3, s4, s5, s6⟩ := k0.cells
  have h1a : ¬ sb = g := hsg
  have h1b : ¬ g = sb := fun e => hsg e.symm
  clear hr hn hq hp hrW PA k0 kB kL ht h_I h_forward h_oper h_told
  unfold sv scl at *
  go_enter Tryz.func192, Tryz.ntmps192
  go_upto_region 1 with (fail)
  refine wp_to (W := W) (by exact HW.out.symm) ?_
  rw [HS.out]
  go_wp2_with (first
    | (go_at_call 216; (with_reducible refine CI.out.mono ?_); rintro e w1 ⟨rfl, rfl⟩)
    | (go_at_call 219; (with_reducible refine CT.out.mono ?_); rintro e w1 ⟨rfl, rfl⟩)
    | (go_at_call 220; (with_reducible refine CF.out.mono ?_); rintro e w2 ⟨rfl, T⟩))
  go_ret
  have R := T.wrowq HQ.out HR.out HK.out
  rw [set_tell] at R
  exact ⟨rfl, R, (Kp.of B0.out).trans' T.kp⟩

set_option maxRecDepth 20000 in
set_option maxHeartbeats 1000000 in
theorem ofLearning8 (t : Tm) (ht : TmOk t) (g n cap k q : Nat) (l L : List Pt) (B : Bool) (p : Pt) (w : World) (hr : WRow w g l) (hn : l.length = n) (hl : n ≤ 1000) (hp : l[k]? = some p) (hq : k * 61 = q) (hc : p.change = 1) (hX : Hid (stepR t l k p = (L, B))) (h_I : inB p = false) (h_learn : p.learn = false) (h_learning : p.learning = false) (h_told : toldB p = true) :
    Calls Tryz.prog 192 #[sv t g n cap k q] w fun e w' => e = .returned (.bool B) ∧ WRow w' g L ∧ Kp g w w' := by
  have hs : stepF t p = some (forgetP p, false) := by
    unfold stepF
    simp [hc, h_I, h_learn, h_learning, h_told]
  have e := stepR_yes (l := l) (k := k) hs
  have e2 := hX.out.symm.trans e
  cases e2
  clear e hX hs hc
  obtain ⟨W, sb, HW, HS, k0, kB, kL⟩ := oneC_is t g n cap k q w
  have B0 := Lib.hid (HS.out ▸ kB : Below w.heap.size w W)
  have hrW := hr.next B0.out
  have hgl := hr.lt
  rw [HS.out] at hgl
  have hsg : sb ≠ g := by omega
  have HK := Lib.hid (List.getElem?_eq_some_iff.1 hp).1
  have PA := hq ▸ hrW.pat hp
  have HR := Lib.hid hrW
  have HQ := Lib.hid hq
  have HN := Lib.hid hn
  have KB := Lib.hid k0
  have CI := Lib.hid (ofTree_w g q p false W PA (Lib.hid h_I))
  have c_learn := PA.c_learn
  rw [h_learn] at c_learn
  have c_learning := PA.c_learning
  rw [h_learning] at c_learning
  have CT := Lib.hid (wasTold_w g q p true W PA (Lib.hid h_told))
  have CF := Lib.hid (forgetAll_w g q p _ W PA (Lib.hid rfl))
  obtain ⟨s0, s1, s2, s3, s4, s5, s6⟩ := k0.cells
  have h1a : ¬ sb = g := hsg
  have h1b : ¬ g = sb := fun e => hsg e.symm
  clear hr hn hq hp hrW PA k0 kB kL ht h_I h_learn h_learning h_told
  unfold sv scl at *
  go_enter Tryz.func192, Tryz.ntmps192
  go_upto_region 1 with (fail)
  refine wp_to (W := W) (by exact HW.out.symm) ?_
  rw [HS.out]
  go_wp2_with (first
    | (go_at_call 216; (with_reducible refine CI.out.mono ?_); rintro e w1 ⟨rfl, rfl⟩)
    | (go_at_call 219; (with_reducible refine CT.out.mono ?_); rintro e w1 ⟨rfl, rfl⟩)
    | (go_at_call 220; (with_reducible refine CF.out.mono ?_); rintro e w2 ⟨rfl, T⟩))
  go_ret
  have R := T.wrowq HQ.out HR.out HK.out
  rw [set_tell] at R
  exact ⟨rfl, R, (Kp.of B0.out).trans' T.kp⟩

set_option maxRecDepth 20000 in
set_option maxHeartbeats 1000000 in
theorem ofLearning9 (t : Tm) (ht : TmOk t) (g n cap k q : Nat) (l L : List Pt) (B : Bool) (p : Pt) (w : World) (hr : WRow w g l) (hn : l.length = n) (hl : n ≤ 1000) (hp : l[k]? = some p) (hq : k * 61 = q) (hc : p.change = 1) (hX : Hid (stepR t l k p = (L, B))) (h_I : inB p = false) (h_learn : p.learn = false) (h_learning : p.learning = false) (h_told : toldB p = false) :
    Calls Tryz.prog 192 #[sv t g n cap k q] w fun e w' => e = .returned (.bool B) ∧ WRow w' g L ∧ Kp g w w' := by
  have hs : stepF t p = some ({ p with change := 0, flush := true, tc := 0, tcAck := false }, false) := by
    unfold stepF
    simp [hc, h_I, h_learn, h_learning, h_told]
  have e := stepR_yes (l := l) (k := k) hs
  have e2 := hX.out.symm.trans e
  cases e2
  clear e hX hs hc
  obtain ⟨W, sb, HW, HS, k0, kB, kL⟩ := oneC_is t g n cap k q w
  have B0 := Lib.hid (HS.out ▸ kB : Below w.heap.size w W)
  have hrW := hr.next B0.out
  have hgl := hr.lt
  rw [HS.out] at hgl
  have hsg : sb ≠ g := by omega
  have HK := Lib.hid (List.getElem?_eq_some_iff.1 hp).1
  have PA := hq ▸ hrW.pat hp
  have HR := Lib.hid hrW
  have HQ := Lib.hid hq
  have HN := Lib.hid hn
  have KB := Lib.hid k0
  have CI := Lib.hid (ofTree_w g q p false W PA (Lib.hid h_I))
  have c_learn := PA.c_learn
  rw [h_learn] at c_learn
  have c_learning := PA.c_learning
  rw [h_learning] at c_learning
  have CT := Lib.hid (wasTold_w g q p false W PA (Lib.hid h_told))
  have c_change := PA.c_change
  have f_change := PA.f_change
  have c_flush := PA.c_flush
  have f_flush := PA.f_flush
  have c_tc := PA.c_tc
  have f_tc := PA.f_tc
  have c_tcAck := PA.c_tcAck
  have f_tcAck := PA.f_tcAck
  have TT := Lib.hid (((((Ta.refl PA).s_change 0).s_flush true).s_tc 0).s_tcAck false)
  obtain ⟨s0, s1, s2, s3, s4, s5, s6⟩ := k0.cells
  have h1a : ¬ sb = g := hsg
  have h1b : ¬ g = sb := fun e => hsg e.symm
  clear hr hn hq hp hrW PA k0 kB kL ht h_I h_learn h_learning h_told
  unfold sv scl at *
  go_enter Tryz.func192, Tryz.ntmps192
  go_upto_region 1 with (fail)
  refine wp_to (W := W) (by exact HW.out.symm) ?_
  rw [HS.out]
  go_wp2_with (first
    | (go_at_call 216; (with_reducible refine CI.out.mono ?_); rintro e w1 ⟨rfl, rfl⟩)
    | (go_at_call 219; (with_reducible refine CT.out.mono ?_); rintro e w1 ⟨rfl, rfl⟩))
  go_ret
  have R := TT.out.wrowq HQ.out HR.out HK.out
  rw [set_tell] at R
  exact ⟨rfl, R, (Kp.of B0.out).trans' TT.out.kp⟩

set_option maxRecDepth 20000 in
set_option maxHeartbeats 1000000 in
theorem ofLearning10 (t : Tm) (ht : TmOk t) (g n cap k q : Nat) (l L : List Pt) (B : Bool) (p : Pt) (w : World) (hr : WRow w g l) (hn : l.length = n) (hl : n ≤ 1000) (hp : l[k]? = some p) (hq : k * 61 = q) (hc : p.change = 1) (hX : Hid (stepR t l k p = (L, B))) (h_I : inB p = true) (h_forward : p.forward = true) (h_oper : p.oper = false) :
    Calls Tryz.prog 192 #[sv t g n cap k q] w fun e w' => e = .returned (.bool B) ∧ WRow w' g L ∧ Kp g w w' := by
  have hs : stepF t p = some ({ countP t p with newInfo := true, change := 2 }, true) := by
    unfold stepF
    simp [hc, h_I, h_forward, h_oper]
  have e := stepR_yes (l := l) (k := k) hs
  have e2 := hX.out.symm.trans e
  cases e2
  clear e hX hs hc
  obtain ⟨W, sb, HW, HS, k0, kB, kL⟩ := oneC_is t g n cap k q w
  have B0 := Lib.hid (HS.out ▸ kB : Below w.heap.size w W)
  have hrW := hr.next B0.out
  have hgl := hr.lt
  rw [HS.out] at hgl
  have hsg : sb ≠ g := by omega
  have HK := Lib.hid (List.getElem?_eq_some_iff.1 hp).1
  have PA := hq ▸ hrW.pat hp
  have HR := Lib.hid hrW
  have HQ := Lib.hid hq
  have HN := Lib.hid hn
  have KB := Lib.hid k0
  have CI := Lib.hid (ofTree_w g q p true W PA (Lib.hid h_I))
  have c_forward := PA.c_forward
  rw [h_forward] at c_forward
  have c_oper := PA.c_oper
  rw [h_oper] at c_oper
  have CC := Lib.hid (countAnew_w t g n cap k q p _ W PA ht (Lib.hid rfl))
  obtain ⟨s0, s1, s2, s3, s4, s5, s6⟩ := k0.cells
  have h1a : ¬ sb = g := hsg
  have h1b : ¬ g = sb := fun e => hsg e.symm
  clear hr hn hq hp hrW PA k0 kB kL ht h_I h_forward h_oper
  unfold sv scl at *
  go_enter Tryz.func192, Tryz.ntmps192
  go_upto_region 1 with (fail)
  refine wp_to (W := W) (by exact HW.out.symm) ?_
  rw [HS.out]
  go_upto_region 5 with (first
    | (go_at_call 216; (with_reducible refine CI.out.mono ?_); rintro e w1 ⟨rfl, rfl⟩)
    | (go_at_call 217; (with_reducible refine CC.out.mono ?_); rintro e w2 ⟨rfl, T⟩))
  have HT := Lib.hid T
  clear T s0 s1 s2 s3 s4 s5 s6
  have SB := Lib.hid (KB.out.ta HT.out hsg)
  obtain ⟨s0, s1, s2, s3, s4, s5, s6⟩ := SB.out.cells
  have R2 := Lib.hid (HT.out.wrowq HQ.out HR.out HK.out)
  have CO := Lib.hid (tellOthers_w t g n cap k q _ _ R2.out ((List.length_set ..).trans HN.out) hl)
  rw [tell_all HK.out HN.out] at CO
  unfold sv scl at CO
  go_upto_region 6 with (go_at_call 218; (with_reducible refine CO.out.mono ?_); rintro e w3 ⟨rfl, hw3, hk3⟩)
  have HW3 := Lib.hid hw3
  have HK3 := Lib.hid hk3
  have PA3 := HQ.out ▸ hw3.pat (tell_own HK.out _ _)
  have c_1 := PA3.c_newInfo
  have f_1 := PA3.f_newInfo
  have c_2 := PA3.c_change
  have f_2 := PA3.f_change
  have T3 := Lib.hid (((Ta.refl PA3).s_newInfo true).s_change 2)
  clear hw3 hk3 PA3
  go_wp2_with fail
  go_ret
  have R := T3.out.wrowq HQ.out HW3.out (by rw [List.length_mapIdx]; exact HK.out)
  rw [tell_put] at R
  exact ⟨rfl, R, (((Kp.of B0.out).trans' HT.out.kp).trans' HK3.out).trans' T3.out.kp⟩

set_option maxRecDepth 20000 in
set_option maxHeartbeats 1000000 in
theorem ofActive0 (t : Tm) (ht : TmOk t) (g n cap k q : Nat) (l L : List Pt) (B : Bool) (p : Pt) (w : World) (hr : WRow w g l) (hn : l.length = n) (hl : n ≤ 1000) (hp : l[k]? = some p) (hq : k * 61 = q) (hc : p.change = 2) (hX : Hid (stepR t l k p = (L, B))) (h_I : inB p = false) :
    Calls Tryz.prog 193 #[sv t g n cap k q] w fun e w' => e = .returned (.bool B) ∧ WRow w' g L ∧ Kp g w w' := by
  have hs : stepF t p = some (forgetP { p with change := 1 }, false) := by
    unfold stepF
    simp [hc, h_I]
  have e := stepR_yes (l := l) (k := k) hs
  have e2 := hX.out.symm.trans e
  cases e2
  clear e hX hs hc
  obtain ⟨W, sb, HW, HS, k0, kB, kL⟩ := oneC_is t g n cap k q w
  have B0 := Lib.hid (HS.out ▸ kB : Below w.heap.size w W)
  have hrW := hr.next B0.out
  have hgl := hr.lt
  rw [HS.out] at hgl
  have hsg : sb ≠ g := by omega
  have HK := Lib.hid (List.getElem?_eq_some_iff.1 hp).1
  have PA := hq ▸ hrW.pat hp
  have HR := Lib.hid hrW
  have HQ := Lib.hid hq
  have HN := Lib.hid hn
  have KB := Lib.hid k0
  have CI := Lib.hid (ofTree_w g q p false W PA (Lib.hid h_I))
  have CL := Lib.hid (toLearning_w g q p _ W PA (Lib.hid rfl))
  obtain ⟨s0, s1, s2, s3, s4, s5, s6⟩ := k0.cells
  have h1a : ¬ sb = g := hsg
  have h1b : ¬ g = sb := fun e => hsg e.symm
  clear hr hn hq hp hrW PA k0 kB kL ht h_I
  unfold sv scl at *
  go_enter Tryz.func193, Tryz.ntmps193
  go_upto_region 1 with (fail)
  refine wp_to (W := W) (by exact HW.out.symm) ?_
  rw [HS.out]
  go_wp2_with (first
    | (go_at_call 216; (with_reducible refine CI.out.mono ?_); rintro e w1 ⟨rfl, rfl⟩)
    | (go_at_call 215; (with_reducible refine CL.out.mono ?_); rintro e w2 ⟨rfl, T⟩))
  go_ret
  have R := T.wrowq HQ.out HR.out HK.out
  rw [set_tell] at R
  exact ⟨rfl, R, (Kp.of B0.out).trans' T.kp⟩

set_option maxRecDepth 20000 in
set_option maxHeartbeats 1000000 in
theorem ofActive1 (t : Tm) (ht : TmOk t) (g n cap k q : Nat) (l L : List Pt) (B : Bool) (p : Pt) (w : World) (hr : WRow w g l) (hn : l.length = n) (hl : n ≤ 1000) (hp : l[k]? = some p) (hq : k * 61 = q) (hc : p.change = 2) (hX : Hid (stepR t l k p = (L, B))) (h_I : inB p = true) (h_oper : p.oper = true) :
    Calls Tryz.prog 193 #[sv t g n cap k q] w fun e w' => e = .returned (.bool B) ∧ WRow w' g L ∧ Kp g w w' := by
  have hs : stepF t p = some (forgetP { p with change := 1 }, false) := by
    unfold stepF
    simp [hc, h_I, h_oper]
  have e := stepR_yes (l := l) (k := k) hs
  have e2 := hX.out.symm.trans e
  cases e2
  clear e hX hs hc
  obtain ⟨W, sb, HW, HS, k0, kB, kL⟩ := oneC_is t g n cap k q w
  have B0 := Lib.hid (HS.out ▸ kB : Below w.heap.size w W)
  have hrW := hr.next B0.out
  have hgl := hr.lt
  rw [HS.out] at hgl
  have hsg : sb ≠ g := by omega
  have HK := Lib.hid (List.getElem?_eq_some_iff.1 hp).1
  have PA := hq ▸ hrW.pat hp
  have HR := Lib.hid hrW
  have HQ := Lib.hid hq
  have HN := Lib.hid hn
  have KB := Lib.hid k0
  have CI := Lib.hid (ofTree_w g q p true W PA (Lib.hid h_I))
  have c_oper := PA.c_oper
  rw [h_oper] at c_oper
  have CL := Lib.hid (toLearning_w g q p _ W PA (Lib.hid rfl))
  obtain ⟨s0, s1, s2, s3, s4, s5, s6⟩ := k0.cells
  have h1a : ¬ sb = g := hsg
  have h1b : ¬ g = sb := fun e => hsg e.symm
  clear hr hn hq hp hrW PA k0 kB kL ht h_I h_oper
  unfold sv scl at *
  go_enter Tryz.func193, Tryz.ntmps193
  go_upto_region 1 with (fail)
  refine wp_to (W := W) (by exact HW.out.symm) ?_
  rw [HS.out]
  go_wp2_with (first
    | (go_at_call 216; (with_reducible refine CI.out.mono ?_); rintro e w1 ⟨rfl, rfl⟩)
    | (go_at_call 215; (with_reducible refine CL.out.mono ?_); rintro e w2 ⟨rfl, T⟩))
  go_ret
  have R := T.wrowq HQ.out HR.out HK.out
  rw [set_tell] at R
  exact ⟨rfl, R, (Kp.of B0.out).trans' T.kp⟩

set_option maxRecDepth 20000 in
set_option maxHeartbeats 1000000 in
theorem ofActive2 (t : Tm) (ht : TmOk t) (g n cap k q : Nat) (l L : List Pt) (B : Bool) (p : Pt) (w : World) (hr : WRow w g l) (hn : l.length = n) (hl : n ≤ 1000) (hp : l[k]? = some p) (hq : k * 61 = q) (hc : p.change = 2) (hX : Hid (stepR t l k p = (L, B))) (h_I : inB p = true) (h_oper : p.oper = false) (h_heardTcn : p.heardTcn = true) :
    Calls Tryz.prog 193 #[sv t g n cap k q] w fun e w' => e = .returned (.bool B) ∧ WRow w' g L ∧ Kp g w w' := by
  have hs : stepF t p = some (heedP13 (countP t p), true) := by
    unfold stepF
    simp [hc, h_I, h_oper, h_heardTcn]
  have e := stepR_yes (l := l) (k := k) hs
  have e2 := hX.out.symm.trans e
  cases e2
  clear e hX hs hc
  obtain ⟨W, sb, HW, HS, k0, kB, kL⟩ := oneC_is t g n cap k q w
  have B0 := Lib.hid (HS.out ▸ kB : Below w.heap.size w W)
  have hrW := hr.next B0.out
  have hgl := hr.lt
  rw [HS.out] at hgl
  have hsg : sb ≠ g := by omega
  have HK := Lib.hid (List.getElem?_eq_some_iff.1 hp).1
  have PA := hq ▸ hrW.pat hp
  have HR := Lib.hid hrW
  have HQ := Lib.hid hq
  have HN := Lib.hid hn
  have KB := Lib.hid k0
  have CI := Lib.hid (ofTree_w g q p true W PA (Lib.hid h_I))
  have c_oper := PA.c_oper
  rw [h_oper] at c_oper
  have c_heardTcn := PA.c_heardTcn
  rw [h_heardTcn] at c_heardTcn
  have CC := Lib.hid (countAnew_w t g n cap k q p _ W PA ht (Lib.hid rfl))
  obtain ⟨s0, s1, s2, s3, s4, s5, s6⟩ := k0.cells
  have h1a : ¬ sb = g := hsg
  have h1b : ¬ g = sb := fun e => hsg e.symm
  clear hr hn hq hp hrW PA k0 kB kL ht h_I h_oper h_heardTcn
  unfold sv scl at *
  go_enter Tryz.func193, Tryz.ntmps193
  go_upto_region 1 with (fail)
  refine wp_to (W := W) (by exact HW.out.symm) ?_
  rw [HS.out]
  go_upto_region 7 with (first
    | (go_at_call 216; (with_reducible refine CI.out.mono ?_); rintro e w1 ⟨rfl, rfl⟩)
    | (go_at_call 217; (with_reducible refine CC.out.mono ?_); rintro e w2 ⟨rfl, T⟩))
  have HT := Lib.hid T
  clear T s0 s1 s2 s3 s4 s5 s6
  have SB := Lib.hid (KB.out.ta HT.out hsg)
  obtain ⟨s0, s1, s2, s3, s4, s5, s6⟩ := SB.out.cells
  have R2 := Lib.hid (HT.out.wrowq HQ.out HR.out HK.out)
  have CO := Lib.hid (tellOn_w t g n cap k q _ (countP t p) _ R2.out ((List.length_set ..).trans HN.out) hl (List.getElem?_set_self HK.out) HQ.out)
  rw [tell_set] at CO
  unfold sv scl at CO
  go_wp2_with (go_at_call 221; (with_reducible refine CO.out.mono ?_); rintro e w3 ⟨rfl, hw3, hk3⟩)
  go_ret
  exact ⟨rfl, hw3, ((Kp.of B0.out).trans' HT.out.kp).trans' hk3⟩

set_option maxRecDepth 20000 in
set_option maxHeartbeats 1000000 in
theorem ofActive3 (t : Tm) (ht : TmOk t) (g n cap k q : Nat) (l L : List Pt) (B : Bool) (p : Pt) (w : World) (hr : WRow w g l) (hn : l.length = n) (hl : n ≤ 1000) (hp : l[k]? = some p) (hq : k * 61 = q) (hc : p.change = 2) (hX : Hid (stepR t l k p = (L, B))) (h_I : inB p = true) (h_oper : p.oper = false) (h_heardTcn : p.heardTcn = false) (h_heardTc : p.heardTc = true) :
    Calls Tryz.prog 193 #[sv t g n cap k q] w fun e w' => e = .returned (.bool B) ∧ WRow w' g L ∧ Kp g w w' := by
  have hs : stepF t p = some (heedP13 p, true) := by
    unfold stepF
    simp [hc, h_I, h_oper, h_heardTcn, h_heardTc]
  have e := stepR_yes (l := l) (k := k) hs
  have e2 := hX.out.symm.trans e
  cases e2
  clear e hX hs hc
  obtain ⟨W, sb, HW, HS, k0, kB, kL⟩ := oneC_is t g n cap k q w
  have B0 := Lib.hid (HS.out ▸ kB : Below w.heap.size w W)
  have hrW := hr.next B0.out
  have hgl := hr.lt
  rw [HS.out] at hgl
  have hsg : sb ≠ g := by omega
  have HK := Lib.hid (List.getElem?_eq_some_iff.1 hp).1
  have PA := hq ▸ hrW.pat hp
  have HR := Lib.hid hrW
  have HQ := Lib.hid hq
  have HN := Lib.hid hn
  have KB := Lib.hid k0
  have CI := Lib.hid (ofTree_w g q p true W PA (Lib.hid h_I))
  have c_oper := PA.c_oper
  rw [h_oper] at c_oper
  have c_heardTcn := PA.c_heardTcn
  rw [h_heardTcn] at c_heardTcn
  have c_heardTc := PA.c_heardTc
  rw [h_heardTc] at c_heardTc
  have CO := Lib.hid (tellOn_w t g n cap k q l p W hrW hn hl hp hq)
  obtain ⟨s0, s1, s2, s3, s4, s5, s6⟩ := k0.cells
  have h1a : ¬ sb = g := hsg
  have h1b : ¬ g = sb := fun e => hsg e.symm
  clear hr hn hq hp hrW PA k0 kB kL ht h_I h_oper h_heardTcn h_heardTc
  unfold sv scl at *
  go_enter Tryz.func193, Tryz.ntmps193
  go_upto_region 1 with (fail)
  refine wp_to (W := W) (by exact HW.out.symm) ?_
  rw [HS.out]
  go_wp2_with (first
    | (go_at_call 216; (with_reducible refine CI.out.mono ?_); rintro e w1 ⟨rfl, rfl⟩)
    | (go_at_call 221; (with_reducible refine CO.out.mono ?_); rintro e w2 ⟨rfl, hw2, hk2⟩))
  go_ret
  exact ⟨rfl, hw2, (Kp.of B0.out).trans' hk2⟩

set_option maxRecDepth 20000 in
set_option maxHeartbeats 1000000 in
theorem ofActive4 (t : Tm) (ht : TmOk t) (g n cap k q : Nat) (l L : List Pt) (B : Bool) (p : Pt) (w : World) (hr : WRow w g l) (hn : l.length = n) (hl : n ≤ 1000) (hp : l[k]? = some p) (hq : k * 61 = q) (hc : p.change = 2) (hX : Hid (stepR t l k p = (L, B))) (h_I : inB p = true) (h_oper : p.oper = false) (h_heardTcn : p.heardTcn = false) (h_heardTc : p.heardTc = false) (h_tcProp : p.tcProp = true) :
    Calls Tryz.prog 193 #[sv t g n cap k q] w fun e w' => e = .returned (.bool B) ∧ WRow w' g L ∧ Kp g w w' := by
  have hs : stepF t p = some ({ countP t p with flush := true, tcProp := false }, false) := by
    unfold stepF
    simp [hc, h_I, h_oper, h_heardTcn, h_heardTc, h_tcProp]
  have e := stepR_yes (l := l) (k := k) hs
  have e2 := hX.out.symm.trans e
  cases e2
  clear e hX hs hc
  obtain ⟨W, sb, HW, HS, k0, kB, kL⟩ := oneC_is t g n cap k q w
  have B0 := Lib.hid (HS.out ▸ kB : Below w.heap.size w W)
  have hrW := hr.next B0.out
  have hgl := hr.lt
  rw [HS.out] at hgl
  have hsg : sb ≠ g := by omega
  have HK := Lib.hid (List.getElem?_eq_some_iff.1 hp).1
  have PA := hq ▸ hrW.pat hp
  have HR := Lib.hid hrW
  have HQ := Lib.hid hq
  have HN := Lib.hid hn
  have KB := Lib.hid k0
  have CI := Lib.hid (ofTree_w g q p true W PA (Lib.hid h_I))
  have c_oper := PA.c_oper
  rw [h_oper] at c_oper
  have c_heardTcn := PA.c_heardTcn
  rw [h_heardTcn] at c_heardTcn
  have c_heardTc := PA.c_heardTc
  rw [h_heardTc] at c_heardTc
  have c_tcProp := PA.c_tcProp
  rw [h_tcProp] at c_tcProp
  have CC := Lib.hid (countAnew_w t g n cap k q p _ W PA ht (Lib.hid rfl))
  obtain ⟨s0, s1, s2, s3, s4, s5, s6⟩ := k0.cells
  have h1a : ¬ sb = g := hsg
  have h1b : ¬ g = sb := fun e => hsg e.symm
  clear hr hn hq hp hrW PA k0 kB kL ht h_I h_oper h_heardTcn h_heardTc h_tcProp
  unfold sv scl at *
  go_enter Tryz.func193, Tryz.ntmps193
  go_upto_region 1 with (fail)
  refine wp_to (W := W) (by exact HW.out.symm) ?_
  rw [HS.out]
  go_upto_region 12 with (first
    | (go_at_call 216; (with_reducible refine CI.out.mono ?_); rintro e w1 ⟨rfl, rfl⟩)
    | (go_at_call 217; (with_reducible refine CC.out.mono ?_); rintro e w2 ⟨rfl, T⟩))
  have HT := Lib.hid T
  clear T s0 s1 s2 s3 s4 s5 s6
  have SB := Lib.hid (KB.out.ta HT.out hsg)
  obtain ⟨s0, s1, s2, s3, s4, s5, s6⟩ := SB.out.cells
  have R2 := Lib.hid (HT.out.wrowq HQ.out HR.out HK.out)
  have c_1 := HT.out.blk.c_flush
  have f_1 := HT.out.blk.f_flush
  have T3 := Lib.hid (HT.out.s_flush true)
  have CF := Lib.hid (forget1_w flProp flProp_ok 44 w2.heap.size g q _ _ _ T3.out.blk rfl (size_set ..) (Lib.hid rfl))
  go_wp2_with (go_at_call 222; (with_reducible refine CF.out.mono ?_); rintro e w3 ⟨rfl, T4⟩)
  go_ret
  have TT := T3.out.trans T4
  have R := TT.wrowq HQ.out HR.out HK.out
  rw [set_tell] at R
  exact ⟨rfl, R, (Kp.of B0.out).trans' TT.kp⟩

set_option maxRecDepth 20000 in
set_option maxHeartbeats 1000000 in
theorem ofActive5 (t : Tm) (ht : TmOk t) (g n cap k q : Nat) (l L : List Pt) (B : Bool) (p : Pt) (w : World) (hr : WRow w g l) (hn : l.length = n) (hl : n ≤ 1000) (hp : l[k]? = some p) (hq : k * 61 = q) (hc : p.change = 2) (hX : Hid (stepR t l k p = (L, B))) (h_I : inB p = true) (h_oper : p.oper = false) (h_heardTcn : p.heardTcn = false) (h_heardTc : p.heardTc = false) (h_tcProp : p.tcProp = false) (h_heardAck : p.heardAck = true) :
    Calls Tryz.prog 193 #[sv t g n cap k q] w fun e w' => e = .returned (.bool B) ∧ WRow w' g L ∧ Kp g w w' := by
  have hs : stepF t p = some ({ p with tc := 0, heardAck := false }, false) := by
    unfold stepF
    simp [hc, h_I, h_oper, h_heardTcn, h_heardTc, h_tcProp, h_heardAck]
  have e := stepR_yes (l := l) (k := k) hs
  have e2 := hX.out.symm.trans e
  cases e2
  clear e hX hs hc
  obtain ⟨W, sb, HW, HS, k0, kB, kL⟩ := oneC_is t g n cap k q w
  have B0 := Lib.hid (HS.out ▸ kB : Below w.heap.size w W)
  have hrW := hr.next B0.out
  have hgl := hr.lt
  rw [HS.out] at hgl
  have hsg : sb ≠ g := by omega
  have HK := Lib.hid (List.getElem?_eq_some_iff.1 hp).1
  have PA := hq ▸ hrW.pat hp
  have HR := Lib.hid hrW
  have HQ := Lib.hid hq
  have HN := Lib.hid hn
  have KB := Lib.hid k0
  have CI := Lib.hid (ofTree_w g q p true W PA (Lib.hid h_I))
  have c_oper := PA.c_oper
  rw [h_oper] at c_oper
  have c_heardTcn := PA.c_heardTcn
  rw [h_heardTcn] at c_heardTcn
  have c_heardTc := PA.c_heardTc
  rw [h_heardTc] at c_heardTc
  have c_tcProp := PA.c_tcProp
  rw [h_tcProp] at c_tcProp
  have c_heardAck := PA.c_heardAck
  rw [h_heardAck] at c_heardAck
  have f_heardAck := PA.f_heardAck
  have c_tc := PA.c_tc
  have f_tc := PA.f_tc
  have T1 := Lib.hid ((Ta.refl PA).s_tc 0)
  have CF := Lib.hid (forget1_w flAck flAck_ok 42 W.heap.size g q _ _ _ T1.out.blk rfl (size_set ..) (Lib.hid rfl))
  obtain ⟨s0, s1, s2, s3, s4, s5, s6⟩ := k0.cells
  have h1a : ¬ sb = g := hsg
  have h1b : ¬ g = sb := fun e => hsg e.symm
  clear hr hn hq hp hrW PA k0 kB kL ht h_I h_oper h_heardTcn h_heardTc h_tcProp h_heardAck
  unfold sv scl at *
  go_enter Tryz.func193, Tryz.ntmps193
  go_upto_region 1 with (fail)
  refine wp_to (W := W) (by exact HW.out.symm) ?_
  rw [HS.out]
  go_wp2_with (first
    | (go_at_call 216; (with_reducible refine CI.out.mono ?_); rintro e w1 ⟨rfl, rfl⟩)
    | (go_at_call 222; (with_reducible refine CF.out.mono ?_); rintro e w2 ⟨rfl, T⟩))
  go_ret
  have TT := T1.out.trans T
  have R := TT.wrowq HQ.out HR.out HK.out
  rw [set_tell] at R
  exact ⟨rfl, R, (Kp.of B0.out).trans' TT.kp⟩

set_option maxRecDepth 20000 in
set_option maxHeartbeats 1000000 in
theorem ofActive6 (t : Tm) (ht : TmOk t) (g n cap k q : Nat) (l L : List Pt) (B : Bool) (p : Pt) (w : World) (hr : WRow w g l) (hn : l.length = n) (hl : n ≤ 1000) (hp : l[k]? = some p) (hq : k * 61 = q) (hc : p.change = 2) (hX : Hid (stepR t l k p = (L, B))) (h_I : inB p = true) (h_oper : p.oper = false) (h_heardTcn : p.heardTcn = false) (h_heardTc : p.heardTc = false) (h_tcProp : p.tcProp = false) (h_heardAck : p.heardAck = false) :
    Calls Tryz.prog 193 #[sv t g n cap k q] w fun e w' => e = .returned (.bool B) ∧ WRow w' g L ∧ Kp g w w' := by
  have hs : stepF t p = none := by
    unfold stepF
    simp [hc, h_I, h_oper, h_heardTcn, h_heardTc, h_tcProp, h_heardAck]
  have e := stepR_no (l := l) (k := k) hs
  have e2 := hX.out.symm.trans e
  cases e2
  clear e hX hs hc
  obtain ⟨W, sb, HW, HS, k0, kB, kL⟩ := oneC_is t g n cap k q w
  have B0 := Lib.hid (HS.out ▸ kB : Below w.heap.size w W)
  have hrW := hr.next B0.out
  have hgl := hr.lt
  rw [HS.out] at hgl
  have hsg : sb ≠ g := by omega
  have HK := Lib.hid (List.getElem?_eq_some_iff.1 hp).1
  have PA := hq ▸ hrW.pat hp
  have HR := Lib.hid hrW
  have HQ := Lib.hid hq
  have HN := Lib.hid hn
  have KB := Lib.hid k0
  have CI := Lib.hid (ofTree_w g q p true W PA (Lib.hid h_I))
  have c_oper := PA.c_oper
  rw [h_oper] at c_oper
  have c_heardTcn := PA.c_heardTcn
  rw [h_heardTcn] at c_heardTcn
  have c_heardTc := PA.c_heardTc
  rw [h_heardTc] at c_heardTc
  have c_tcProp := PA.c_tcProp
  rw [h_tcProp] at c_tcProp
  have c_heardAck := PA.c_heardAck
  rw [h_heardAck] at c_heardAck
  obtain ⟨s0, s1, s2, s3, s4, s5, s6⟩ := k0.cells
  have h1a : ¬ sb = g := hsg
  have h1b : ¬ g = sb := fun e => hsg e.symm
  clear hr hn hq hp hrW PA k0 kB kL ht h_I h_oper h_heardTcn h_heardTc h_tcProp h_heardAck
  unfold sv scl at *
  go_enter Tryz.func193, Tryz.ntmps193
  go_upto_region 1 with (fail)
  refine wp_to (W := W) (by exact HW.out.symm) ?_
  rw [HS.out]
  go_wp2_with (first
    | (go_at_call 216; (with_reducible refine CI.out.mono ?_); rintro e w1 ⟨rfl, rfl⟩))
  go_ret
  exact ⟨rfl, HR.out, Kp.of B0.out⟩

theorem ofInactive_w (t : Tm) (ht : TmOk t) (g n cap k q : Nat) (l L : List Pt) (B : Bool) (p : Pt) (w : World) (hr : WRow w g l) (hn : l.length = n) (hl : n ≤ 1000) (hp : l[k]? = some p) (hq : k * 61 = q) (hc : p.change = 0) (hX : Hid (stepR t l k p = (L, B))) :
    Calls Tryz.prog 191 #[sv t g n cap k q] w fun e w' => e = .returned (.bool B) ∧ WRow w' g L ∧ Kp g w w' := by
  cases h_learn : p.learn with
  | false =>
    exact ofInactive0 t ht g n cap k q l L B p w hr hn hl hp hq hc hX h_learn
  | true =>
    cases h_flush : p.flush with
    | false =>
      exact ofInactive2 t ht g n cap k q l L B p w hr hn hl hp hq hc hX h_learn h_flush
    | true =>
      exact ofInactive1 t ht g n cap k q l L B p w hr hn hl hp hq hc hX h_learn h_flush

theorem ofLearning_w (t : Tm) (ht : TmOk t) (g n cap k q : Nat) (l L : List Pt) (B : Bool) (p : Pt) (w : World) (hr : WRow w g l) (hn : l.length = n) (hl : n ≤ 1000) (hp : l[k]? = some p) (hq : k * 61 = q) (hc : p.change = 1) (hX : Hid (stepR t l k p = (L, B))) :
    Calls Tryz.prog 192 #[sv t g n cap k q] w fun e w' => e = .returned (.bool B) ∧ WRow w' g L ∧ Kp g w w' := by
  cases h_I : inB p with
  | false =>
    cases h_learn : p.learn with
    | false =>
      cases h_learning : p.learning with
      | false =>
        cases h_told : toldB p with
        | false =>
          exact ofLearning9 t ht g n cap k q l L B p w hr hn hl hp hq hc hX h_I h_learn h_learning h_told
        | true =>
          exact ofLearning8 t ht g n cap k q l L B p w hr hn hl hp hq hc hX h_I h_learn h_learning h_told
      | true =>
        cases h_told : toldB p with
        | false =>
          exact ofLearning1 t ht g n cap k q l L B p w hr hn hl hp hq hc hX h_I h_learn h_learning h_told
        | true =>
          exact ofLearning5 t ht g n cap k q l L B p w hr hn hl hp hq hc hX h_I h_learn h_learning h_told
    | true =>
      cases h_told : toldB p with
      | false =>
        exact ofLearning0 t ht g n cap k q l L B p w hr hn hl hp hq hc hX h_I h_learn h_told
      | true =>
        exact ofLearning4 t ht g n cap k q l L B p w hr hn hl hp hq hc hX h_I h_learn h_told
  | true =>
    cases h_forward : p.forward with
    | false =>
      cases h_told : toldB p with
      | false =>
        exact ofLearning2 t ht g n cap k q l L B p w hr hn hl hp hq hc hX h_I h_forward h_told
      | true =>
        exact ofLearning6 t ht g n cap k q l L B p w hr hn hl hp hq hc hX h_I h_forward h_told
    | true =>
      cases h_oper : p.oper with
      | false =>
        exact ofLearning10 t ht g n cap k q l L B p w hr hn hl hp hq hc hX h_I h_forward h_oper
      | true =>
        cases h_told : toldB p with
        | false =>
          exact ofLearning3 t ht g n cap k q l L B p w hr hn hl hp hq hc hX h_I h_forward h_oper h_told
        | true =>
          exact ofLearning7 t ht g n cap k q l L B p w hr hn hl hp hq hc hX h_I h_forward h_oper h_told

theorem ofActive_w (t : Tm) (ht : TmOk t) (g n cap k q : Nat) (l L : List Pt) (B : Bool) (p : Pt) (w : World) (hr : WRow w g l) (hn : l.length = n) (hl : n ≤ 1000) (hp : l[k]? = some p) (hq : k * 61 = q) (hc : p.change = 2) (hX : Hid (stepR t l k p = (L, B))) :
    Calls Tryz.prog 193 #[sv t g n cap k q] w fun e w' => e = .returned (.bool B) ∧ WRow w' g L ∧ Kp g w w' := by
  cases h_I : inB p with
  | false =>
    exact ofActive0 t ht g n cap k q l L B p w hr hn hl hp hq hc hX h_I
  | true =>
    cases h_oper : p.oper with
    | false =>
      cases h_heardTcn : p.heardTcn with
      | false =>
        cases h_heardTc : p.heardTc with
        | false =>
          cases h_tcProp : p.tcProp with
          | false =>
            cases h_heardAck : p.heardAck with
            | false =>
              exact ofActive6 t ht g n cap k q l L B p w hr hn hl hp hq hc hX h_I h_oper h_heardTcn h_heardTc h_tcProp h_heardAck
            | true =>
              exact ofActive5 t ht g n cap k q l L B p w hr hn hl hp hq hc hX h_I h_oper h_heardTcn h_heardTc h_tcProp h_heardAck
          | true =>
            exact ofActive4 t ht g n cap k q l L B p w hr hn hl hp hq hc hX h_I h_oper h_heardTcn h_heardTc h_tcProp
        | true =>
          exact ofActive3 t ht g n cap k q l L B p w hr hn hl hp hq hc hX h_I h_oper h_heardTcn h_heardTc
      | true =>
        exact ofActive2 t ht g n cap k q l L B p w hr hn hl hp hq hc hX h_I h_oper h_heardTcn
    | true =>
      exact ofActive1 t ht g n cap k q l L B p w hr hn hl hp hq hc hX h_I h_oper
end Go.Proofs.YtldobcfejldbiaaGreatDoor
