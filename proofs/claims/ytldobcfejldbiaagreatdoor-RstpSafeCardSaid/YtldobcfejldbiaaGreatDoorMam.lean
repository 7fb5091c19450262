/-
  Layer 13: what is asked of one port by its address; what it forgets.
  Layer 13: all that is forgotten; to come to learn.
  Layer 13: a seat; to count anew; to tell all others.
-/
import Derived.Test.YtldobcfejldbiaaGreatDoorMal
import Derived.Test.YtldobcfejldbiaaGreatDoorMaa
namespace Go.Proofs.YtldobcfejldbiaaGreatDoor
set_option linter.unusedVariables false
set_option linter.unusedSimpArgs false
open Go.RowKit Vm Rm Bm Im

set_option maxHeartbeats 1000000 in
theorem ofTree_w (g q : Nat) (p : Pt) (R : Bool) (w : World) (h : PAt w g q p) (hR : Hid (inB p = R)) :
    Calls Tryz.prog 216 #[.pointer (some ⟨g, q, none⟩)] w fun e w' => e = .returned (.bool R) ∧ w = w' := by
  rw [← hR.out]
  clear hR
  unfold inB
  have c_role := h.c_role
  obtain ⟨z1, e1⟩ : ∃ z, decide (p.role = 1) = z := ⟨_, rfl⟩
  have d1 : (p.role == 1) = z1 := by rw [← e1]; rfl
  rw [e1]
  clear e1
  obtain ⟨z2, e2⟩ : ∃ z, decide (p.role = 2) = z := ⟨_, rfl⟩
  have d2 : (p.role == 2) = z2 := by rw [← e2]; rfl
  rw [e2]
  clear e2
  clear h
  cases z1
  all_goals
    go_enter Tryz.func216, Tryz.ntmps216
    go_wp2
    all_goals go_ret
    all_goals (refine ⟨?_, rfl⟩; refine ret_val ?_; simp_all)

set_option maxHeartbeats 1000000 in
theorem wasTold_w (g q : Nat) (p : Pt) (R : Bool) (w : World) (h : PAt w g q p) (hR : Hid (toldB p = R)) :
    Calls Tryz.prog 219 #[.pointer (some ⟨g, q, none⟩)] w fun e w' => e = .returned (.bool R) ∧ w = w' := by
  rw [← hR.out]
  clear hR
  unfold toldB
  have c_heardTc := h.c_heardTc
  obtain ⟨x_heardTc, e_heardTc⟩ : ∃ x, p.heardTc = x := ⟨_, rfl⟩
  rw [e_heardTc] at c_heardTc
  simp only [e_heardTc]
  clear e_heardTc
  have c_heardTcn := h.c_heardTcn
  obtain ⟨x_heardTcn, e_heardTcn⟩ : ∃ x, p.heardTcn = x := ⟨_, rfl⟩
  rw [e_heardTcn] at c_heardTcn
  simp only [e_heardTcn]
  clear e_heardTcn
  have c_heardAck := h.c_heardAck
  obtain ⟨x_heardAck, e_heardAck⟩ : ∃ x, p.heardAck = x := ⟨_, rfl⟩
  rw [e_heardAck] at c_heardAck
  simp only [e_heardAck]
  clear e_heardAck
  have c_tcProp := h.c_tcProp
  obtain ⟨x_tcProp, e_tcProp⟩ : ∃ x, p.tcProp = x := ⟨_, rfl⟩
  rw [e_tcProp] at c_tcProp
  simp only [e_tcProp]
  clear e_tcProp
  clear h
  cases x_heardTc <;> cases x_heardTcn <;> cases x_heardAck
  all_goals
    go_enter Tryz.func219, Tryz.ntmps219
    go_wp2
    all_goals go_ret
    all_goals (refine ⟨?_, rfl⟩; refine ret_val ?_; simp_all)

/-- A flag of a port that may be forgotten: its cell, and what the port is without it. -/
structure FlagOk (x : Nat × (Pt → Pt)) : Prop where
  lt : x.1 < 61
  off : ∀ p, (cellsT p).setIfInBounds x.1 (.bool false) = cellsT (x.2 p)
  is : ∀ p, ∃ v : Bool, (cellsT p)[x.1]? = some (.bool v)
def flTc : Nat × (Pt → Pt) := (40, fun p => { p with heardTc := false })
def flTcn : Nat × (Pt → Pt) := (41, fun p => { p with heardTcn := false })
def flAck : Nat × (Pt → Pt) := (42, fun p => { p with heardAck := false })
def flProp : Nat × (Pt → Pt) := (44, fun p => { p with tcProp := false })
theorem flTc_ok : FlagOk flTc := ⟨by decide, fun p => rfl, fun p => ⟨_, rfl⟩⟩
theorem flTcn_ok : FlagOk flTcn := ⟨by decide, fun p => rfl, fun p => ⟨_, rfl⟩⟩
theorem flAck_ok : FlagOk flAck := ⟨by decide, fun p => rfl, fun p => ⟨_, rfl⟩⟩
theorem flProp_ok : FlagOk flProp := ⟨by decide, fun p => rfl, fun p => ⟨_, rfl⟩⟩
def offsN (fs : List (Nat × (Pt → Pt))) (p : Pt) (j : Nat) : Pt := (fs.take j).foldl (fun p x => x.2 p) p
theorem offsN_next {fs : List (Nat × (Pt → Pt))} {p : Pt} {j : Nat} {x : Nat × (Pt → Pt)} (h : fs[j]? = some x) : offsN fs p (j + 1) = x.2 (offsN fs p j) := by
  unfold offsN
  rw [List.take_add_one, h]
  simp
theorem Ta.flag {g q : Nat} {X : Pt} {w w1 : World} (h : Ta g q X w w1) {x : Nat × (Pt → Pt)} (hx : FlagOk x) : Ta g q (x.2 X) w (w1.setCell ⟨g, q + x.1, none⟩ (.bool false)) :=
  h.set x.1 _ hx.lt (h.blk.s x.1 _ hx.lt (hx.off X))
/-- A row of pointers to flags of one port. -/
def FlRow (w : World) (b g q : Nat) (fs : List (Nat × (Pt → Pt))) : Prop := ∀ j x, fs[j]? = some x → w.cell? ⟨b, j, none⟩ = some (.pointer (some ⟨g, q + x.1, none⟩))
def FgInv (fs : List (Nat × (Pt → Pt))) (p : Pt) (n g q : Nat) (w : World) (v : Value) (wr : World) : Prop :=
  ∃ j : Nat, j ≤ n ∧ v = .int .i64 ((j : Nat) : Int) ∧ Ta g q (offsN fs p j) w wr

set_option maxRecDepth 20000 in
set_option maxHeartbeats 1000000 in
theorem forget_w (fs : List (Nat × (Pt → Pt))) (b g q cap : Nat) (p X : Pt) (w : World) (hfs : ∀ x ∈ fs, FlagOk x) (h : PAt w g q p) (hb : FlRow w b g q fs) (hbl : b < w.heap.size) (hne : b ≠ g) (hl : fs.length ≤ 1000) (hX : Hid (offsN fs p fs.length = X)) :
    Calls Tryz.prog 222 #[.slice (some ⟨b, 0, none⟩) fs.length cap] w fun e w' => e = .returned (.tuple #[]) ∧ Ta g q X w w' := by
  obtain ⟨n, hn⟩ : ∃ n, fs.length = n := ⟨_, rfl⟩
  rw [hn] at hX hl ⊢
  have HN := Lib.hid hn
  have HB := Lib.hid hb
  have HF := Lib.hid hfs
  have HP := Lib.hid h
  clear h hb hn hfs
  go_enter Tryz.func222, Tryz.ntmps222
  go_wp2_with fail
  go_loopw [6] (fun v wr => FgInv fs p n g q w v wr) (fun v _ => n - (intOf v).toNat)
  case atStart => exact ⟨0, Nat.zero_le _, rfl, Ta.refl HP.out⟩
  case round =>
    obtain ⟨j, hj, rfl, hT⟩ := hrel
    have HT := Lib.hid hT
    clear hT
    by_cases hjl : j < n
    · obtain ⟨x, hx⟩ := at_some (l := fs) (k := j) (by rw [HN.out]; exact hjl)
      have HX := Lib.hid hx
      have hki : (j : Int) < n := by omega
      have hk0 : (0 : Int) ≤ j := by omega
      have hok := HF.out x (List.mem_of_getElem? hx)
      have HO := Lib.hid hok
      obtain ⟨v, hv⟩ := hok.is (offsN fs p j)
      have c_b : wr.cell? ⟨b, j, none⟩ = some (.pointer (some ⟨g, q + x.1, none⟩)) := by
        have h0 := HB.out j x hx
        have h1 := HT.out.at hbl hne
        unfold World.cell? at h0 ⊢
        simp only [h1]
        exact h0
      have c_v := HT.out.blk.at_ x.1 _ hv
      have f_v := HT.out.blk.free x.1 hok.lt
      clear hx hv hok
      go_wp2_with fail
      exact ⟨⟨j + 1, by omega, by go_num, by rw [offsN_next HX.out]; exact HT.out.flag HO.out⟩, by simp [intOf]; omega⟩
    · obtain rfl : j = n := by omega
      go_wp2
      go_end0
      exact ⟨rfl, HT.out.as hX.out⟩
end Go.Proofs.YtldobcfejldbiaaGreatDoor

namespace Go.Proofs.YtldobcfejldbiaaGreatDoor
set_option linter.unusedVariables false
set_option linter.unusedSimpArgs false
open Go.RowKit Vm Rm Bm Im

def fl4 : List (Nat × (Pt → Pt)) := [flTc, flTcn, flAck, flProp]
theorem fl4_ok : ∀ x ∈ fl4, FlagOk x := by
  intro x hx
  simp only [fl4, List.mem_cons, List.not_mem_nil, or_false] at hx
  rcases hx with rfl | rfl | rfl | rfl
  · exact flTc_ok
  · exact flTcn_ok
  · exact flAck_ok
  · exact flProp_ok
abbrev flp (g q c : Nat) : Value := .pointer (some ⟨g, q + c, none⟩)
theorem fl4_row {w : World} {b g q : Nat} {T : TypeId} (h : w.heap[b]? = some (.cells #[flp g q 40, flp g q 41, flp g q 42, flp g q 44] T (0, 0))) : FlRow w b g q fl4 := by
  intro j x hx
  have hj : j < 4 := (List.getElem?_eq_some_iff.1 hx).1
  match j, hj with
  | 0, _ => cases hx; exact (cell_of_row w b 0 _ _ _ h).trans rfl
  | 1, _ => cases hx; exact (cell_of_row w b 1 _ _ _ h).trans rfl
  | 2, _ => cases hx; exact (cell_of_row w b 2 _ _ _ h).trans rfl
  | 3, _ => cases hx; exact (cell_of_row w b 3 _ _ _ h).trans rfl

set_option maxRecDepth 20000 in
set_option maxHeartbeats 1000000 in
theorem forgetAll_w (g q : Nat) (p X : Pt) (w : World) (h : PAt w g q p) (hX : Hid (forgetP p = X)) :
    Calls Tryz.prog 220 #[.pointer (some ⟨g, q, none⟩)] w fun e w' => e = .returned (.tuple #[]) ∧ Ta g q X w w' := by
  have B0 := Lib.hid (below_box w (.cells #[flp g q 40, flp g q 41, flp g q 42, flp g q 44] 250))
  have hgl := h.lt
  have HG := Lib.hid hgl
  have C := Lib.hid (show Calls Tryz.prog 222 #[.slice (some ⟨w.heap.size, 0, none⟩) 4 4] (w.alloc (.cells #[flp g q 40, flp g q 41, flp g q 42, flp g q 44] 250)).drew (fun e w' => e = .returned (.tuple #[]) ∧ Ta g q X (w.alloc (.cells #[flp g q 40, flp g q 41, flp g q 42, flp g q 44] 250)).drew w') from
    forget_w fl4 w.heap.size g q 4 p X _ fl4_ok (by have := h.next B0.out; exact ⟨this.lt, this.at_, this.free⟩) (fl4_row (heap_alloc_new w _)) (by show w.heap.size < (w.alloc _).heap.size; rw [size_box]; omega) (by omega) (by decide) hX)
  clear h hX
  unfold flp at *
  go_enter Tryz.func220, Tryz.ntmps220
  go_region_with (go_at_call 222; (with_reducible refine C.out.mono ?_); rintro e w1 ⟨rfl, T⟩)
  all_goals go_end0
  all_goals exact ⟨rfl, T.before (B0.out.drew) HG.out⟩

set_option maxRecDepth 20000 in
set_option maxHeartbeats 1000000 in
theorem toLearning_w (g q : Nat) (p X : Pt) (w : World) (h : PAt w g q p) (hX : Hid (forgetP { p with change := 1 } = X)) :
    Calls Tryz.prog 215 #[.pointer (some ⟨g, q, none⟩)] w fun e w' => e = .returned (.tuple #[]) ∧ Ta g q X w w' := by
  have c_1 := h.c_change
  have f_1 := h.f_change
  have T0 := (Ta.refl h).s_change 1
  have C := Lib.hid (forgetAll_w g q { p with change := 1 } X _ T0.blk hX)
  have TT := Lib.hid T0
  clear h hX T0
  go_enter Tryz.func215, Tryz.ntmps215
  go_wp2_with (go_at_call 220; (with_reducible refine C.out.mono ?_); rintro e w1 ⟨rfl, T⟩)
  go_end0
  exact ⟨rfl, TT.out.trans T⟩
end Go.Proofs.YtldobcfejldbiaaGreatDoor

namespace Go.Proofs.YtldobcfejldbiaaGreatDoor
set_option linter.unusedVariables false
set_option linter.unusedSimpArgs false
open Go.RowKit Vm Rm Bm Im

def CBk (w : World) (b : Nat) (t : Tm) (g n cap k q : Nat) : Prop := w.heap[b]? = some (.cells (scl t g n cap k q) 237 (0, 0))
section
variable {w w' : World} {b g n cap k q : Nat} {t : Tm}
theorem CBk.lt (h : CBk w b t g n cap k q) : b < w.heap.size := (Array.getElem?_eq_some_iff.1 h).1
theorem CBk.next (h : CBk w b t g n cap k q) (hb : Below w.heap.size w w') : CBk w' b t g n cap k q := (hb.block b h.lt).trans h
theorem CBk.kp {g' : Nat} (h : CBk w b t g n cap k q) (hk : Kp g' w w') (hne : b ≠ g') : CBk w' b t g n cap k q := (hk.block b h.lt hne).trans h
theorem CBk.ta {g' q' : Nat} {X : Pt} (h : CBk w b t g n cap k q) (T : Ta g' q' X w w') (hne : b ≠ g') : CBk w' b t g n cap k q := (T.at h.lt hne).trans h
theorem cbk_new (w : World) : CBk (w.alloc (.cells (scl t g n cap k q) 237)) w.heap.size t g n cap k q := heap_alloc_new w _
theorem CBk.cells (h : CBk w b t g n cap k q) : w.cell? ⟨b, 0, none⟩ = some (.int .i64 t.age) ∧ w.cell? ⟨b, 1, none⟩ = some (.int .i64 t.max) ∧ w.cell? ⟨b, 2, none⟩ = some (.int .i64 t.hello) ∧ w.cell? ⟨b, 3, none⟩ = some (.int .i64 t.delay) ∧
    w.cell? ⟨b, 4, none⟩ = some (.slice (some ⟨g, 0, none⟩) n cap) ∧ w.cell? ⟨b, 5, none⟩ = some (.int .i64 ((k : Nat) : Int)) ∧ w.cell? ⟨b, 6, none⟩ = some (.pointer (some ⟨g, q, none⟩)) := by
  unfold CBk at h
  refine ⟨?_, ?_, ?_, ?_, ?_, ?_, ?_⟩ <;> simp [World.cell?, h]
end
theorem oneC_is (t : Tm) (g n cap k q : Nat) (w : World) : ∃ (W : World) (nb : Nat), Hid (w.alloc (.cells (scl t g n cap k q) 237) = W) ∧ Hid (w.heap.size = nb) ∧ CBk W nb t g n cap k q ∧ Below nb w W ∧ nb < W.heap.size :=
  ⟨_, _, Lib.hid rfl, Lib.hid rfl, cbk_new w, below_box w _, by rw [size_box]; omega⟩

/-- What the times of a right bridge are not beyond. -/
structure TmOk (t : Tm) : Prop where
  h0 : 0 ≤ t.hello
  h1 : t.hello ≤ 1000
  m0 : 0 ≤ t.max
  m1 : t.max ≤ 1000
  d0 : 0 ≤ t.delay
  d1 : t.delay ≤ 1000
theorem right_tm {t : Tm} (h : rightBr t = true) : TmOk t := by
  unfold rightBr at h
  simp only [Bool.and_eq_true, decide_eq_true_eq] at h
  constructor <;> omega

set_option maxRecDepth 20000 in
set_option maxHeartbeats 1000000 in
theorem countAnew_w (t : Tm) (g n cap k q : Nat) (p X : Pt) (w : World) (h : PAt w g q p) (ht : TmOk t) (hX : Hid (countP t p = X)) :
    Calls Tryz.prog 217 #[sv t g n cap k q] w fun e w' => e = .returned (.tuple #[]) ∧ Ta g q X w w' := by
  obtain ⟨W, sb, HW, HS, k0, kB, kL⟩ := oneC_is t g n cap k q w
  have hgl := h.lt
  rw [HS.out] at hgl
  have h2 : ¬ sb = g := by omega
  have h2b : ¬ g = sb := by omega
  have PA := h.next (HS.out ▸ kB)
  have c_1 := PA.c_tc
  have c_2 := PA.c_sendRstp
  have c_3 := PA.c_newInfo
  have f_1 := PA.f_tc
  have f_3 := PA.f_newInfo
  obtain ⟨s0, s1, s2, s3, s4, s5, s6⟩ := k0.cells
  have T0 := Lib.hid (Ta.refl PA)
  have T1 := Lib.hid (((Ta.refl PA).s_tc (t.hello + 1)).s_newInfo true)
  have T2 := Lib.hid ((Ta.refl PA).s_tc (t.max + t.delay))
  have B0 := Lib.hid (HS.out ▸ kB : Below w.heap.size w W)
  have HG := Lib.hid h.lt
  have w1 : IntKind.i64.wrap (t.hello + 1) = t.hello + 1 := by rw [IntKind.wrap_i64]; have := ht.h0; have := ht.h1; omega
  have w2 : IntKind.i64.wrap (t.max + t.delay) = t.max + t.delay := by rw [IntKind.wrap_i64]; have := ht.m0; have := ht.m1; have := ht.d0; have := ht.d1; omega
  rw [← hX.out]
  clear hX
  unfold countP
  clear h PA k0 kB kL hgl ht
  unfold sv scl
  by_cases e : p.tc = 0
  · rw [if_neg (by simpa using e)]
    have d : (p.tc != 0) = false := by rw [e]; rfl
    by_cases hx : p.sendRstp = true
    · rw [if_pos hx]
      rw [hx] at c_2
      clear hx e
      go_enter Tryz.func217, Tryz.ntmps217
      go_upto_region 1 with (fail)
      refine wp_to (W := W) (by exact HW.out.symm) ?_
      rw [HS.out]
      go_wp2_with fail
      all_goals try go_region
      all_goals try go_wp2
      all_goals go_end0
      all_goals refine ⟨rfl, ?_⟩
      all_goals first | exact T1.out.before B0.out HG.out | exact T1.out.draw.before B0.out HG.out
    · rw [if_neg hx]
      replace hx : p.sendRstp = false := by simpa using hx
      rw [hx] at c_2
      clear hx e
      go_enter Tryz.func217, Tryz.ntmps217
      go_upto_region 1 with (fail)
      refine wp_to (W := W) (by exact HW.out.symm) ?_
      rw [HS.out]
      go_wp2_with fail
      all_goals try go_region
      all_goals try go_wp2
      all_goals go_end0
      all_goals refine ⟨rfl, ?_⟩
      all_goals first | exact T2.out.before B0.out HG.out | exact T2.out.draw.before B0.out HG.out
  · rw [if_pos e]
    have d : (p.tc != 0) = true := by simpa using e
    clear e
    go_enter Tryz.func217, Tryz.ntmps217
    go_upto_region 1 with (fail)
    refine wp_to (W := W) (by exact HW.out.symm) ?_
    rw [HS.out]
    go_wp2
    go_end0
    exact ⟨rfl, T0.out.before B0.out HG.out⟩

set_option maxHeartbeats 1000000 in
theorem tells1_w (g q : Nat) (p : Pt) (w : World) (h : PAt w g q p) :
    Calls Tryz.prog 267 #[.pointer (some ⟨g, q, none⟩)] w fun e w' => e = .returned (.tuple #[]) ∧ Ta g q { p with tcProp := true } w w' := by
  have c_1 := h.c_tcProp
  have f_1 := h.f_tcProp
  have T := Lib.hid ((Ta.refl h).s_tcProp true)
  clear h
  go_enter Tryz.func267, Tryz.ntmps267
  go_wp2
  go_end0
  exact ⟨rfl, T.out⟩

/-! ### All others are told -/
def propN (l : List Pt) (k j : Nat) : List Pt := l.mapIdx fun i p => if i < j ∧ ¬ i = k then { p with tcProp := true } else p
theorem propN_zero (l : List Pt) (k : Nat) : propN l k 0 = l := by
  unfold propN
  apply List.ext_getElem?
  intro j
  simp
theorem propN_len (l : List Pt) (k j : Nat) : (propN l k j).length = l.length := by unfold propN; simp
theorem propN_at {l : List Pt} {k j : Nat} {p : Pt} (h : l[j]? = some p) : (propN l k j)[j]? = some p := by unfold propN; simp [h]
theorem propN_own {l : List Pt} {k j : Nat} {p : Pt} (h : l[k]? = some p) : (propN l k j)[k]? = some p := by unfold propN; simp [h]
theorem propN_skip (l : List Pt) (k : Nat) : propN l k k = propN l k (k + 1) := by
  unfold propN
  apply List.ext_getElem?
  intro i
  simp only [List.getElem?_mapIdx]
  congr 1
  funext p
  by_cases h : i = k
  · subst h; simp
  · have : (i < k ∧ ¬ i = k) ↔ (i < k + 1 ∧ ¬ i = k) := by omega
    simp only [this]
theorem propN_set {l : List Pt} {k j : Nat} {p : Pt} (h : l[j]? = some p) (hjk : ¬ j = k) : (propN l k j).set j { p with tcProp := true } = propN l k (j + 1) := by
  unfold propN
  have hj : j < l.length := (List.getElem?_eq_some_iff.1 h).1
  apply List.ext_getElem?
  intro i
  by_cases hi : j = i
  · subst hi
    rw [List.getElem?_set_self (by simpa using hj)]
    simp [h, hjk]
  · rw [List.getElem?_set_ne hi]
    simp only [List.getElem?_mapIdx]
    congr 1
    funext p
    have : (i < j ∧ ¬ i = k) ↔ (i < j + 1 ∧ ¬ i = k) := by omega
    simp only [this]
theorem propN_all {l : List Pt} {k : Nat} {p : Pt} (h : l[k]? = some p) (X : Pt) : (propN l k l.length).set k X = l.mapIdx (tellAt X true k) := by
  unfold propN
  have hk : k < l.length := (List.getElem?_eq_some_iff.1 h).1
  apply List.ext_getElem?
  intro i
  by_cases hi : k = i
  · subst hi
    rw [List.getElem?_set_self (by simpa using hk)]
    simp [h, tellAt]
  · rw [List.getElem?_set_ne hi]
    simp only [List.getElem?_mapIdx]
    cases hl : l[i]? with
    | none => rfl
    | some r =>
      have : i < l.length := (List.getElem?_eq_some_iff.1 hl).1
      have hne : ¬ i = k := fun e => hi e.symm
      simp [tellAt, hne, this]
theorem propN_full {l : List Pt} {k : Nat} {p : Pt} (h : l[k]? = some p) : propN l k l.length = l.mapIdx (tellAt p true k) := by
  rw [← propN_all h p]
  have hk := (List.getElem?_eq_some_iff.1 (propN_own h (j := l.length))).1
  apply List.ext_getElem?
  intro i
  by_cases hi : k = i
  · subst hi
    rw [List.getElem?_set_self hk, propN_own h]
  · rw [List.getElem?_set_ne hi]
def TeInv (l : List Pt) (n k g : Nat) (W : World) (v : Value) (wr : World) : Prop :=
  ∃ j : Nat, j ≤ n ∧ v = .int .i64 (j : Nat) ∧ WRow wr g (propN l k j) ∧ Kp g W wr

set_option maxRecDepth 20000 in
set_option maxHeartbeats 1000000 in
theorem eachOther_w (t : Tm) (g n cap k q : Nat) (l : List Pt) (w : World) (hr : WRow w g l) (hn : l.length = n) (hl : n ≤ 1000) :
    Calls Tryz.prog 266 #[sv t g n cap k q, .func (.func 267) #[] #[]] w fun e w' => e = .returned (.tuple #[]) ∧ WRow w' g (propN l k n) ∧ Kp g w w' := by
  obtain ⟨W, sb, HW, HS, k0, kB, kL⟩ := oneC_is t g n cap k q w
  have S0 := Lib.hid k0
  have B0 := Lib.hid kB
  have HR := Lib.hid (hr.next (HS.out ▸ kB))
  have hgl := hr.lt
  rw [HS.out] at hgl
  have HL := Lib.hid kL
  have HN := Lib.hid hn
  obtain ⟨c0, c1, c2, c3, c4, c5, c6⟩ := k0.cells
  have hent : ∀ (a : Array Value) (w : World), Sem.run Tryz.prog (callFunc 267 a) w = .ok (.enter 267 a) w := fun _ _ => by kernel_rfl
  have HE := Lib.hid hent
  clear hr hn k0 kB kL hent
  unfold sv scl
  go_enter Tryz.func266, Tryz.ntmps266
  go_upto_region 1 with (fail)
  refine wp_to (W := W) (by exact HW.out.symm) ?_
  rw [HS.out]
  go_wp2_with fail
  go_loopw [8] (fun v wr => TeInv l n k g W v wr) (fun v _ => n - (intOf v).toNat)
  case atStart => exact ⟨0, Nat.zero_le _, rfl, by rw [propN_zero]; exact HR.out, Kp.refl' g W⟩
  case round =>
    obtain ⟨j, hj, rfl, hW, hK⟩ := hrel
    have HK := Lib.hid hK
    have HWR := Lib.hid hW
    have hne : sb ≠ g := by omega
    have SB := Lib.hid (S0.out.kp hK hne)
    obtain ⟨c0, c1, c2, c3, c4, c5, c6⟩ := SB.out.cells
    clear hK hW
    by_cases hjl : j < n
    · obtain ⟨p', hx⟩ := at_some (l := l) (k := j) (by rw [HN.out]; exact hjl)
      have HX := Lib.hid hx
      have hki : (j : Int) < n := by omega
      have hk0 : (0 : Int) ≤ j := by omega
      by_cases hjk : j = k
      · subst hjk
        have hb : ((j : Int) != (j : Int)) = false := by simp
        clear hx
        go_wp2_with fail
        exact ⟨⟨j + 1, by omega, by go_num, by rw [← propN_skip]; exact HWR.out, HK.out⟩, by simp [intOf]; omega⟩
      · have hb : ((j : Int) != (k : Int)) = true := by simp; omega
        have hcall := tells1_w g (j * 61) p' wr (HWR.out.pat (propN_at hx (k := k)))
        have hent := HE.out
        clear hx
        go_wp2_with (refine hcall.mono ?_; clear hcall; rintro e w1 ⟨rfl, T⟩)
        exact ⟨⟨j + 1, by omega, by go_num, by rw [← propN_set HX.out hjk]; exact T.wrow HWR.out (by rw [propN_len, HN.out]; exact hjl), HK.out.trans' T.kp⟩, by simp [intOf]; omega⟩
    · obtain rfl : j = n := by omega
      go_wp2
      go_end0
      exact ⟨rfl, HWR.out, (Kp.of (HS.out ▸ B0.out)).trans' HK.out⟩

set_option maxRecDepth 20000 in
set_option maxHeartbeats 1000000 in
theorem tellOthers_w (t : Tm) (g n cap k q : Nat) (l : List Pt) (w : World) (hr : WRow w g l) (hn : l.length = n) (hl : n ≤ 1000) :
    Calls Tryz.prog 218 #[sv t g n cap k q] w fun e w' => e = .returned (.tuple #[]) ∧ WRow w' g (propN l k n) ∧ Kp g w w' := by
  obtain ⟨W, sb, HW, HS, k0, kB, kL⟩ := oneC_is t g n cap k q w
  have B0 := Lib.hid (HS.out ▸ kB : Below w.heap.size w W)
  have C := Lib.hid (eachOther_w t g n cap k q l W (hr.next B0.out) hn hl)
  obtain ⟨c0, c1, c2, c3, c4, c5, c6⟩ := k0.cells
  clear hr hn k0 kB kL hl
  unfold sv scl at *
  go_enter Tryz.func218, Tryz.ntmps218
  go_upto_region 1 with (fail)
  refine wp_to (W := W) (by exact HW.out.symm) ?_
  rw [HS.out]
  go_wp2_with (go_at_call 266; (with_reducible refine C.out.mono ?_); rintro e w1 ⟨rfl, h1, h2⟩)
  go_end0
  exact ⟨rfl, h1, (Kp.of B0.out).trans' h2⟩
end Go.Proofs.YtldobcfejldbiaaGreatDoor
