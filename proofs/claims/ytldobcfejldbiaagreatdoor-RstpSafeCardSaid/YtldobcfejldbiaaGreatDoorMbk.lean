/-
  Layer 15: an act; few; does.
-/
import Derived.Test.YtldobcfejldbiaaGreatDoorMaz
namespace Go.Proofs.YtldobcfejldbiaaGreatDoor
set_option linter.unusedVariables false
set_option linter.unusedSimpArgs false
open Go.RowKit Go.Maps Vm Rm Bm Im

structure A15 where
  kind : Int
  at_ : Int
  on : Bool
  b : Bp
abbrev cellsA (y : A15) : Array Value := #[.int .i64 y.kind, .int .i64 y.at_, .bool y.on, .int .i64 y.b.kind, .int .i64 y.b.flags, .int .u64 y.b.root, .int .u64 y.b.cost, .int .u64 y.b.bridge, .int .u64 y.b.port, .int .i64 y.b.age, .int .i64 y.b.max, .int .i64 y.b.hello, .int .i64 y.b.delay]
abbrev av (y : A15) : Value := .agg (cellsA y)
def A15.ok (y : A15) : Prop := BpOk y.b ∧ (vecOf y.b).ok
/-- What an act leaves. -/
def doX (i : Int) (t : Tm) (x : Rs) (y : A15) : Rs :=
  if y.kind = 0 then (if 0 ≤ y.at_ ∧ y.at_ < (x.l.length : Int) then powerX i t x y.at_.toNat y.on else x)
  else if y.kind = 1 then hearY i t x y.at_ y.b
  else if y.kind = 2 then tickX i t x
  else if y.kind = 3 then (if 0 ≤ y.at_ ∧ y.at_ < (x.l.length : Int) then checkX i t x y.at_.toNat else x)
  else if y.kind = 4 then sendX i t x
  else if y.kind = 5 then { x with f := [] }
  else x
structure ARow (w : World) (a : Option Addr) (l : List A15) : Prop where
  at_ : ∀ j y, l[j]? = some y → ∃ g o : Nat, a = some ⟨g, o, none⟩ ∧ g < w.heap.size ∧ w.rangeAt g (o + j * 13) (cellsA y).toList
  ok : ∀ y ∈ l, y.ok
theorem ARow.next {w w' : World} {a : Option Addr} {l : List A15} (h : ARow w a l) (hb : Below w.heap.size w w') : ARow w' a l :=
  ⟨fun j x hx => by obtain ⟨g, o, e, hg, k⟩ := h.at_ j x hx; exact ⟨g, o, e, Nat.lt_of_lt_of_le hg hb.size, range_next k hg hb⟩, h.ok⟩
theorem act_from {w w1 w' : World} {xb g mb k : Nat} {i : Int} {t : Tm} {X : Rs} (hb : Below w.heap.size w w1) (h : Act15 w1 w' xb g mb i t k X) : Act15 w w' xb g mb i t k X := by
  obtain ⟨g', cap', hg, hx, hk⟩ := h
  exact ⟨g', cap', by have := hb.size; omega, hx, (K3.of hb).trans hk⟩
theorem few15_w (a : Option Addr) (n cap : Nat) (w : World) : Calls Tryz.prog 7 #[.slice a n cap] w fun e w' => e = .returned (.bool (decide (n ≤ 60))) ∧ w' = w := by
  by_cases h : n ≤ 60
  · have h2 : ((n : Nat) : Int) ≤ 60 := by omega
    rw [decide_eq_true h]
    go_enter Tryz.func7, Tryz.ntmps7
    go_wp2_with fail
    go_ret
    exact ⟨rfl, rfl⟩
  · have h2 : ¬ ((n : Nat) : Int) ≤ 60 := by omega
    rw [decide_eq_false h]
    go_enter Tryz.func7, Tryz.ntmps7
    go_wp2_with fail
    go_ret
    exact ⟨rfl, rfl⟩

set_option maxRecDepth 20000 in
set_option maxHeartbeats 8000000 in
theorem does15_w (xb g cap mb k : Nat) (i : Int) (t : Tm) (x : Rs) (y : A15) (w : World) (h : IsX w xb g cap mb i t k x) (hT : TRoles w) (hbr : Vm.u64B i) (hk : k ≤ 1000) (hq : y.ok) :
    Calls Tryz.prog 27 #[.pointer (some ⟨xb, 0, none⟩), av y] w fun e w' => e = .returned (.tuple #[]) ∧ Act15 w w' xb g mb i t k (doX i t x y) := by
  have H0 := heap_alloc_new w (.cells (cellsA y) 51)
  have BB := below_box w (.cells (cellsA y) 51)
  have B0 := Lib.hid BB
  have HI := Lib.hid (h.next BB)
  have CS := Lib.hid (send15_w xb g cap mb k i t x _ (h.next BB) (hT.next BB) hbr hk)
  have CP := Lib.hid (Calls.mono (power15_w xb g cap mb k i t x y.at_ y.on _ (h.next BB) hbr hk) (R' := fun e w' => (∃ n : Int, e = .returned (.int .i64 n)) ∧ Act15 (w.alloc (.cells (cellsA y) 51)) w' xb g mb i t k (if 0 ≤ y.at_ ∧ y.at_ < (x.l.length : Int) then powerX i t x y.at_.toNat y.on else x)) fun e w' h => ⟨⟨_, h.1⟩, h.2⟩)
  have CH := Lib.hid (Calls.mono (hear15_w xb g cap mb k i t x y.at_ y.b _ (h.next BB) hbr hk hq.1 hq.2) (R' := fun e w' => (∃ n : Int, e = .returned (.int .i64 n)) ∧ Act15 (w.alloc (.cells (cellsA y) 51)) w' xb g mb i t k (hearY i t x y.at_ y.b)) fun e w' h => ⟨⟨_, h.1⟩, h.2⟩)
  have CC := Lib.hid (Calls.mono (check15_w xb g cap mb k i t x y.at_ _ (h.next BB) hbr hk) (R' := fun e w' => (∃ n : Int, e = .returned (.int .i64 n)) ∧ Act15 (w.alloc (.cells (cellsA y) 51)) w' xb g mb i t k (if 0 ≤ y.at_ ∧ y.at_ < (x.l.length : Int) then checkX i t x y.at_.toNat else x)) fun e w' h => ⟨⟨_, h.1⟩, h.2⟩)
  have CT := Lib.hid (tick15_w xb g cap mb k i t x _ (h.next BB) hbr hk)
  have CF := Lib.hid (forgotten15_w xb g cap mb k i t x _ (h.next BB))
  unfold doX
  obtain ⟨X1, hX1⟩ : ∃ X, (if 0 ≤ y.at_ ∧ y.at_ < (x.l.length : Int) then powerX i t x y.at_.toNat y.on else x) = X := ⟨_, rfl⟩
  obtain ⟨X2, hX2⟩ : ∃ X, (if 0 ≤ y.at_ ∧ y.at_ < (x.l.length : Int) then checkX i t x y.at_.toNat else x) = X := ⟨_, rfl⟩
  obtain ⟨X3, hX3⟩ : ∃ X, hearY i t x y.at_ y.b = X := ⟨_, rfl⟩
  rw [hX1] at CP ⊢
  rw [hX2] at CC ⊢
  rw [hX3] at CH ⊢
  clear hX1 hX2 hX3
  obtain ⟨K, at', on, q⟩ := y
  dsimp only at *
  have hsz := size_box w (.cells (cellsA ⟨K, at', on, q⟩) 51)
  clear h hT hbr hk hq BB
  generalize hW : w.alloc (.cells (cellsA ⟨K, at', on, q⟩) 51) = W at *
  generalize hb : w.heap.size = b at *
  have c := fun j => cell_of_row W b j _ _ _ H0
  have c0 : W.cell? ⟨b, 0, none⟩ = some (.int .i64 K) := c 0
  have c1 : W.cell? ⟨b, 1, none⟩ = some (.int .i64 at') := c 1
  have c2 : W.cell? ⟨b, 2, none⟩ = some (.bool on) := c 2
  have hr := Lib.hid (show W.rangeAt b 3 (cellsB q).toList from fun j v hv => by
    have hj : j < 10 := (List.getElem?_eq_some_iff.1 hv).1
    match j, hj with
    | 0, _ => exact (c 3).trans hv
    | 1, _ => exact (c 4).trans hv
    | 2, _ => exact (c 5).trans hv
    | 3, _ => exact (c 6).trans hv
    | 4, _ => exact (c 7).trans hv
    | 5, _ => exact (c 8).trans hv
    | 6, _ => exact (c 9).trans hv
    | 7, _ => exact (c 10).trans hv
    | 8, _ => exact (c 11).trans hv
    | 9, _ => exact (c 12).trans hv)
  have HW := Lib.hid hW
  have HB := Lib.hid hb
  clear H0 c hW hb hsz
  by_cases h0 : K = 0
  · subst h0
    rw [if_pos rfl]
    clear CH CT CC CS CF 
    go_enter Tryz.func27, Tryz.ntmps27
    go_upto_region 1 with (fail)
    refine wp_to (W := W) (by exact HW.out.symm) ?_
    rw [HB.out]
    go_wp2_with (go_at_call 11; (with_reducible refine CP.out.mono ?_); rintro e w2 ⟨⟨n, rfl⟩, ha⟩; have HA := Lib.hid ha; clear ha)
    go_end0
    exact ⟨rfl, act_from (by rw [HB.out]; exact B0.out) HA.out⟩
  by_cases h1 : K = 1
  · subst h1
    rw [if_neg (by decide)]
    rw [if_pos rfl]
    clear CP CT CC CS CF h0
    go_enter Tryz.func27, Tryz.ntmps27
    go_upto_region 1 with (fail)
    refine wp_to (W := W) (by exact HW.out.symm) ?_
    rw [HB.out]
    go_wp2_with (first
      | (refine wpList_load_mid rfl 49 _ rfl b 3 rfl (cellsB q).toList _ hr.out rfl rfl infoSB ?_)
      | (go_at_call 13; (with_reducible refine CH.out.mono ?_); rintro e w2 ⟨⟨n, rfl⟩, ha⟩; have HA := Lib.hid ha; clear ha))
    go_end0
    exact ⟨rfl, act_from (by rw [HB.out]; exact B0.out) HA.out⟩
  by_cases h2 : K = 2
  · subst h2
    rw [if_neg (by decide)]
    rw [if_neg (by decide)]
    rw [if_pos rfl]
    clear CP CH CC CS CF h0 h1
    go_enter Tryz.func27, Tryz.ntmps27
    go_upto_region 1 with (fail)
    refine wp_to (W := W) (by exact HW.out.symm) ?_
    rw [HB.out]
    go_wp2_with (go_at_call 15; (with_reducible refine CT.out.mono ?_); rintro e w2 ⟨rfl, ha⟩; have HA := Lib.hid ha; clear ha)
    go_end0
    exact ⟨rfl, act_from (by rw [HB.out]; exact B0.out) HA.out⟩
  by_cases h3 : K = 3
  · subst h3
    rw [if_neg (by decide)]
    rw [if_neg (by decide)]
    rw [if_neg (by decide)]
    rw [if_pos rfl]
    clear CP CH CT CS CF h0 h1 h2
    go_enter Tryz.func27, Tryz.ntmps27
    go_upto_region 1 with (fail)
    refine wp_to (W := W) (by exact HW.out.symm) ?_
    rw [HB.out]
    go_wp2_with (go_at_call 17; (with_reducible refine CC.out.mono ?_); rintro e w2 ⟨⟨n, rfl⟩, ha⟩; have HA := Lib.hid ha; clear ha)
    go_end0
    exact ⟨rfl, act_from (by rw [HB.out]; exact B0.out) HA.out⟩
  by_cases h4 : K = 4
  · subst h4
    rw [if_neg (by decide)]
    rw [if_neg (by decide)]
    rw [if_neg (by decide)]
    rw [if_neg (by decide)]
    rw [if_pos rfl]
    clear CP CH CT CC CF h0 h1 h2 h3
    go_enter Tryz.func27, Tryz.ntmps27
    go_upto_region 1 with (fail)
    refine wp_to (W := W) (by exact HW.out.symm) ?_
    rw [HB.out]
    go_wp2_with (go_at_call 19; (with_reducible refine CS.out.mono ?_); rintro e w2 ⟨v, rfl, _, ha⟩; have HA := Lib.hid ha; clear ha)
    go_end0
    exact ⟨rfl, act_from (by rw [HB.out]; exact B0.out) HA.out⟩
  by_cases h5 : K = 5
  · subst h5
    rw [if_neg (by decide)]
    rw [if_neg (by decide)]
    rw [if_neg (by decide)]
    rw [if_neg (by decide)]
    rw [if_neg (by decide)]
    rw [if_pos rfl]
    clear CP CH CT CC CS h0 h1 h2 h3 h4
    go_enter Tryz.func27, Tryz.ntmps27
    go_upto_region 1 with (fail)
    refine wp_to (W := W) (by exact HW.out.symm) ?_
    rw [HB.out]
    go_wp2_with (go_at_call 21; (with_reducible refine CF.out.mono ?_); rintro e w2 ⟨⟨_, _, rfl, _, _⟩, ha⟩; have HA := Lib.hid ha; clear ha)
    go_end0
    exact ⟨rfl, act_from (by rw [HB.out]; exact B0.out) HA.out⟩
  rw [if_neg h0]
  rw [if_neg h1]
  rw [if_neg h2]
  rw [if_neg h3]
  rw [if_neg h4]
  rw [if_neg h5]
  have g0 := decide_eq_false h0
  have g1 := decide_eq_false h1
  have g2 := decide_eq_false h2
  have g3 := decide_eq_false h3
  have g4 := decide_eq_false h4
  have g5 := decide_eq_false h5
  clear CP CH CT CC CS CF
  go_enter Tryz.func27, Tryz.ntmps27
  go_upto_region 1 with (fail)
  refine wp_to (W := W) (by exact HW.out.symm) ?_
  rw [HB.out]
  go_wp2_with fail
  go_end0
  exact ⟨rfl, act_from (by rw [HB.out]; exact B0.out) ⟨g, cap, .inl rfl, HI.out.more, K3.refl _ _ _ _⟩⟩
end Go.Proofs.YtldobcfejldbiaaGreatDoor
