/-
  Layer 7's small functions: cmp.Compare, strings.Compare, cmp.Or, the order of List, the closures of Age, Flush, makeRoom; placeOf, within, Group, wrong; the atomic.
-/
import Derived.Test.YtkpfdaomhkcokaaFdA
import Derived.Lib.Bytealg
import Derived.Lib.SmallJoins
import Derived.Lib.AppendStr
import Derived.Laws.IdiomStrings
import Derived.Laws.LoneSync
import Derived.Deep.QuietTactic
import Derived.BigQuiet
import Derived.Deep.RegionWith
import Derived.Deep.RegionHeld3
import Derived.Deep.DeepCutAuto
import Derived.LoopN
import Derived.Sort.Grow
namespace Go.Proofs.Ytkpfdaomhkcokaa
set_option linter.unusedVariables false
set_option linter.unusedSimpArgs false
open Go.RowKit Dm

theorem ret_bool {a b : Bool} (h : a = b) : Ending.returned (.bool a) = .returned (.bool b) := by rw [h]
theorem ret_int {k : IntKind} {a b : Int} (h : a = b) : Ending.returned (.int k a) = .returned (.int k b) := by rw [h]
theorem below_box (w : World) (o : Obj) : Below w.heap.size w (w.alloc o) := (Below.refl _ _).alloc (Nat.le_refl _) o
theorem size_box (w : World) (o : Obj) : (w.alloc o).heap.size = w.heap.size + 1 := by simp
theorem bw_trans {a b c : World} (h : Below a.heap.size a b) (k : Below b.heap.size b c) : Below a.heap.size a c := h.trans (k.mono h.size)
theorem bw_alloc {a b : World} (h : Below a.heap.size a b) (o : Obj) : Below a.heap.size a (b.alloc o) := h.alloc h.size o

/-- Nothing but draws and new blocks. -/
def Grown (a b : World) : Prop := ∃ q os, b = Sort.grow (a.drewN q) os
theorem Grown.refl (a : World) : Grown a a := ⟨0, #[], by simp [Sort.grow, World.drewN]⟩
theorem Grown.alloc {a b : World} (h : Grown a b) (o : Obj) : Grown a (b.alloc o) := by
  obtain ⟨q, os, rfl⟩ := h
  exact ⟨q, os.push o, by simp [Sort.grow, World.alloc]⟩
theorem Grown.drew {a b : World} (h : Grown a b) : Grown a b.drew := by
  obtain ⟨q, os, rfl⟩ := h
  exact ⟨q + 1, os, rfl⟩
theorem Grown.drewN {a b : World} (h : Grown a b) (n : Nat) : Grown a (b.drewN n) := by
  obtain ⟨q, os, rfl⟩ := h
  exact ⟨q + n, os, by simp [Sort.grow, World.drewN, Nat.add_assoc]⟩
theorem Grown.trans {a b c : World} (h : Grown a b) (k : Grown b c) : Grown a c := by
  obtain ⟨q, os, rfl⟩ := h
  obtain ⟨q', os', rfl⟩ := k
  exact ⟨q + q', os ++ os', by simp [Sort.grow, World.drewN, Nat.add_assoc, Array.append_assoc]⟩
theorem Grown.below {a b : World} (h : Grown a b) : Below a.heap.size a b := by
  obtain ⟨q, os, rfl⟩ := h
  refine ⟨rfl, rfl, rfl, by simp [Sort.grow, World.drewN], fun i hi => ?_⟩
  simp only [Sort.grow, World.drewN]
  rw [Array.getElem?_append_left hi]

/-- Block b holds just this entry, none of its cells frozen. -/
def EBlk (w : World) (b : Nat) (x : En) : Prop :=
  w.heap[b]? = some (.cells #[.int .i64 x.vlan, .string x.mac, .int .i64 x.port, .int .i64 x.heard, .bool x.fixed] 41 (0, 0))
/-- Five cells at a place. -/
def At5 (w : World) (b o : Nat) (v : Int) (m : ByteArray) (p h : Int) (f : Bool) : Prop :=
  w.cell? ⟨b, o, none⟩ = some (.int .i64 v) ∧ w.cell? ⟨b, o + 1, none⟩ = some (.string m) ∧ w.cell? ⟨b, o + 2, none⟩ = some (.int .i64 p) ∧ w.cell? ⟨b, o + 3, none⟩ = some (.int .i64 h) ∧ w.cell? ⟨b, o + 4, none⟩ = some (.bool f)
theorem EBlk.below {w w' : World} {b B : Nat} {x : En} (h : EBlk w b x) (hb : Below B w w') (hB : b < B) : EBlk w' b x := (hb.block b hB).trans h
theorem EBlk.lt {w : World} {b : Nat} {x : En} (h : EBlk w b x) : b < w.heap.size := (Array.getElem?_eq_some_iff.1 h).1
theorem EBlk.next {w w' : World} {b : Nat} {x : En} (h : EBlk w b x) (hb : Below w.heap.size w w') : EBlk w' b x := h.below hb h.lt
theorem eblk_new (w : World) (v : Int) (m : ByteArray) (p h : Int) (f : Bool) : EBlk (w.alloc (.cells #[.int .i64 v, .string m, .int .i64 p, .int .i64 h, .bool f] 41)) w.heap.size ⟨v, m, p, h, f⟩ := heap_alloc_new w _
theorem EBlk.cells {w : World} {b : Nat} {v : Int} {m : ByteArray} {p h : Int} {f : Bool} (H : EBlk w b ⟨v, m, p, h, f⟩) :
    w.cell? ⟨b, 0, none⟩ = some (.int .i64 v) ∧ w.cell? ⟨b, 1, none⟩ = some (.string m) ∧ w.cell? ⟨b, 2, none⟩ = some (.int .i64 p) ∧ w.cell? ⟨b, 3, none⟩ = some (.int .i64 h) ∧ w.cell? ⟨b, 4, none⟩ = some (.bool f) := by
  unfold EBlk at H
  refine ⟨?_, ?_, ?_, ?_, ?_⟩ <;> simp [World.cell?, H]
theorem EBlk.free {w : World} {b : Nat} {x : En} (h : EBlk w b x) (j : Nat) : w.frozen? ⟨b, j, none⟩ = false := by
  unfold EBlk at h
  simp [World.frozen?, h]

theorem row2_new (w : World) (x y : Int) : (w.alloc (.cells #[.int .i64 x, .int .i64 y] 3)).cell? ⟨w.heap.size, 0, none⟩ = some (.int .i64 x) ∧ (w.alloc (.cells #[.int .i64 x, .int .i64 y] 3)).cell? ⟨w.heap.size, 1, none⟩ = some (.int .i64 y) := by
  have h := heap_alloc_new w (.cells #[.int .i64 x, .int .i64 y] 3)
  constructor <;> (simp only [World.cell?, h]; rfl)

/-! ### Comparing -/
def cmpI (a b : Int) : Int := if a < b then -1 else if b < a then 1 else 0
def cmpS (a b : ByteArray) : Int := Lib.compareBytes a.data.toList b.data.toList
def cfE (x y : En) : Int := if cmpI x.vlan y.vlan = 0 then cmpS x.mac y.mac else cmpI x.vlan y.vlan
def cfH (x y : En) : Int := cmpI x.heard y.heard
theorem comp_list (a b : List UInt8) : (Lib.compareBytes a b < 0 ↔ a < b) ∧ (Lib.compareBytes a b = 0 ↔ a = b) := by
  induction a generalizing b with
  | nil =>
    cases b with
    | nil => simp [Lib.compareBytes]
    | cons y b => simp [Lib.compareBytes]
  | cons x a ih =>
    cases b with
    | nil => simp [Lib.compareBytes]
    | cons y b =>
      unfold Lib.compareBytes
      by_cases h1 : x < y
      · rw [if_pos h1]
        have : ¬ x = y := fun e => by subst e; exact absurd h1 (UInt8.lt_irrefl x)
        simp [List.cons_lt_cons_iff, h1, this]
      · rw [if_neg h1]
        by_cases h2 : y < x
        · rw [if_pos h2]
          have h3 : ¬ x = y := fun e => by subst e; exact absurd h2 (UInt8.lt_irrefl x)
          simp [List.cons_lt_cons_iff, h1, h3]
        · rw [if_neg h2]
          have e : x = y := by
            have a1 : ¬ x.toNat < y.toNat := fun h => h1 (UInt8.lt_iff_toNat_lt.2 h)
            have a2 : ¬ y.toNat < x.toNat := fun h => h2 (UInt8.lt_iff_toNat_lt.2 h)
            exact UInt8.toNat_inj.1 (by omega)
          subst e
          have := ih b
          simp [List.cons_lt_cons_iff, UInt8.lt_irrefl, this.1, this.2]
theorem cfE_lt (x y : En) : cfE x y < 0 ↔ x.key.lt y.key := by
  have h := comp_list x.mac.data.toList y.mac.data.toList
  unfold cfE cmpS Ky.lt En.key cmpI
  rw [ByteArray.toList_eq, ByteArray.toList_eq]
  by_cases h1 : x.vlan < y.vlan
  · simp [h1]
  · by_cases h2 : y.vlan < x.vlan
    · have : ¬ x.vlan = y.vlan := by omega
      simp [h1, h2, this]
    · have : x.vlan = y.vlan := by omega
      simp [this, h.1]

set_option maxHeartbeats 400000 in
theorem nan_any (a : Int) (w : World) :
    Calls Try.prog 47 #[.int .i64 a] w fun e w' => e = .returned (.bool false) ∧ w = w' := by
  go_enter Try.func47, Try.ntmps47
  go_wp2
  all_goals go_ret
  all_goals first | exact ⟨rfl, rfl⟩ | (refine ⟨ret_bool ?_, rfl⟩; simp)

set_option maxHeartbeats 400000 in
theorem cmp_any (a b : Int) (w : World) :
    Calls Try.prog 29 #[.int .i64 a, .int .i64 b] w fun e w' => e = .returned (.int .i64 (cmpI a b)) ∧ w = w' := by
  go_enter Try.func29, Try.ntmps29
  go_wp2_with (go_at_call 47; refine (nan_any _ _).mono ?_; rintro e w' ⟨rfl, rfl⟩)
  all_goals go_ret
  all_goals refine ⟨ret_int ?_, rfl⟩
  all_goals (unfold cmpI; repeat' split)
  all_goals omega
theorem cmp_w (a b X : Int) (w : World) (hX : Hid (cmpI a b = X)) :
    Calls Try.prog 29 #[.int .i64 a, .int .i64 b] w fun e w' => e = .returned (.int .i64 X) ∧ w = w' := by
  have H := cmp_any a b w
  rw [hX.out] at H
  exact H

set_option maxHeartbeats 400000 in
theorem bytealg_any (a b : ByteArray) (w : World) :
    Calls Try.prog 48 #[.string a, .string b] w fun e w' => e = .returned (.int .i64 (cmpS a b)) ∧ w = w' := by
  go_enter Try.func48, Try.ntmps48
  go_wp2
  rw [run_callFunc_extern Try.func61 (by kernel_rfl) (by kernel_rfl) (by kernel_rfl) (e := Extern.BytealgCompare.compare) (by kernel_rfl), Lib.run_compareString]
  simp only [Result.andThen]
  rw [Oper.upon_value]
  go_wp2
  go_ret
  exact ⟨rfl, rfl⟩
theorem bytealg_w (a b : ByteArray) (X : Int) (w : World) (hX : Hid (cmpS a b = X)) :
    Calls Try.prog 48 #[.string a, .string b] w fun e w' => e = .returned (.int .i64 X) ∧ w = w' := by
  have H := bytealg_any a b w
  rw [hX.out] at H
  exact H
set_option maxHeartbeats 400000 in
theorem strcmp_w (a b : ByteArray) (X : Int) (w : World) (hX : Hid (cmpS a b = X)) :
    Calls Try.prog 30 #[.string a, .string b] w fun e w' => e = .returned (.int .i64 X) ∧ w = w' := by
  go_enter Try.func30, Try.ntmps30
  go_wp2_with (go_at_call 48; refine (bytealg_w _ _ _ _ hX).mono ?_; rintro e w' ⟨rfl, rfl⟩)
  go_ret
  exact ⟨rfl, rfl⟩

set_option maxHeartbeats 400000 in
theorem or_w (b : Nat) (x y X : Int) (w : World) (h0 : w.cell? ⟨b, 0, none⟩ = some (.int .i64 x)) (h1 : w.cell? ⟨b, 1, none⟩ = some (.int .i64 y)) (hX : Hid ((if x = 0 then y else x) = X)) :
    Calls Try.prog 28 #[.slice (some ⟨b, 0, none⟩) 2 2] w fun e w' => e = .returned (.int .i64 X) ∧ w = w' := by
  have hx := hX.out
  by_cases hx0 : x = 0
  · rw [if_pos hx0] at hx
    subst hx0 hx
    by_cases hy0 : y = 0
    · subst hy0
      go_enter Try.func28, Try.ntmps28
      go_wp2_with fail
      refine wp_loop_rounds 3 ?_
      rw [rounds_succ]
      go_wp2
      rw [rounds_succ]
      go_wp2
      rw [rounds_succ]
      go_wp2
      go_ret
      exact ⟨rfl, rfl⟩
    · go_enter Try.func28, Try.ntmps28
      go_wp2_with fail
      refine wp_loop_rounds 2 ?_
      rw [rounds_succ]
      go_wp2
      rw [rounds_succ]
      go_wp2
      go_ret
      exact ⟨rfl, rfl⟩
  · rw [if_neg hx0] at hx
    subst hx
    go_enter Try.func28, Try.ntmps28
    go_wp2_with fail
    refine wp_loop_rounds 1 ?_
    rw [rounds_succ]
    go_wp2
    go_ret
    exact ⟨rfl, rfl⟩

/-! ### The atomic -/
set_option maxHeartbeats 400000 in
theorem add_any (b o : Nat) (x : Int) (w : World) (h0 : 0 ≤ x) (h1 : x ≤ 1000000000) (hc : w.cell? ⟨b, o, none⟩ = some (.int .i64 x)) (hz : w.frozen? ⟨b, o, none⟩ = false) :
    Calls Try.prog 35 #[.pointer (some ⟨b, o, none⟩), .int .i64 1] w fun e w' => e = .returned (.int .i64 (x + 1)) ∧ w.setCell ⟨b, o, none⟩ (.int .i64 (x + 1)) = w' := by
  have hadd := run_call_add (P := Try.prog) Try.func56 (by kernel_rfl) (by kernel_rfl) (by kernel_rfl) .i64 (by kernel_rfl) (y := 1) (s := x + 1) hc hz (by simp [go_sem, IntKind.wrap_i64]; omega)
  go_enter Try.func35, Try.ntmps35
  go_wp2
  go_ret
  exact ⟨rfl, rfl⟩

set_option maxHeartbeats 400000 in
theorem load_any (b o : Nat) (x : Int) (w : World) (hc : w.cell? ⟨b, o, none⟩ = some (.int .i64 x)) :
    Calls Try.prog 31 #[.pointer (some ⟨b, o, none⟩)] w fun e w' => e = .returned (.int .i64 x) ∧ w = w' := by
  have hl := run_call_load (P := Try.prog) Try.func49 (by kernel_rfl) (by kernel_rfl) (by kernel_rfl) .i64 (by kernel_rfl) hc
  go_enter Try.func31, Try.ntmps31
  go_wp2
  go_ret
  exact ⟨rfl, rfl⟩

/-! ### What may be asked -/
set_option maxHeartbeats 400000 in
theorem within_any (n a b : Int) (w : World) :
    Calls Try.prog 18 #[.int .i64 n, .int .i64 a, .int .i64 b] w fun e w' => e = .returned (.bool (decide (a ≤ n ∧ n ≤ b))) ∧ w = w' := by
  go_enter Try.func18, Try.ntmps18
  go_wp2
  all_goals go_ret
  all_goals refine ⟨ret_bool ?_, rfl⟩
  all_goals (rw [Bool.eq_iff_iff]; simp; omega)

theorem nat_mask1 (n : Nat) : n &&& 1 = n % 2 := Nat.and_two_pow_sub_one_eq_mod n 1
theorem and1_u8 (b : UInt8) : (bits BinOp.and IntKind.u8 (b.toNat : Int) 1 != 0) = decide (b.toNat % 2 = 1) := by
  have hb := UInt8.toNat_lt b
  have h : bits BinOp.and IntKind.u8 (b.toNat : Int) 1 = ((b.toNat % 2 : Nat) : Int) := by
    show IntKind.u8.wrap ((BitVec.ofInt 8 (b.toNat : Int) &&& BitVec.ofInt 8 1).toNat : Int) = _
    rw [BitVec.toNat_and, IntKind.wrap_u8]
    have e1 : (BitVec.ofInt 8 (b.toNat : Int)).toNat = b.toNat := by rw [BitVec.toNat_ofInt]; omega
    have e2 : (BitVec.ofInt 8 1).toNat = 1 := rfl
    rw [e1, e2, nat_mask1]
    omega
  rw [h, Bool.eq_iff_iff]; simp; omega

set_option maxHeartbeats 400000 in
theorem group_any (s : ByteArray) (w : World) (hs : s.size = 6) :
    Calls Try.prog 50 #[.string s] w fun e w' => e = .returned (.bool (grp6 s)) ∧ w = w' := by
  go_enter Try.func50, Try.ntmps50
  go_wp2
  go_ret
  refine ⟨ret_bool ?_, rfl⟩
  rw [and1_u8]
  unfold grp6
  have h : 0 < s.data.size := by show 0 < s.size; omega
  have : s.data.getD 0 0 = s.data[0] := by unfold Array.getD; rw [dif_pos h]; rfl
  rw [this]
  rfl

set_option maxHeartbeats 1000000 in
theorem wrong_any (v : Int) (m : ByteArray) (p now : Int) (w : World) (hm : m.size ≤ maxLen) :
    Calls Try.prog 33 #[.int .i64 v, .string m, .int .i64 p, .int .i64 now] w fun e w' => e = .returned (.int .i64 (askedR v m p now)) ∧ w = w' := by
  unfold maxLen at hm
  by_cases h6 : m.size = 6
  · obtain ⟨G, hG⟩ : ∃ G, grp6 m = G := ⟨_, rfl⟩
    have hg : ∀ w, Calls Try.prog 50 #[.string m] w fun e w' => e = .returned (.bool G) ∧ w = w' := fun w => by
      have := group_any m w h6
      rw [hG] at this
      exact this
    go_enter Try.func33, Try.ntmps33
    go_wp2_with (first
      | (go_at_call 18; refine (within_any _ _ _ _).mono ?_; rintro e w' ⟨rfl, rfl⟩)
      | (go_at_call 50; refine (hg _).mono ?_; rintro e w' ⟨rfl, rfl⟩))
    all_goals go_ret
    all_goals refine ⟨ret_int ?_, rfl⟩
    all_goals (unfold askedR; rw [hG]; cases G <;> simp_all <;> omega)
  · go_enter Try.func33, Try.ntmps33
    go_wp2_with (first
      | (go_at_call 18; refine (within_any _ _ _ _).mono ?_; rintro e w' ⟨rfl, rfl⟩))
    all_goals go_ret
    all_goals refine ⟨ret_int ?_, rfl⟩
    all_goals (unfold askedR; simp_all <;> omega)

/-! ### Closures -/
set_option maxHeartbeats 400000 in
theorem placeOf_any (x : En) (w : World) :
    Calls Try.prog 55 #[ev x] w fun e w' => e = .returned (kv x.vlan x.mac) ∧ Grown w w' := by
  obtain ⟨v, m, p, h, f⟩ := x
  go_enter Try.func55, Try.ntmps55
  go_wp2
  obtain ⟨W, hW⟩ : ∃ W, W = (w.alloc (.cells #[.int .i64 v, .string m, .int .i64 p, .int .i64 h, .bool f] 41)).alloc (.cells #[.int .i64 v, .string m] 71) := ⟨_, rfl⟩
  have k : W.heap[w.heap.size + 1]? = some (.cells #[.int .i64 v, .string m] 71 (0, 0)) := by rw [hW, ← size_box w (.cells #[.int .i64 v, .string m, .int .i64 p, .int .i64 h, .bool f] 41)]; exact heap_alloc_new (w.alloc _) _
  have k0 : W.cell? ⟨w.heap.size + 1, 0, none⟩ = some (.int .i64 v) := by simp [World.cell?, k]
  have k1 : W.cell? ⟨w.heap.size + 1, 1, none⟩ = some (.string m) := by simp [World.cell?, k]
  have B : Grown w W := by rw [hW]; exact ((Grown.refl w).alloc _).alloc _
  rw [← hW]
  clear hW k
  exact bodyPost_ret (v := kv v m) (by simp [results, Try.results55, go_sem, k0, k1]) rfl ⟨rfl, B⟩

set_option maxHeartbeats 400000 in
theorem fixed_any (x : En) (w : World) :
    Calls Try.prog 52 #[ev x] w fun e w' => e = .returned (.bool x.fixed) ∧ Grown w w' := by
  obtain ⟨v, m, p, h, f⟩ := x
  go_enter Try.func52, Try.ntmps52
  go_wp2
  go_ret
  exact ⟨rfl, (Grown.refl w).alloc _⟩

set_option maxHeartbeats 400000 in
theorem older_any (x y : En) (w : World) :
    Calls Try.prog 54 #[ev x, ev y] w fun e w' => e = .returned (.int .i64 (cfH x y)) ∧ Grown w w' := by
  obtain ⟨v, m, p, h, f⟩ := x
  obtain ⟨v', m', p', h', f'⟩ := y
  obtain ⟨X, hX⟩ : ∃ X, cmpI h h' = X := ⟨_, rfl⟩
  have e : cfH ⟨v, m, p, h, f⟩ ⟨v', m', p', h', f'⟩ = X := hX
  rw [e]
  clear e
  replace hX := Lib.hid hX
  go_enter Try.func54, Try.ntmps54
  go_wp2_with (go_at_call 29; refine (cmp_w _ _ _ _ hX).mono ?_; rintro e w' ⟨rfl, rfl⟩)
  go_ret
  exact ⟨rfl, ((Grown.refl w).alloc _).alloc _⟩

set_option maxHeartbeats 1000000 in
theorem order_any (x y : En) (w : World) :
    Calls Try.prog 27 #[ev x, ev y] w fun e w' => e = .returned (.int .i64 (cfE x y)) ∧ Grown w w' := by
  obtain ⟨v, m, p, h, f⟩ := x
  obtain ⟨v', m', p', h', f'⟩ := y
  obtain ⟨X, hX⟩ : ∃ X, cmpI v v' = X := ⟨_, rfl⟩
  obtain ⟨Y, hY⟩ : ∃ Y, cmpS m m' = Y := ⟨_, rfl⟩
  obtain ⟨R, hR⟩ : ∃ R, (if X = 0 then Y else X) = R := ⟨_, rfl⟩
  have e : cfE ⟨v, m, p, h, f⟩ ⟨v', m', p', h', f'⟩ = R := by
    unfold cfE
    simp only
    rw [hX, hY]; exact hR
  rw [e]
  clear e
  replace hX := Lib.hid hX
  replace hY := Lib.hid hY
  replace hR := Lib.hid hR
  go_enter Try.func27, Try.ntmps27
  go_wp2_with fail
  obtain ⟨W, hW⟩ : ∃ W, W = (w.alloc (.cells #[.int .i64 v, .string m, .int .i64 p, .int .i64 h, .bool f] 41)).alloc (.cells #[.int .i64 v', .string m', .int .i64 p', .int .i64 h', .bool f'] 41) := ⟨_, rfl⟩
  have B : Grown w W := by rw [hW]; exact ((Grown.refl w).alloc _).alloc _
  have k1 : EBlk W (w.heap.size + 1) ⟨v', m', p', h', f'⟩ := by rw [hW, ← size_box w (.cells #[.int .i64 v, .string m, .int .i64 p, .int .i64 h, .bool f] 41)]; exact eblk_new _ _ _ _ _ _
  have k0 : EBlk W w.heap.size ⟨v, m, p, h, f⟩ := by rw [hW]; exact (eblk_new w v m p h f).next (below_box _ _)
  obtain ⟨nb, hnb⟩ : ∃ nb, nb = w.heap.size := ⟨_, rfl⟩
  rw [← hnb] at k0 k1
  rw [← hW, ← hnb]
  clear hW hnb
  have l0 := k0.lt
  have l1 := k1.lt
  have cellsOf : ∀ w' : World, Below W.heap.size W w' → (w'.cell? ⟨nb, 0, none⟩ = some (.int .i64 v) ∧ w'.cell? ⟨nb, 1, none⟩ = some (.string m) ∧ w'.cell? ⟨nb + 1, 0, none⟩ = some (.int .i64 v') ∧ w'.cell? ⟨nb + 1, 1, none⟩ = some (.string m')) := fun w' hb =>
    ⟨((k0.below hb l0).cells).1, ((k0.below hb l0).cells).2.1, ((k1.below hb l1).cells).1, ((k1.below hb l1).cells).2.1⟩
  have HC := Lib.hid cellsOf
  have S0 := cellsOf W (Below.refl _ _)
  have S1 := cellsOf W.drew ((Below.refl _ _).drew)
  have C0 := Lib.hid (fun w' => (cmp_w v v' X w' hX).mono (R' := fun e w'' => e = .returned (.int .i64 X) ∧ Grown w' w'') (fun e w'' ⟨he, hw⟩ => ⟨he, hw ▸ Grown.refl _⟩))
  have C1 := Lib.hid (fun w' => (strcmp_w m m' Y w' hY).mono (R' := fun e w'' => e = .returned (.int .i64 Y) ∧ Grown w' w'') (fun e w'' ⟨he, hw⟩ => ⟨he, hw ▸ Grown.refl _⟩))
  clear cellsOf
  go_region_held3 (fun w' => (w'.cell? ⟨nb, 0, none⟩ = some (.int .i64 v) ∧ w'.cell? ⟨nb, 1, none⟩ = some (.string m) ∧ w'.cell? ⟨nb + 1, 0, none⟩ = some (.int .i64 v') ∧ w'.cell? ⟨nb + 1, 1, none⟩ = some (.string m'))) (first | exact S0 | exact S1 | exact T0 | exact T1 | exact T2) (first
    | (go_at_call 29; (with_reducible refine (C0.out _).mono ?_); rintro e y0 ⟨rfl, g0⟩; have G0 := ((Grown.refl W).drew).trans g0; have T0 := HC.out _ G0.below)
    | (go_at_call 30; (with_reducible refine (C1.out _).mono ?_); rintro e y1 ⟨rfl, g1⟩; have G1 := G0.trans g1; have T1 := HC.out _ G1.below; have T2 := HC.out _ (G1.alloc (.cells #[.int .i64 X, .int .i64 Y] 3)).below; have q0 := (row2_new y1 X Y).1; have q1 := (row2_new y1 X Y).2)
    | (go_at_call 28; (with_reducible refine (or_w _ X Y R _ q0 q1 hR).mono ?_); rintro e y2 ⟨rfl, rfl⟩))
  all_goals go_wp2_with fail
  all_goals go_ret
  all_goals exact ⟨rfl, B.trans (G1.alloc _)⟩

/-- A block of one number. -/
def OneI (w : World) (b : Nat) (n : Int) : Prop := w.heap[b]? = some (.cells #[.int .i64 n] 3 (0, 0))
theorem OneI.below {w w' : World} {b B : Nat} {n : Int} (h : OneI w b n) (hb : Below B w w') (hB : b < B) : OneI w' b n := (hb.block b hB).trans h
theorem OneI.lt {w : World} {b : Nat} {n : Int} (h : OneI w b n) : b < w.heap.size := (Array.getElem?_eq_some_iff.1 h).1
theorem OneI.cell {w : World} {b : Nat} {n : Int} (h : OneI w b n) : w.cell? ⟨b, 0, none⟩ = some (.int .i64 n) := by unfold OneI at h; simp [World.cell?, h]
theorem onei_new (w : World) (n : Int) : OneI (w.alloc (.cells #[.int .i64 n] 3)) w.heap.size n := heap_alloc_new w _

set_option maxHeartbeats 1000000 in
theorem aged_any (x : En) (b1 b2 : Nat) (now long : Int) (w : World) (hn : -9223372036854775808 ≤ now ∧ now ≤ 9223372036854775807) (hx : 0 ≤ x.heard) (h1 : OneI w b1 now) (h2 : OneI w b2 long) :
    Calls Try.prog 39 #[ev x, .pointer (some ⟨b1, 0, none⟩), .pointer (some ⟨b2, 0, none⟩)] w fun e w' => e = .returned (.bool (!staysA now long x)) ∧ Grown w w' := by
  obtain ⟨v, m, p, h, f⟩ := x
  simp only at hx
  have c1 := h1.cell
  have c2 := h2.cell
  have l1 := h1.lt
  have l2 := h2.lt
  clear h1 h2
  cases f with
  | true =>
    go_enter Try.func39, Try.ntmps39
    go_wp2
    go_ret
    exact ⟨rfl, (Grown.refl w).alloc _⟩
  | false =>
    by_cases hh : h ≤ now
    · go_enter Try.func39, Try.ntmps39
      go_wp2
      all_goals go_ret
      all_goals refine ⟨ret_bool ?_, (Grown.refl w).alloc _⟩
      all_goals (unfold staysA; rw [Bool.eq_iff_iff]; simp; omega)
    · go_enter Try.func39, Try.ntmps39
      go_wp2
      all_goals go_ret
      all_goals refine ⟨ret_bool ?_, (Grown.refl w).alloc _⟩
      all_goals (unfold staysA; try (rw [Bool.eq_iff_iff]); simp; omega)

set_option maxHeartbeats 1000000 in
theorem flushed_any (x : En) (b1 b2 : Nat) (vl po : Int) (w : World) (h1 : OneI w b1 vl) (h2 : OneI w b2 po) :
    Calls Try.prog 43 #[ev x, .pointer (some ⟨b1, 0, none⟩), .pointer (some ⟨b2, 0, none⟩)] w fun e w' => e = .returned (.bool (!staysF vl po x)) ∧ Grown w w' := by
  obtain ⟨v, m, p, h, f⟩ := x
  have c1 := h1.cell
  have c2 := h2.cell
  have l1 := h1.lt
  have l2 := h2.lt
  clear h1 h2
  cases f with
  | true =>
    go_enter Try.func43, Try.ntmps43
    go_wp2
    go_ret
    exact ⟨rfl, (Grown.refl w).alloc _⟩
  | false =>
    go_enter Try.func43, Try.ntmps43
    go_wp2
    all_goals go_ret
    all_goals refine ⟨ret_bool ?_, (Grown.refl w).alloc _⟩
    all_goals (unfold staysF; rw [Bool.eq_iff_iff]; simp_all)
end Go.Proofs.Ytkpfdaomhkcokaa
