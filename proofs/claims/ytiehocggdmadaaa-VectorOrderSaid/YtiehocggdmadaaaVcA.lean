/-
  Walks of layer 5: within, cmp.Compare, parts, Compare, better, sentBy, Supersedes, Raise, Port.
-/
import Derived.Test.YtiehocggdmadaaaRows
import Derived.Test.YtiehocggdmadaaaVcMath
import Derived.Test.YtiehocggdmadaaaBpMath
import Derived.WalkKit
import Derived.WalkSpells
import Derived.WalkLawsBesides
import Derived.Lib.Hide
import Derived.Deep.Light
import Derived.Lib.AppendStr
import Derived.Laws.IdiomStrings
import Derived.Deep.QuietTactic
import Derived.BigQuiet
import Derived.Deep.RegionWith
import Derived.Deep.RegionHeld3
import Derived.Deep.DeepCutAuto
import Derived.Lib.SmallJoins
import Derived.LoopN
namespace Go.Proofs.Ytiehocggdmadaaa
set_option linter.unusedVariables false
set_option linter.unusedSimpArgs false
open Go.RowKit Vm

theorem ret_bool {a b : Bool} (h : a = b) : Ending.returned (.bool a) = .returned (.bool b) := by rw [h]
theorem ret_int {k : IntKind} {a b : Int} (h : a = b) : Ending.returned (.int k a) = .returned (.int k b) := by rw [h]
theorem below_box (w : World) (o : Obj) : Below w.heap.size w (w.alloc o) := (Below.refl _ _).alloc (Nat.le_refl _) o
theorem size_box (w : World) (o : Obj) : (w.alloc o).heap.size = w.heap.size + 1 := by simp
theorem bw_trans {a b c : World} (h : Below a.heap.size a b) (k : Below b.heap.size b c) : Below a.heap.size a c := h.trans (k.mono h.size)
theorem bw_alloc {a b : World} (h : Below a.heap.size a b) (o : Obj) : Below a.heap.size a (b.alloc o) := h.alloc h.size o

abbrev vv (r c b p : Int) : Value := .agg #[.int .u64 r, .int .u64 c, .int .u64 b, .int .u64 p]
abbrev Vm.Vc.val (v : Vc) : Value := vv v.root v.cost v.bridge v.port

/-- Block b holds just these four numbers, as a block of type T, none of them frozen. -/
def Blk (T : TypeId) (w : World) (b : Nat) (x : Vc) : Prop :=
  w.heap[b]? = some (.cells #[.int .u64 x.root, .int .u64 x.cost, .int .u64 x.bridge, .int .u64 x.port] T (0, 0))
def Boxed (w : World) (b : Nat) (r c br p : Int) : Prop :=
  w.cell? ⟨b, 0, none⟩ = some (.int .u64 r) ∧ w.cell? ⟨b, 1, none⟩ = some (.int .u64 c) ∧ w.cell? ⟨b, 2, none⟩ = some (.int .u64 br) ∧ w.cell? ⟨b, 3, none⟩ = some (.int .u64 p)
theorem Blk.below {T : TypeId} {w w' : World} {b B : Nat} {x : Vc} (h : Blk T w b x) (hb : Below B w w') (hB : b < B) : Blk T w' b x := (hb.block b hB).trans h
theorem Blk.lt {T : TypeId} {w : World} {b : Nat} {x : Vc} (h : Blk T w b x) : b < w.heap.size := (Array.getElem?_eq_some_iff.1 h).1
theorem Blk.next {T : TypeId} {w w' : World} {b : Nat} {x : Vc} (h : Blk T w b x) (hb : Below w.heap.size w w') : Blk T w' b x := h.below hb h.lt
theorem blk_new (T : TypeId) (w : World) (r c b p : Int) : Blk T (w.alloc (.cells #[.int .u64 r, .int .u64 c, .int .u64 b, .int .u64 p] T)) w.heap.size ⟨r, c, b, p⟩ := heap_alloc_new w _
theorem Blk.cells {T : TypeId} {w : World} {b : Nat} {r c br p : Int} (H : Blk T w b ⟨r, c, br, p⟩) : Boxed w b r c br p := by
  unfold Blk at H
  refine ⟨?_, ?_, ?_, ?_⟩ <;> simp [World.cell?, H]
theorem Blk.free {T : TypeId} {w : World} {b : Nat} {x : Vc} (h : Blk T w b x) (j : Nat) : w.frozen? ⟨b, j, none⟩ = false := by
  unfold Blk at h
  simp [World.frozen?, h]
/-- The lowest bits of a number of 64 bits. -/
theorem u64_mask (n : Int) (k : Nat) (hk : k < 64) (h : u64B n) : bits .and .u64 n ((2 ^ k - 1 : Nat) : Int) = n % ((2 ^ k : Nat) : Int) := by
  obtain ⟨h0, h1⟩ := h
  obtain ⟨N, rfl⟩ := Int.eq_ofNat_of_zero_le h0
  have hp : 2 ^ k < 2 ^ 64 := Nat.pow_lt_pow_right (by omega) hk
  show IntKind.u64.wrap ((BitVec.ofInt 64 (N : Int) &&& BitVec.ofInt 64 ((2 ^ k - 1 : Nat) : Int)).toNat : Int) = _
  rw [BitVec.toNat_and, Bm.ofInt_any, Bm.ofInt_any, IntKind.wrap_u64]
  have e1 : ((N : Int) % 18446744073709551616).toNat = N := by omega
  have e2 : (((2 ^ k - 1 : Nat) : Int) % 18446744073709551616).toNat = 2 ^ k - 1 := by omega
  rw [e1, e2, Nat.and_two_pow_sub_one_eq_mod]
  have := Nat.mod_le N (2 ^ k)
  omega
theorem u64_sum (x y : Int) (k K : Nat) (hK : K = 2 ^ k) (hx : u64B x) (hd : x % (K : Int) = 0) (hy : 0 ≤ y ∧ y < (K : Int)) (hk : K ≤ 18446744073709551616) : bits .or .u64 x y = x + y := by
  obtain ⟨h0, h1⟩ := hx
  obtain ⟨X, rfl⟩ := Int.eq_ofNat_of_zero_le h0
  obtain ⟨Y, rfl⟩ := Int.eq_ofNat_of_zero_le hy.1
  have hY : Y < 2 ^ k := by omega
  have hX : X % 2 ^ k = 0 := by rw [← hK]; omega
  rw [Bm.u64_or_nat X Y (by omega) (by omega), nat_join k X Y hX hY]
  omega
theorem ret_pair {a b K E : Int} (h1 : a = K) (h2 : b = E) : Ending.returned (.tuple #[.int .u64 a, .int .i64 b]) = .returned (.tuple #[.int .u64 K, .int .i64 E]) := by rw [h1, h2]
theorem mask_48 (n : Int) (h : u64B n) : bits .and .u64 n 281474976710655 = n % 281474976710656 := u64_mask n 48 (by omega) h
theorem mask_12 (n : Int) (h : u64B n) : bits .and .u64 n 4095 = n % 4096 := u64_mask n 12 (by omega) h
theorem cmpN_rest (a b k : Int) : cmpN a b k = if cmpN a b 0 = 0 then k else cmpN a b 0 := by
  unfold cmpN
  repeat' split
  all_goals omega

set_option maxHeartbeats 400000 in
theorem within_any (n a b : Int) (w : World) :
    Calls Try.prog 15 #[.int .i64 n, .int .i64 a, .int .i64 b] w fun e w' => e = .returned (.bool (decide (a ≤ n ∧ n ≤ b))) ∧ w = w' := by
  go_enter Try.func15, Try.ntmps15
  go_wp2
  all_goals go_ret
  all_goals refine ⟨ret_bool ?_, rfl⟩
  all_goals (rw [Bool.eq_iff_iff]; simp; omega)

set_option maxHeartbeats 400000 in
theorem nan_any (a : Int) (w : World) :
    Calls Try.prog 21 #[.int .u64 a] w fun e w' => e = .returned (.bool false) ∧ w = w' := by
  go_enter Try.func21, Try.ntmps21
  go_wp2
  all_goals go_ret
  all_goals first | exact ⟨rfl, rfl⟩ | (refine ⟨ret_bool ?_, rfl⟩; simp)

set_option maxHeartbeats 400000 in
theorem cmp_any (a b : Int) (w : World) :
    Calls Try.prog 18 #[.int .u64 a, .int .u64 b] w fun e w' => e = .returned (.int .i64 (cmpN a b 0)) ∧ w = w' := by
  go_enter Try.func18, Try.ntmps18
  go_wp2_with (go_at_call 21; refine (nan_any _ _).mono ?_; rintro e w' ⟨rfl, rfl⟩)
  all_goals go_ret
  all_goals refine ⟨ret_int ?_, rfl⟩
  all_goals (unfold cmpN; repeat' split)
  all_goals omega

theorem cmp_w (a b X : Int) (w : World) (hX : Hid (cmpN a b 0 = X)) :
    Calls Try.prog 18 #[.int .u64 a, .int .u64 b] w fun e w' => e = .returned (.int .i64 X) ∧ w = w' := by
  have H := cmp_any a b w
  rw [hX.out] at H
  exact H

set_option maxHeartbeats 400000 in
theorem parts_any (r c b p : Int) (w : World) :
    Calls Try.prog 17 #[vv r c b p] w fun e w' => e = .returned (vv r c b p) ∧ Below w.heap.size w w' := by
  go_enter Try.func17, Try.ntmps17
  go_wp2
  have K := (blk_new 45 (w.alloc (.cells #[.int .u64 r, .int .u64 c, .int .u64 b, .int .u64 p] 31)) r c b p).cells
  rw [size_box] at K
  obtain ⟨k0, k1, k2, k3⟩ := K
  exact bodyPost_ret (v := vv r c b p) (by simp [results, Try.results17, go_sem, k0, k1, k2, k3]) rfl ⟨rfl, bw_alloc (below_box _ _) _⟩

set_option maxHeartbeats 400000 in
theorem sent_any (r c b p : Int) (w : World) (hb : u64B b) (hp : u64B p) :
    Calls Try.prog 20 #[vv r c b p] w fun e w' => e = .returned (.agg #[.int .u64 (b % 281474976710656), .int .u64 (p % 4096)]) ∧ Below w.heap.size w w' := by
  go_enter Try.func20, Try.ntmps20
  go_wp2
  rw [mask_48 b hb, mask_12 p hp]
  obtain ⟨W, hW⟩ : ∃ W, W = (w.alloc (.cells #[.int .u64 r, .int .u64 c, .int .u64 b, .int .u64 p] 31)).alloc (.cells #[.int .u64 (b % 281474976710656), .int .u64 (p % 4096)] 49) := ⟨_, rfl⟩
  have k : W.heap[w.heap.size + 1]? = some (.cells #[.int .u64 (b % 281474976710656), .int .u64 (p % 4096)] 49 (0, 0)) := by rw [hW, ← size_box w (.cells #[.int .u64 r, .int .u64 c, .int .u64 b, .int .u64 p] 31)]; exact heap_alloc_new (w.alloc _) _
  have k0 : W.cell? ⟨w.heap.size + 1, 0, none⟩ = some (.int .u64 (b % 281474976710656)) := by simp [World.cell?, k]
  have k1 : W.cell? ⟨w.heap.size + 1, 1, none⟩ = some (.int .u64 (p % 4096)) := by simp [World.cell?, k]
  have B : Below w.heap.size w W := by rw [hW]; exact bw_alloc (below_box _ _) _
  rw [← hW]
  clear hW k
  exact bodyPost_ret (v := .agg #[.int .u64 (b % 281474976710656), .int .u64 (p % 4096)]) (by simp [results, Try.results20, go_sem, k0, k1]) rfl ⟨rfl, B⟩

set_option maxHeartbeats 1000000 in
theorem compare_w (r c b p r' c' b' p' R : Int) (w : World) (hR : Hid (cmpR ⟨r, c, b, p⟩ ⟨r', c', b', p'⟩ = R)) :
    Calls Try.prog 9 #[vv r c b p, vv r' c' b' p'] w fun e w' => e = .returned (.int .i64 R) ∧ Below w.heap.size w w' := by
  obtain ⟨X3, h3⟩ : ∃ X, cmpN p p' 0 = X := ⟨_, rfl⟩
  obtain ⟨X2, h2⟩ : ∃ X, cmpN b b' 0 = X := ⟨_, rfl⟩
  obtain ⟨X1, h1⟩ : ∃ X, cmpN c c' 0 = X := ⟨_, rfl⟩
  obtain ⟨X0, h0⟩ : ∃ X, cmpN r r' 0 = X := ⟨_, rfl⟩
  have e : (if X0 = 0 then if X1 = 0 then if X2 = 0 then X3 else X2 else X1 else X0) = R := by
    rw [← hR.out]
    simp only [cmpR]
    rw [cmpN_rest r, cmpN_rest c, cmpN_rest b, h0, h1, h2, h3]
  have E := Lib.hid e; clear e hR
  have H0 := Lib.hid h0; clear h0
  have H1 := Lib.hid h1; clear h1
  have H2 := Lib.hid h2; clear h2
  have H3 := Lib.hid h3; clear h3
  go_enter Try.func9, Try.ntmps9
  go_wp2_with fail
  refine (parts_any r' c' b' p' _).mono ?_
  rintro e w1 ⟨rfl, hb1⟩
  have k1 := ((blk_new 31 w r c b p).next (below_box _ (.cells #[.int .u64 r', .int .u64 c', .int .u64 b', .int .u64 p'] 31))).next hb1
  have B1 := bw_trans (bw_alloc (below_box w _) _) hb1
  clear hb1
  replace k1 := k1.next (below_box w1 (.cells #[.int .u64 r', .int .u64 c', .int .u64 b', .int .u64 p'] 45))
  have y := k1.cells
  obtain ⟨c0, c1, c2, c3⟩ := y
  go_wp2_with fail
  refine (parts_any r c b p _).mono ?_
  rintro e w2 ⟨rfl, hb2⟩
  have k2 := (blk_new 45 w1 r' c' b' p').next hb2
  have B2 := bw_trans (bw_alloc B1 _) hb2
  clear hb2 k1 B1 c0 c1 c2 c3
  have y := k2.cells
  obtain ⟨c0, c1, c2, c3⟩ := y
  have i0 : ∀ w, (Instr.index 45 (vv r c b p) (.int .i64 0)).run Try.prog w = .ok (.int .u64 r) w := fun _ => by kernel_rfl
  have i1 : ∀ w, (Instr.index 45 (vv r c b p) (.int .i64 1)).run Try.prog w = .ok (.int .u64 c) w := fun _ => by kernel_rfl
  have i2 : ∀ w, (Instr.index 45 (vv r c b p) (.int .i64 2)).run Try.prog w = .ok (.int .u64 b) w := fun _ => by kernel_rfl
  have i3 : ∀ w, (Instr.index 45 (vv r c b p) (.int .i64 3)).run Try.prog w = .ok (.int .u64 p) w := fun _ => by kernel_rfl
  go_wp2_with fail
  refine wp_loop_rounds 5 ?_
  rw [rounds_succ]
  go_wp2_with fail
  refine (cmp_w _ _ X0 _ H0).mono ?_
  rintro e w3 ⟨rfl, rfl⟩
  by_cases z : X0 = 0
  case neg =>
    have e : R = X0 := by rw [← E.out]; simp [z]
    subst e
    have z' : (R == 0) = false := beq_eq_false_iff_ne.2 z
    go_wp2
    go_ret
    exact ⟨rfl, B2⟩
  subst z
  replace E := Lib.hid ((if_pos rfl).symm.trans E.out)
  go_wp2_with fail
  rw [rounds_succ]
  go_wp2_with fail
  refine (cmp_w _ _ X1 _ H1).mono ?_
  rintro e w3 ⟨rfl, rfl⟩
  by_cases z : X1 = 0
  case neg =>
    have e : R = X1 := by rw [← E.out]; simp [z]
    subst e
    have z' : (R == 0) = false := beq_eq_false_iff_ne.2 z
    go_wp2
    go_ret
    exact ⟨rfl, B2⟩
  subst z
  replace E := Lib.hid ((if_pos rfl).symm.trans E.out)
  go_wp2_with fail
  rw [rounds_succ]
  go_wp2_with fail
  refine (cmp_w _ _ X2 _ H2).mono ?_
  rintro e w3 ⟨rfl, rfl⟩
  by_cases z : X2 = 0
  case neg =>
    have e : R = X2 := by rw [← E.out]; simp [z]
    subst e
    have z' : (R == 0) = false := beq_eq_false_iff_ne.2 z
    go_wp2
    go_ret
    exact ⟨rfl, B2⟩
  subst z
  replace E := Lib.hid ((if_pos rfl).symm.trans E.out)
  go_wp2_with fail
  rw [rounds_succ]
  go_wp2_with fail
  refine (cmp_w _ _ X3 _ H3).mono ?_
  rintro e w3 ⟨rfl, rfl⟩
  by_cases z : X3 = 0
  case neg =>
    have e : R = X3 := E.out.symm
    subst e
    have z' : (R == 0) = false := beq_eq_false_iff_ne.2 z
    go_wp2
    go_ret
    exact ⟨rfl, B2⟩
  subst z
  go_wp2_with fail
  rw [rounds_succ]
  go_wp2_with fail
  go_ret
  exact ⟨ret_int E.out, B2⟩

theorem better_w (r c b p r' c' b' p' : Int) (R : Bool) (w : World) (hR : Hid (decide (cmpR ⟨r, c, b, p⟩ ⟨r', c', b', p'⟩ < 0) = R)) :
    Calls Try.prog 19 #[vv r c b p, vv r' c' b' p'] w fun e w' => e = .returned (.bool R) ∧ Below w.heap.size w w' := by
  obtain ⟨X, hX⟩ : ∃ X, cmpR ⟨r, c, b, p⟩ ⟨r', c', b', p'⟩ = X := ⟨_, rfl⟩
  have e := hR.out
  rw [hX] at e
  subst e
  clear hR
  have HX := Lib.hid hX; clear hX
  go_enter Try.func19, Try.ntmps19
  go_wp2_with fail
  refine (compare_w r c b p r' c' b' p' X _ HX).mono ?_
  rintro e w1 ⟨rfl, hb1⟩
  have B1 := bw_trans (bw_alloc (below_box w _) _) hb1
  clear hb1
  go_wp2
  all_goals go_ret
  exact ⟨rfl, B1⟩

theorem within_w (n a b : Int) (R : Bool) (w : World) (hR : Hid (decide (a ≤ n ∧ n ≤ b) = R)) :
    Calls Try.prog 15 #[.int .i64 n, .int .i64 a, .int .i64 b] w fun e w' => e = .returned (.bool R) ∧ w = w' := by
  have H := within_any n a b w
  rw [hR.out] at H
  exact H

theorem run_sndEq (x y x' y' : Int) (w : World) :
    Sem.run Try.prog (binOp .eql 49 (.agg #[.int .u64 x, .int .u64 y]) (.agg #[.int .u64 x', .int .u64 y'])) w = .ok (.bool (decide (x = x' ∧ y = y'))) w := by
  go_simp
  repeat' split
  all_goals simp_all

/-- The cells of two vectors. -/
abbrev Two (w : World) (b1 b2 : Nat) (r c b p r' c' b' p' : Int) : Prop :=
  (w.cell? ⟨b1, 0, none⟩ = some (.int .u64 r) ∧ w.cell? ⟨b1, 1, none⟩ = some (.int .u64 c) ∧ w.cell? ⟨b1, 2, none⟩ = some (.int .u64 b) ∧ w.cell? ⟨b1, 3, none⟩ = some (.int .u64 p)) ∧ (w.cell? ⟨b2, 0, none⟩ = some (.int .u64 r') ∧ w.cell? ⟨b2, 1, none⟩ = some (.int .u64 c') ∧ w.cell? ⟨b2, 2, none⟩ = some (.int .u64 b') ∧ w.cell? ⟨b2, 3, none⟩ = some (.int .u64 p'))

set_option maxHeartbeats 1000000 in
theorem super_w (r c b p r' c' b' p' : Int) (R : Bool) (w : World) (hR : Hid (superB ⟨r, c, b, p⟩ ⟨r', c', b', p'⟩ = R)) (hb : u64B b) (hp : u64B p) (hb' : u64B b') (hp' : u64B p') :
    Calls Try.prog 10 #[vv r c b p, vv r' c' b' p'] w fun e w' => e = .returned (.bool R) ∧ Below w.heap.size w w' := by
  have C1 := Lib.hid (fun w' => sent_any r c b p w' hb hp)
  have C2 := Lib.hid (fun w' => sent_any r' c' b' p' w' hb' hp')
  clear hb hp hb' hp'
  have hq := run_sndEq (b % 281474976710656) (p % 4096) (b' % 281474976710656) (p' % 4096)
  go_enter Try.func10, Try.ntmps10
  go_upto_region 1 with (fail)
  obtain ⟨W, hW⟩ : ∃ W, W = (w.alloc (.cells #[.int .u64 r, .int .u64 c, .int .u64 b, .int .u64 p] 31)).alloc (.cells #[.int .u64 r', .int .u64 c', .int .u64 b', .int .u64 p'] 31) := ⟨_, rfl⟩
  have kW : Blk 31 W w.heap.size ⟨r, c, b, p⟩ := by rw [hW]; exact (blk_new 31 w r c b p).next (below_box _ _)
  have mW : Blk 31 W (w.heap.size + 1) ⟨r', c', b', p'⟩ := by
    have := blk_new 31 (w.alloc (.cells #[.int .u64 r, .int .u64 c, .int .u64 b, .int .u64 p] 31)) r' c' b' p'
    rw [size_box] at this
    rw [hW]; exact this
  have BW : Below w.heap.size w W := by rw [hW]; exact bw_alloc (below_box _ _) _
  rw [← hW]
  clear hW
  have lk := kW.lt
  have lm := mW.lt
  have S0 : Two W w.heap.size (w.heap.size + 1) r c b p r' c' b' p' := ⟨kW.cells, mW.cells⟩
  cases hz : decide (cmpR ⟨r, c, b, p⟩ ⟨r', c', b', p'⟩ < 0) with
  | true =>
    have e : R = true := by rw [← hR.out]; simp only [superB, hz, Bool.true_or]
    subst e
    have C0 := Lib.hid (fun w' => better_w r c b p r' c' b' p' true w' (Lib.hid hz))
    clear hz hR C1 C2 hq
    obtain ⟨⟨c0, c1, c2, c3⟩, ⟨d0, d1, d2, d3⟩⟩ := S0
    go_region_with (go_at_call 19; (with_reducible refine (C0.out _).mono ?_); rintro e y0 ⟨rfl, hb0⟩)
    all_goals go_wp2_with fail
    all_goals go_ret
    all_goals exact ⟨rfl, bw_trans BW (((Below.refl W.heap.size W).drew).trans hb0)⟩
  | false =>
    have e : R = sameB ⟨r, c, b, p⟩ ⟨r', c', b', p'⟩ := by rw [← hR.out]; simp only [superB, hz, Bool.false_or]
    subst e
    have C0 := Lib.hid (fun w' => better_w r c b p r' c' b' p' false w' (Lib.hid hz))
    clear hz hR
    go_region_held3 (fun w' => Two w' w.heap.size (w.heap.size + 1) r c b p r' c' b' p') (first | exact S0 | exact T0 | exact T1 | exact T2) (first
      | (go_at_call 19; (with_reducible refine (C0.out _).mono ?_); rintro e y0 ⟨rfl, hb0⟩; have D0 := ((Below.refl W.heap.size W).drew).trans hb0; have T0 : Two y0 w.heap.size (w.heap.size + 1) r c b p r' c' b' p' := ⟨(kW.below D0 lk).cells, (mW.below D0 lm).cells⟩)
      | (go_at_call 20; (with_reducible refine (C1.out _).mono ?_); rintro e y1 ⟨rfl, hb1⟩; have D1 := bw_trans D0 hb1; have T1 : Two y1 w.heap.size (w.heap.size + 1) r c b p r' c' b' p' := ⟨(kW.below D1 lk).cells, (mW.below D1 lm).cells⟩)
      | (go_at_call 20; (with_reducible refine (C2.out _).mono ?_); rintro e y2 ⟨rfl, hb2⟩; have D2 := bw_trans D1 hb2; have T2 : Two y2 w.heap.size (w.heap.size + 1) r c b p r' c' b' p' := ⟨(kW.below D2 lk).cells, (mW.below D2 lm).cells⟩))
    all_goals go_wp2_with fail
    all_goals go_ret
    all_goals exact ⟨ret_bool (by simp [sameB]), bw_trans BW D2⟩

set_option maxHeartbeats 1000000 in
theorem raise_any (r c b p m : Int) (w : World) (hc : u64B c) (hm : u64B m) :
    Calls Try.prog 12 #[vv r c b p, .int .u64 m] w fun e w' => e = .returned (raiseR ⟨r, c, b, p⟩ m).val ∧ Below w.heap.size w w' := by
  obtain ⟨hc0, hc1⟩ := hc
  obtain ⟨hm0, hm1⟩ := hm
  go_enter Try.func12, Try.ntmps12
  by_cases h1 : 4294967295 < c
  · go_wp2
    have K := (blk_new 31 (w.alloc (.cells #[.int .u64 r, .int .u64 (4294967295), .int .u64 b, .int .u64 p] 31)) r (4294967295) b p).cells
    rw [size_box] at K
    obtain ⟨k0, k1, k2, k3⟩ := K
    have e : (raiseR ⟨r, c, b, p⟩ m).val = vv r (4294967295) b p := by
      rw [raise_hi (by unfold topC; omega)]
    exact bodyPost_ret (v := vv r (4294967295) b p) (by simp [results, Try.results12, go_sem, k0, k1, k2, k3]) rfl ⟨by rw [e], bw_alloc (below_box _ _) _⟩
  · by_cases h2 : 4294967295 - c < m
    · go_wp2
      have K := (blk_new 31 (w.alloc (.cells #[.int .u64 r, .int .u64 (4294967295), .int .u64 b, .int .u64 p] 31)) r (4294967295) b p).cells
      rw [size_box] at K
      obtain ⟨k0, k1, k2, k3⟩ := K
      have e : (raiseR ⟨r, c, b, p⟩ m).val = vv r (4294967295) b p := by
        rw [raise_hi (by unfold topC; omega)]
      exact bodyPost_ret (v := vv r (4294967295) b p) (by simp [results, Try.results12, go_sem, k0, k1, k2, k3]) rfl ⟨by rw [e], bw_alloc (below_box _ _) _⟩
    · go_wp2
      have K := (blk_new 31 (w.alloc (.cells #[.int .u64 r, .int .u64 (c + m), .int .u64 b, .int .u64 p] 31)) r (c + m) b p).cells
      rw [size_box] at K
      obtain ⟨k0, k1, k2, k3⟩ := K
      have e : (raiseR ⟨r, c, b, p⟩ m).val = vv r (c + m) b p := by
        rw [raise_lo (by unfold topC; omega)]
      exact bodyPost_ret (v := vv r (c + m) b p) (by simp [results, Try.results12, go_sem, k0, k1, k2, k3]) rfl ⟨by rw [e], bw_alloc (below_box _ _) _⟩

theorem raise_w (r c b p m C : Int) (w : World) (hC : Hid ((raiseR ⟨r, c, b, p⟩ m).cost = C)) (hc : u64B c) (hm : u64B m) :
    Calls Try.prog 12 #[vv r c b p, .int .u64 m] w fun e w' => e = .returned (vv r C b p) ∧ Below w.heap.size w w' := by
  have H := raise_any r c b p m w hc hm
  have e : (raiseR ⟨r, c, b, p⟩ m).val = vv r C b p := by rw [← hC.out]; rfl
  rw [e] at H
  exact H

set_option maxHeartbeats 400000 in
theorem port_w (p n V E : Int) (w : World) (h : Hid (portR p n = (V, E))) :
    Calls Try.prog 13 #[.int .i64 p, .int .i64 n] w fun e w' => e = .returned (.tuple #[.int .u64 V, .int .i64 E]) ∧ w = w' := by
  cases h1 : decide (0 ≤ p ∧ p ≤ 15) with
  | false =>
    obtain ⟨rfl, rfl⟩ : V = 0 ∧ E = 1 := by
      have e := h.out
      simp at h1
      rw [portR, if_neg (by omega)] at e
      simp at e
      omega
    have C1 := Lib.hid h1; clear h1 h
    go_enter Try.func13, Try.ntmps13
    go_wp2_with (go_at_call 15; refine (within_w _ _ _ false _ C1).mono ?_; rintro e w' ⟨rfl, rfl⟩)
    all_goals go_ret2
    exact ⟨rfl, rfl⟩
  | true =>
  cases h2 : decide (1 ≤ n ∧ n ≤ 4095) with
  | false =>
    obtain ⟨rfl, rfl⟩ : V = 0 ∧ E = 1 := by
      have e := h.out
      simp at h2
      rw [portR, if_neg (by omega)] at e
      simp at e
      omega
    have C1 := Lib.hid h1; clear h1
    have C2 := Lib.hid h2; clear h2 h
    go_enter Try.func13, Try.ntmps13
    go_wp2_with (go_at_call 15; (with_reducible first | refine (within_w _ _ _ true _ C1).mono ?_ | refine (within_w _ _ _ false _ C2).mono ?_); rintro e w' ⟨rfl, rfl⟩)
    all_goals go_ret2
    exact ⟨rfl, rfl⟩
  | true =>
    simp at h1 h2
    obtain ⟨rfl, rfl⟩ : V = p * 4096 + n ∧ E = 0 := by
      have e := h.out
      rw [portR, if_pos (by omega)] at e
      simp at e
      omega
    have C1 : Hid (decide (0 ≤ p ∧ p ≤ 15) = true) := Lib.hid (by simp; omega)
    have C2 : Hid (decide (1 ≤ n ∧ n ≤ 4095) = true) := Lib.hid (by simp; omega)
    clear h
    go_enter Try.func13, Try.ntmps13
    go_wp2_with (go_at_call 15; (with_reducible first | refine (within_w _ _ _ true _ C1).mono ?_ | refine (within_w _ _ _ true _ C2).mono ?_); rintro e w' ⟨rfl, rfl⟩)
    all_goals go_ret2
    have e := u64_sum (p * 4096) n 12 4096 (by decide) ⟨by omega, by omega⟩ (by omega) (by omega) (by omega)
    exact ⟨ret_pair e rfl, rfl⟩
end Go.Proofs.Ytiehocggdmadaaa
