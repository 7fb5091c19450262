/-
  Walks of layer 5 that layer 8 reaches: cmp.Compare, parts, Compare, Raise, addressText, Split.
-/
import Derived.Test.YtojfmnndfophhaaGreatRows
import Derived.Test.YtojfmnndfophhaaGreatVcMath
import Derived.Test.YtojfmnndfophhaaGreatBpMath
import Derived.WalkKit
import Derived.WalkSpells
import Derived.WalkLawsBesides
import Derived.Lib.Hide
import Derived.Deep.Light
import Derived.Lib.AppendStr
import Derived.Laws.IdiomStrings
import Derived.Deep.QuietTactic
import Derived.BigQuiet
import Derived.Deep.RegionWith
import Derived.Deep.RegionHeld3
import Derived.Deep.DeepCutAuto
import Derived.Lib.SmallJoins
import Derived.LoopN
namespace Go.Proofs.YtojfmnndfophhaaGreat
set_option linter.unusedVariables false
set_option linter.unusedSimpArgs false
open Go.RowKit Vm

theorem ret_bool {a b : Bool} (h : a = b) : Ending.returned (.bool a) = .returned (.bool b) := by rw [h]
theorem ret_int {k : IntKind} {a b : Int} (h : a = b) : Ending.returned (.int k a) = .returned (.int k b) := by rw [h]
theorem below_box (w : World) (o : Obj) : Below w.heap.size w (w.alloc o) := (Below.refl _ _).alloc (Nat.le_refl _) o
theorem size_box (w : World) (o : Obj) : (w.alloc o).heap.size = w.heap.size + 1 := by simp
theorem bw_trans {a b c : World} (h : Below a.heap.size a b) (k : Below b.heap.size b c) : Below a.heap.size a c := h.trans (k.mono h.size)
theorem bw_alloc {a b : World} (h : Below a.heap.size a b) (o : Obj) : Below a.heap.size a (b.alloc o) := h.alloc h.size o
abbrev vv (r c b p : Int) : Value := .agg #[.int .u64 r, .int .u64 c, .int .u64 b, .int .u64 p]
abbrev Vm.Vc.val (v : Vc) : Value := vv v.root v.cost v.bridge v.port
/-- Block b holds just these four numbers, as a block of type T, none of them frozen. -/
def Blk (T : TypeId) (w : World) (b : Nat) (x : Vc) : Prop :=
  w.heap[b]? = some (.cells #[.int .u64 x.root, .int .u64 x.cost, .int .u64 x.bridge, .int .u64 x.port] T (0, 0))
def Boxed (w : World) (b : Nat) (r c br p : Int) : Prop :=
  w.cell? ⟨b, 0, none⟩ = some (.int .u64 r) ∧ w.cell? ⟨b, 1, none⟩ = some (.int .u64 c) ∧ w.cell? ⟨b, 2, none⟩ = some (.int .u64 br) ∧ w.cell? ⟨b, 3, none⟩ = some (.int .u64 p)
theorem Blk.below {T : TypeId} {w w' : World} {b B : Nat} {x : Vc} (h : Blk T w b x) (hb : Below B w w') (hB : b < B) : Blk T w' b x := (hb.block b hB).trans h
theorem Blk.lt {T : TypeId} {w : World} {b : Nat} {x : Vc} (h : Blk T w b x) : b < w.heap.size := (Array.getElem?_eq_some_iff.1 h).1
theorem Blk.next {T : TypeId} {w w' : World} {b : Nat} {x : Vc} (h : Blk T w b x) (hb : Below w.heap.size w w') : Blk T w' b x := h.below hb h.lt
theorem blk_new (T : TypeId) (w : World) (r c b p : Int) : Blk T (w.alloc (.cells #[.int .u64 r, .int .u64 c, .int .u64 b, .int .u64 p] T)) w.heap.size ⟨r, c, b, p⟩ := heap_alloc_new w _
theorem Blk.cells {T : TypeId} {w : World} {b : Nat} {r c br p : Int} (H : Blk T w b ⟨r, c, br, p⟩) : Boxed w b r c br p := by
  unfold Blk at H
  refine ⟨?_, ?_, ?_, ?_⟩ <;> simp [World.cell?, H]
theorem Blk.free {T : TypeId} {w : World} {b : Nat} {x : Vc} (h : Blk T w b x) (j : Nat) : w.frozen? ⟨b, j, none⟩ = false := by
  unfold Blk at h
  simp [World.frozen?, h]
/-- The lowest bits of a number of 64 bits. -/
theorem u64_mask (n : Int) (k : Nat) (hk : k < 64) (h : u64B n) : bits .and .u64 n ((2 ^ k - 1 : Nat) : Int) = n % ((2 ^ k : Nat) : Int) := by
  obtain ⟨h0, h1⟩ := h
  obtain ⟨N, rfl⟩ := Int.eq_ofNat_of_zero_le h0
  have hp : 2 ^ k < 2 ^ 64 := Nat.pow_lt_pow_right (by omega) hk
  show IntKind.u64.wrap ((BitVec.ofInt 64 (N : Int) &&& BitVec.ofInt 64 ((2 ^ k - 1 : Nat) : Int)).toNat : Int) = _
  rw [BitVec.toNat_and, Bm.ofInt_any, Bm.ofInt_any, IntKind.wrap_u64]
  have e1 : ((N : Int) % 18446744073709551616).toNat = N := by omega
  have e2 : (((2 ^ k - 1 : Nat) : Int) % 18446744073709551616).toNat = 2 ^ k - 1 := by omega
  rw [e1, e2, Nat.and_two_pow_sub_one_eq_mod]
  have := Nat.mod_le N (2 ^ k)
  omega
theorem u64_sum (x y : Int) (k K : Nat) (hK : K = 2 ^ k) (hx : u64B x) (hd : x % (K : Int) = 0) (hy : 0 ≤ y ∧ y < (K : Int)) (hk : K ≤ 18446744073709551616) : bits .or .u64 x y = x + y := by
  obtain ⟨h0, h1⟩ := hx
  obtain ⟨X, rfl⟩ := Int.eq_ofNat_of_zero_le h0
  obtain ⟨Y, rfl⟩ := Int.eq_ofNat_of_zero_le hy.1
  have hY : Y < 2 ^ k := by omega
  have hX : X % 2 ^ k = 0 := by rw [← hK]; omega
  rw [Bm.u64_or_nat X Y (by omega) (by omega), nat_join k X Y hX hY]
  omega
theorem ret_pair {a b K E : Int} (h1 : a = K) (h2 : b = E) : Ending.returned (.tuple #[.int .u64 a, .int .i64 b]) = .returned (.tuple #[.int .u64 K, .int .i64 E]) := by rw [h1, h2]
theorem mask_48 (n : Int) (h : u64B n) : bits .and .u64 n 281474976710655 = n % 281474976710656 := u64_mask n 48 (by omega) h
theorem mask_12 (n : Int) (h : u64B n) : bits .and .u64 n 4095 = n % 4096 := u64_mask n 12 (by omega) h
theorem cmpN_rest (a b k : Int) : cmpN a b k = if cmpN a b 0 = 0 then k else cmpN a b 0 := by
  unfold cmpN
  repeat' split
  all_goals omega
set_option maxHeartbeats 400000 in
theorem nan_any (a : Int) (w : World) :
    Calls Tryz.prog 107 #[.int .u64 a] w fun e w' => e = .returned (.bool false) ∧ w = w' := by
  go_enter Tryz.func107, Tryz.ntmps107
  go_wp2
  all_goals go_ret
  all_goals first | exact ⟨rfl, rfl⟩ | (refine ⟨ret_bool ?_, rfl⟩; simp)
set_option maxHeartbeats 400000 in
theorem cmp_any (a b : Int) (w : World) :
    Calls Tryz.prog 102 #[.int .u64 a, .int .u64 b] w fun e w' => e = .returned (.int .i64 (cmpN a b 0)) ∧ w = w' := by
  go_enter Tryz.func102, Tryz.ntmps102
  go_wp2_with (go_at_call 107; refine (nan_any _ _).mono ?_; rintro e w' ⟨rfl, rfl⟩)
  all_goals go_ret
  all_goals refine ⟨ret_int ?_, rfl⟩
  all_goals (unfold cmpN; repeat' split)
  all_goals omega
theorem cmp_w (a b X : Int) (w : World) (hX : Hid (cmpN a b 0 = X)) :
    Calls Tryz.prog 102 #[.int .u64 a, .int .u64 b] w fun e w' => e = .returned (.int .i64 X) ∧ w = w' := by
  have H := cmp_any a b w
  rw [hX.out] at H
  exact H
set_option maxHeartbeats 400000 in
theorem parts_any (r c b p : Int) (w : World) :
    Calls Tryz.prog 101 #[vv r c b p] w fun e w' => e = .returned (vv r c b p) ∧ Below w.heap.size w w' := by
  go_enter Tryz.func101, Tryz.ntmps101
  go_wp2
  have K := (blk_new 94 (w.alloc (.cells #[.int .u64 r, .int .u64 c, .int .u64 b, .int .u64 p] 32)) r c b p).cells
  rw [size_box] at K
  obtain ⟨k0, k1, k2, k3⟩ := K
  exact bodyPost_ret (v := vv r c b p) (by simp [results, Tryz.results101, go_sem, k0, k1, k2, k3]) rfl ⟨rfl, bw_alloc (below_box _ _) _⟩
set_option maxHeartbeats 1000000 in
theorem compare_w (r c b p r' c' b' p' R : Int) (w : World) (hR : Hid (cmpR ⟨r, c, b, p⟩ ⟨r', c', b', p'⟩ = R)) :
    Calls Tryz.prog 95 #[vv r c b p, vv r' c' b' p'] w fun e w' => e = .returned (.int .i64 R) ∧ Below w.heap.size w w' := by
  obtain ⟨X3, h3⟩ : ∃ X, cmpN p p' 0 = X := ⟨_, rfl⟩
  obtain ⟨X2, h2⟩ : ∃ X, cmpN b b' 0 = X := ⟨_, rfl⟩
  obtain ⟨X1, h1⟩ : ∃ X, cmpN c c' 0 = X := ⟨_, rfl⟩
  obtain ⟨X0, h0⟩ : ∃ X, cmpN r r' 0 = X := ⟨_, rfl⟩
  have e : (if X0 = 0 then if X1 = 0 then if X2 = 0 then X3 else X2 else X1 else X0) = R := by
    rw [← hR.out]
    simp only [cmpR]
    rw [cmpN_rest r, cmpN_rest c, cmpN_rest b, h0, h1, h2, h3]
  have E := Lib.hid e; clear e hR
  have H0 := Lib.hid h0; clear h0
  have H1 := Lib.hid h1; clear h1
  have H2 := Lib.hid h2; clear h2
  have H3 := Lib.hid h3; clear h3
  go_enter Tryz.func95, Tryz.ntmps95
  go_wp2_with fail
  refine (parts_any r' c' b' p' _).mono ?_
  rintro e w1 ⟨rfl, hb1⟩
  have k1 := ((blk_new 32 w r c b p).next (below_box _ (.cells #[.int .u64 r', .int .u64 c', .int .u64 b', .int .u64 p'] 32))).next hb1
  have B1 := bw_trans (bw_alloc (below_box w _) _) hb1
  clear hb1
  replace k1 := k1.next (below_box w1 (.cells #[.int .u64 r', .int .u64 c', .int .u64 b', .int .u64 p'] 94))
  have y := k1.cells
  obtain ⟨c0, c1, c2, c3⟩ := y
  go_wp2_with fail
  refine (parts_any r c b p _).mono ?_
  rintro e w2 ⟨rfl, hb2⟩
  have k2 := (blk_new 94 w1 r' c' b' p').next hb2
  have B2 := bw_trans (bw_alloc B1 _) hb2
  clear hb2 k1 B1 c0 c1 c2 c3
  have y := k2.cells
  obtain ⟨c0, c1, c2, c3⟩ := y
  have i0 : ∀ w, (Instr.index 94 (vv r c b p) (.int .i64 0)).run Tryz.prog w = .ok (.int .u64 r) w := fun _ => by kernel_rfl
  have i1 : ∀ w, (Instr.index 94 (vv r c b p) (.int .i64 1)).run Tryz.prog w = .ok (.int .u64 c) w := fun _ => by kernel_rfl
  have i2 : ∀ w, (Instr.index 94 (vv r c b p) (.int .i64 2)).run Tryz.prog w = .ok (.int .u64 b) w := fun _ => by kernel_rfl
  have i3 : ∀ w, (Instr.index 94 (vv r c b p) (.int .i64 3)).run Tryz.prog w = .ok (.int .u64 p) w := fun _ => by kernel_rfl
  go_wp2_with fail
  refine wp_loop_rounds 5 ?_
  rw [rounds_succ]
  go_wp2_with fail
  refine (cmp_w _ _ X0 _ H0).mono ?_
  rintro e w3 ⟨rfl, rfl⟩
  by_cases z : X0 = 0
  case neg =>
    have e : R = X0 := by rw [← E.out]; simp [z]
    subst e
    have z' : (R == 0) = false := beq_eq_false_iff_ne.2 z
    go_wp2
    go_ret
    exact ⟨rfl, B2⟩
  subst z
  replace E := Lib.hid ((if_pos rfl).symm.trans E.out)
  go_wp2_with fail
  rw [rounds_succ]
  go_wp2_with fail
  refine (cmp_w _ _ X1 _ H1).mono ?_
  rintro e w3 ⟨rfl, rfl⟩
  by_cases z : X1 = 0
  case neg =>
    have e : R = X1 := by rw [← E.out]; simp [z]
    subst e
    have z' : (R == 0) = false := beq_eq_false_iff_ne.2 z
    go_wp2
    go_ret
    exact ⟨rfl, B2⟩
  subst z
  replace E := Lib.hid ((if_pos rfl).symm.trans E.out)
  go_wp2_with fail
  rw [rounds_succ]
  go_wp2_with fail
  refine (cmp_w _ _ X2 _ H2).mono ?_
  rintro e w3 ⟨rfl, rfl⟩
  by_cases z : X2 = 0
  case neg =>
    have e : R = X2 := by rw [← E.out]; simp [z]
    subst e
    have z' : (R == 0) = false := beq_eq_false_iff_ne.2 z
    go_wp2
    go_ret
    exact ⟨rfl, B2⟩
  subst z
  replace E := Lib.hid ((if_pos rfl).symm.trans E.out)
  go_wp2_with fail
  rw [rounds_succ]
  go_wp2_with fail
  refine (cmp_w _ _ X3 _ H3).mono ?_
  rintro e w3 ⟨rfl, rfl⟩
  by_cases z : X3 = 0
  case neg =>
    have e : R = X3 := E.out.symm
    subst e
    have z' : (R == 0) = false := beq_eq_false_iff_ne.2 z
    go_wp2
    go_ret
    exact ⟨rfl, B2⟩
  subst z
  go_wp2_with fail
  rw [rounds_succ]
  go_wp2_with fail
  go_ret
  exact ⟨ret_int E.out, B2⟩
set_option maxHeartbeats 1000000 in
theorem raise_any (r c b p m : Int) (w : World) (hc : u64B c) (hm : u64B m) :
    Calls Tryz.prog 100 #[vv r c b p, .int .u64 m] w fun e w' => e = .returned (raiseR ⟨r, c, b, p⟩ m).val ∧ Below w.heap.size w w' := by
  obtain ⟨hc0, hc1⟩ := hc
  obtain ⟨hm0, hm1⟩ := hm
  go_enter Tryz.func100, Tryz.ntmps100
  by_cases h1 : 4294967295 < c
  · go_wp2
    have K := (blk_new 32 (w.alloc (.cells #[.int .u64 r, .int .u64 (4294967295), .int .u64 b, .int .u64 p] 32)) r (4294967295) b p).cells
    rw [size_box] at K
    obtain ⟨k0, k1, k2, k3⟩ := K
    have e : (raiseR ⟨r, c, b, p⟩ m).val = vv r (4294967295) b p := by
      rw [raise_hi (by unfold topC; omega)]
    exact bodyPost_ret (v := vv r (4294967295) b p) (by simp [results, Tryz.results100, go_sem, k0, k1, k2, k3]) rfl ⟨by rw [e], bw_alloc (below_box _ _) _⟩
  · by_cases h2 : 4294967295 - c < m
    · go_wp2
      have K := (blk_new 32 (w.alloc (.cells #[.int .u64 r, .int .u64 (4294967295), .int .u64 b, .int .u64 p] 32)) r (4294967295) b p).cells
      rw [size_box] at K
      obtain ⟨k0, k1, k2, k3⟩ := K
      have e : (raiseR ⟨r, c, b, p⟩ m).val = vv r (4294967295) b p := by
        rw [raise_hi (by unfold topC; omega)]
      exact bodyPost_ret (v := vv r (4294967295) b p) (by simp [results, Tryz.results100, go_sem, k0, k1, k2, k3]) rfl ⟨by rw [e], bw_alloc (below_box _ _) _⟩
    · go_wp2
      have K := (blk_new 32 (w.alloc (.cells #[.int .u64 r, .int .u64 (c + m), .int .u64 b, .int .u64 p] 32)) r (c + m) b p).cells
      rw [size_box] at K
      obtain ⟨k0, k1, k2, k3⟩ := K
      have e : (raiseR ⟨r, c, b, p⟩ m).val = vv r (c + m) b p := by
        rw [raise_lo (by unfold topC; omega)]
      exact bodyPost_ret (v := vv r (c + m) b p) (by simp [results, Tryz.results100, go_sem, k0, k1, k2, k3]) rfl ⟨by rw [e], bw_alloc (below_box _ _) _⟩
theorem raise_w (r c b p m C : Int) (w : World) (hC : Hid ((raiseR ⟨r, c, b, p⟩ m).cost = C)) (hc : u64B c) (hm : u64B m) :
    Calls Tryz.prog 100 #[vv r c b p, .int .u64 m] w fun e w' => e = .returned (vv r C b p) ∧ Below w.heap.size w w' := by
  have H := raise_any r c b p m w hc hm
  have e : (raiseR ⟨r, c, b, p⟩ m).val = vv r C b p := by rw [← hC.out]; rfl
  rw [e] at H
  exact H
theorem strCells_append (a b : ByteArray) : Lib.strCells (a ++ b) = Lib.strCells a ++ Lib.strCells b := by
  simp [Lib.strCells]
theorem byte_cell (N k : Nat) : Lib.strCells ⟨#[UInt8.ofNat (N / k % 256)]⟩ = [Value.int .u8 ((N : Int) / (k : Int) % 256)] := by
  simp only [Lib.strCells, List.map_cons, List.map_nil]
  congr 2
  rw [UInt8.toNat_ofNat']
  have : ((N / k % 256 : Nat) : Int) = (N : Int) / (k : Int) % 256 := by simp
  omega
theorem six_cells (N : Nat) : Lib.strCells (Bm.be N 6) = [Value.int .u8 ((N : Int) / 1099511627776 % 256), Value.int .u8 ((N : Int) / 4294967296 % 256), Value.int .u8 ((N : Int) / 16777216 % 256), Value.int .u8 ((N : Int) / 65536 % 256), Value.int .u8 ((N : Int) / 256 % 256), Value.int .u8 ((N : Int) % 256)] := by
  have h : Lib.strCells (Bm.be N 6) = Lib.strCells ⟨#[UInt8.ofNat (N / 256 ^ 5 % 256)]⟩ ++ (Lib.strCells ⟨#[UInt8.ofNat (N / 256 ^ 4 % 256)]⟩ ++ (Lib.strCells ⟨#[UInt8.ofNat (N / 256 ^ 3 % 256)]⟩ ++ (Lib.strCells ⟨#[UInt8.ofNat (N / 256 ^ 2 % 256)]⟩ ++ (Lib.strCells ⟨#[UInt8.ofNat (N / 256 ^ 1 % 256)]⟩ ++ (Lib.strCells ⟨#[UInt8.ofNat (N / 256 ^ 0 % 256)]⟩ ++ Lib.strCells ⟨#[]⟩))))) := by
    simp only [Bm.be, strCells_append]
  rw [h]
  simp only [byte_cell]
  simp [Lib.strCells]
/-- The bytes in a block of any type, turned into a string. -/
theorem conv_at (W : World) (b cap n : Nat) (cs : Array Value) (T : TypeId) (s : ByteArray) (hb : W.heap[b]? = some (.cells cs T (0, 0))) (hc : cs.toList = Lib.strCells s) (hn : n = s.size) :
    Sem.run Tryz.prog (convert 104 9 (.slice (some ⟨b, 0, none⟩) n cap)) W = .ok (.string s) W := by
  have e : s.size = s.data.toList.length := by rw [Array.length_toList]; rfl
  have h := run_convert_bytes_back (P := Tryz.prog) W 104 9 5 ⟨b, 0, none⟩ cap s.data.toList Tryz.underlying104 Tryz.underlying5 Tryz.underlying9 (by
    intro j hj
    rw [Addr.add_lit]
    have hk : W.cell? ⟨b, 0 + j, none⟩ = cs[j]? := by simp [World.cell?, hb]
    rw [hk, ← Array.getElem?_toList, hc]
    rw [Array.length_toList] at hj
    simp only [Lib.strCells, List.getElem?_map, Array.getElem?_toList, Array.getElem_toList]
    rw [Array.getElem?_eq_getElem hj]
    rfl)
  rw [← e] at h
  rw [hn, h]
set_option maxHeartbeats 1000000 in
theorem text_any (n : Int) (w : World) (hn : u64B n) :
    Calls Tryz.prog 108 #[.int .u64 n] w fun e w' => e = .returned (.string (Bm.be n.toNat 6)) ∧ Below w.heap.size w w' := by
  obtain ⟨hn0, hn1⟩ := hn
  go_enter Tryz.func108, Tryz.ntmps108
  go_wp2_with fail
  refine wp_loop_rounds 7 ?_
  rw [rounds_succ]
  go_wp2_with fail
  rw [rounds_succ]
  go_wp2_with fail
  rw [rounds_succ]
  go_wp2_with fail
  rw [rounds_succ]
  go_wp2_with fail
  rw [rounds_succ]
  go_wp2_with fail
  rw [rounds_succ]
  go_wp2_with fail
  rw [rounds_succ]
  go_upto_region 7 with (fail)
  obtain ⟨N, rfl⟩ := Int.eq_ofNat_of_zero_le hn0
  have hc := six_cells N
  obtain ⟨W, hW⟩ : ∃ W, W = w.alloc (.cells #[.int .u8 ((N : Int) / 1099511627776 % 256), .int .u8 ((N : Int) / 4294967296 % 256), .int .u8 ((N : Int) / 16777216 % 256), .int .u8 ((N : Int) / 65536 % 256), .int .u8 ((N : Int) / 256 % 256), .int .u8 ((N : Int) % 256)] 103) := ⟨_, rfl⟩
  have hb : W.heap[w.heap.size]? = some (.cells #[.int .u8 ((N : Int) / 1099511627776 % 256), .int .u8 ((N : Int) / 4294967296 % 256), .int .u8 ((N : Int) / 16777216 % 256), .int .u8 ((N : Int) / 65536 % 256), .int .u8 ((N : Int) / 256 % 256), .int .u8 ((N : Int) % 256)] 103 (0, 0)) := by rw [hW]; exact heap_alloc_new w _
  have B : Below w.heap.size w W := by rw [hW]; exact below_box _ _
  rw [← hW]
  clear hW
  have hr := conv_at W w.heap.size 6 6 _ _ (Bm.be N 6) hb hc.symm (Bm.be_size N 6).symm
  clear hb hc
  go_wp2
  go_ret
  exact ⟨rfl, B⟩
set_option maxHeartbeats 1000000 in
theorem split_any (n : Int) (w : World) (hn : u64B n) :
    Calls Tryz.prog 103 #[.int .u64 n] w fun e w' => e = .returned (.tuple #[.int .i64 (n / 1152921504606846976), .int .i64 (n / 281474976710656 % 4096), .string (Bm.be n.toNat 6)]) ∧ Below w.heap.size w w' := by
  have hn' := hn
  obtain ⟨hn0, hn1⟩ := hn
  have hm := mask_12 (n / 281474976710656) ⟨by omega, by omega⟩
  obtain ⟨V, hV⟩ : ∃ V, n / 281474976710656 % 4096 = V := ⟨_, rfl⟩
  have hV0 : 0 ≤ V := by omega
  have hV1 : V < 4096 := by omega
  rw [hV] at hm ⊢
  clear hV
  go_enter Tryz.func103, Tryz.ntmps103
  go_wp2_with fail
  refine (text_any n _ hn').mono ?_
  rintro e w1 ⟨rfl, hb1⟩
  go_wp2
  exact bodyPost_ret (v := .tuple #[.int .i64 (n / 1152921504606846976), .int .i64 V, .string (Bm.be n.toNat 6)]) (by simp [results, Tryz.results103, go_sem]) rfl ⟨rfl, hb1⟩
end Go.Proofs.YtojfmnndfophhaaGreat
