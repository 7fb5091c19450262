/-
  Walks of layer 5 that layer 8 reaches: cmp.Compare, parts, Compare, Raise, addressText, Split.
  Layer 8: what is known of a port, as a value, a block and a row; own, sameAddress, rightPort, the closure of Right, Mine, the document's Raise.
  Layers 10 and 11: a port's 61 cells as one array; a port's block of memory, of type T.
  Walks of layer 3: within, rightNumbers, Right, Size, Role.
  Layer 8: the document's Compare.
  Layer 8: role, the document's Way, slices.IndexFunc and ContainsFunc with Right's closure.
  Layer 8: Right of the package, and the document's.
-/
import Derived.Test.YtldobcfejldbiaaGreatDoorRows
import Derived.Test.YtldobcfejldbiaaGreatDoorMaa
import Derived.WalkKit
import Derived.WalkSpells
import Derived.WalkLawsBesides
import Derived.Lib.Hide
import Derived.Deep.Light
import Derived.Lib.AppendStr
import Derived.Laws.IdiomStrings
import Derived.Deep.QuietTactic
import Derived.BigQuiet
import Derived.Deep.RegionWith
import Derived.Deep.RegionHeld3
import Derived.Deep.DeepCutAuto
import Derived.Lib.SmallJoins
import Derived.LoopN
import Derived.Laws.Rows
import Derived.Laws.Tables
import Derived.Lib.SliceRun
namespace Go.Proofs.YtldobcfejldbiaaGreatDoor
set_option linter.unusedVariables false
set_option linter.unusedSimpArgs false
open Go.RowKit Vm

theorem ret_bool {a b : Bool} (h : a = b) : Ending.returned (.bool a) = .returned (.bool b) := by rw [h]
theorem ret_int {k : IntKind} {a b : Int} (h : a = b) : Ending.returned (.int k a) = .returned (.int k b) := by rw [h]
theorem below_box (w : World) (o : Obj) : Below w.heap.size w (w.alloc o) := (Below.refl _ _).alloc (Nat.le_refl _) o
theorem size_box (w : World) (o : Obj) : (w.alloc o).heap.size = w.heap.size + 1 := by simp
theorem bw_trans {a b c : World} (h : Below a.heap.size a b) (k : Below b.heap.size b c) : Below a.heap.size a c := h.trans (k.mono h.size)
theorem bw_alloc {a b : World} (h : Below a.heap.size a b) (o : Obj) : Below a.heap.size a (b.alloc o) := h.alloc h.size o
abbrev vv (r c b p : Int) : Value := .agg #[.int .u64 r, .int .u64 c, .int .u64 b, .int .u64 p]
abbrev Vm.Vc.val (v : Vc) : Value := vv v.root v.cost v.bridge v.port
/-- Block b holds just these four numbers, as a block of type T, none of them frozen. -/
def Blk (T : TypeId) (w : World) (b : Nat) (x : Vc) : Prop :=
  w.heap[b]? = some (.cells #[.int .u64 x.root, .int .u64 x.cost, .int .u64 x.bridge, .int .u64 x.port] T (0, 0))
def Boxed (w : World) (b : Nat) (r c br p : Int) : Prop :=
  w.cell? ⟨b, 0, none⟩ = some (.int .u64 r) ∧ w.cell? ⟨b, 1, none⟩ = some (.int .u64 c) ∧ w.cell? ⟨b, 2, none⟩ = some (.int .u64 br) ∧ w.cell? ⟨b, 3, none⟩ = some (.int .u64 p)
theorem Blk.below {T : TypeId} {w w' : World} {b B : Nat} {x : Vc} (h : Blk T w b x) (hb : Below B w w') (hB : b < B) : Blk T w' b x := (hb.block b hB).trans h
theorem Blk.lt {T : TypeId} {w : World} {b : Nat} {x : Vc} (h : Blk T w b x) : b < w.heap.size := (Array.getElem?_eq_some_iff.1 h).1
theorem Blk.next {T : TypeId} {w w' : World} {b : Nat} {x : Vc} (h : Blk T w b x) (hb : Below w.heap.size w w') : Blk T w' b x := h.below hb h.lt
theorem blk_new (T : TypeId) (w : World) (r c b p : Int) : Blk T (w.alloc (.cells #[.int .u64 r, .int .u64 c, .int .u64 b, .int .u64 p] T)) w.heap.size ⟨r, c, b, p⟩ := heap_alloc_new w _
theorem Blk.cells {T : TypeId} {w : World} {b : Nat} {r c br p : Int} (H : Blk T w b ⟨r, c, br, p⟩) : Boxed w b r c br p := by
  unfold Blk at H
  refine ⟨?_, ?_, ?_, ?_⟩ <;> simp [World.cell?, H]
theorem Blk.free {T : TypeId} {w : World} {b : Nat} {x : Vc} (h : Blk T w b x) (j : Nat) : w.frozen? ⟨b, j, none⟩ = false := by
  unfold Blk at h
  simp [World.frozen?, h]
/-- The lowest bits of a number of 64 bits. -/
theorem u64_mask (n : Int) (k : Nat) (hk : k < 64) (h : u64B n) : bits .and .u64 n ((2 ^ k - 1 : Nat) : Int) = n % ((2 ^ k : Nat) : Int) := by
  obtain ⟨h0, h1⟩ := h
  obtain ⟨N, rfl⟩ := Int.eq_ofNat_of_zero_le h0
  have hp : 2 ^ k < 2 ^ 64 := Nat.pow_lt_pow_right (by omega) hk
  show IntKind.u64.wrap ((BitVec.ofInt 64 (N : Int) &&& BitVec.ofInt 64 ((2 ^ k - 1 : Nat) : Int)).toNat : Int) = _
  rw [BitVec.toNat_and, Bm.ofInt_any, Bm.ofInt_any, IntKind.wrap_u64]
  have e1 : ((N : Int) % 18446744073709551616).toNat = N := by omega
  have e2 : (((2 ^ k - 1 : Nat) : Int) % 18446744073709551616).toNat = 2 ^ k - 1 := by omega
  rw [e1, e2, Nat.and_two_pow_sub_one_eq_mod]
  have := Nat.mod_le N (2 ^ k)
  omega
theorem mask_48 (n : Int) (h : u64B n) : bits .and .u64 n 281474976710655 = n % 281474976710656 := u64_mask n 48 (by omega) h
theorem mask_12 (n : Int) (h : u64B n) : bits .and .u64 n 4095 = n % 4096 := u64_mask n 12 (by omega) h
theorem cmpN_rest (a b k : Int) : cmpN a b k = if cmpN a b 0 = 0 then k else cmpN a b 0 := by
  unfold cmpN
  repeat' split
  all_goals omega
set_option maxHeartbeats 400000 in
theorem nan_any (a : Int) (w : World) :
    Calls Tryz.prog 201 #[.int .u64 a] w fun e w' => e = .returned (.bool false) ∧ w = w' := by
  go_enter Tryz.func201, Tryz.ntmps201
  go_wp2
  all_goals go_ret
  all_goals first | exact ⟨rfl, rfl⟩ | (refine ⟨ret_bool ?_, rfl⟩; simp)
set_option maxHeartbeats 400000 in
theorem cmp_any (a b : Int) (w : World) :
    Calls Tryz.prog 169 #[.int .u64 a, .int .u64 b] w fun e w' => e = .returned (.int .i64 (cmpN a b 0)) ∧ w = w' := by
  go_enter Tryz.func169, Tryz.ntmps169
  go_wp2_with (go_at_call 201; refine (nan_any _ _).mono ?_; rintro e w' ⟨rfl, rfl⟩)
  all_goals go_ret
  all_goals refine ⟨ret_int ?_, rfl⟩
  all_goals (unfold cmpN; repeat' split)
  all_goals omega
theorem cmp_w (a b X : Int) (w : World) (hX : Hid (cmpN a b 0 = X)) :
    Calls Tryz.prog 169 #[.int .u64 a, .int .u64 b] w fun e w' => e = .returned (.int .i64 X) ∧ w = w' := by
  have H := cmp_any a b w
  rw [hX.out] at H
  exact H
set_option maxHeartbeats 400000 in
theorem parts_any (r c b p : Int) (w : World) :
    Calls Tryz.prog 168 #[vv r c b p] w fun e w' => e = .returned (vv r c b p) ∧ Below w.heap.size w w' := by
  go_enter Tryz.func168, Tryz.ntmps168
  go_wp2
  have K := (blk_new 209 (w.alloc (.cells #[.int .u64 r, .int .u64 c, .int .u64 b, .int .u64 p] 47)) r c b p).cells
  rw [size_box] at K
  obtain ⟨k0, k1, k2, k3⟩ := K
  exact bodyPost_ret (v := vv r c b p) (by simp [results, Tryz.results168, go_sem, k0, k1, k2, k3]) rfl ⟨rfl, bw_alloc (below_box _ _) _⟩
set_option maxHeartbeats 1000000 in
theorem compare_w (r c b p r' c' b' p' R : Int) (w : World) (hR : Hid (cmpR ⟨r, c, b, p⟩ ⟨r', c', b', p'⟩ = R)) :
    Calls Tryz.prog 129 #[vv r c b p, vv r' c' b' p'] w fun e w' => e = .returned (.int .i64 R) ∧ Below w.heap.size w w' := by
  obtain ⟨X3, h3⟩ : ∃ X, cmpN p p' 0 = X := ⟨_, rfl⟩
  obtain ⟨X2, h2⟩ : ∃ X, cmpN b b' 0 = X := ⟨_, rfl⟩
  obtain ⟨X1, h1⟩ : ∃ X, cmpN c c' 0 = X := ⟨_, rfl⟩
  obtain ⟨X0, h0⟩ : ∃ X, cmpN r r' 0 = X := ⟨_, rfl⟩
  have e : (if X0 = 0 then if X1 = 0 then if X2 = 0 then X3 else X2 else X1 else X0) = R := by
    rw [← hR.out]
    simp only [cmpR]
    rw [cmpN_rest r, cmpN_rest c, cmpN_rest b, h0, h1, h2, h3]
  have E := Lib.hid e; clear e hR
  have H0 := Lib.hid h0; clear h0
  have H1 := Lib.hid h1; clear h1
  have H2 := Lib.hid h2; clear h2
  have H3 := Lib.hid h3; clear h3
  go_enter Tryz.func129, Tryz.ntmps129
  go_wp2_with fail
  refine (parts_any r' c' b' p' _).mono ?_
  rintro e w1 ⟨rfl, hb1⟩
  have k1 := ((blk_new 47 w r c b p).next (below_box _ (.cells #[.int .u64 r', .int .u64 c', .int .u64 b', .int .u64 p'] 47))).next hb1
  have B1 := bw_trans (bw_alloc (below_box w _) _) hb1
  clear hb1
  replace k1 := k1.next (below_box w1 (.cells #[.int .u64 r', .int .u64 c', .int .u64 b', .int .u64 p'] 209))
  have y := k1.cells
  obtain ⟨c0, c1, c2, c3⟩ := y
  go_wp2_with fail
  refine (parts_any r c b p _).mono ?_
  rintro e w2 ⟨rfl, hb2⟩
  have k2 := (blk_new 209 w1 r' c' b' p').next hb2
  have B2 := bw_trans (bw_alloc B1 _) hb2
  clear hb2 k1 B1 c0 c1 c2 c3
  have y := k2.cells
  obtain ⟨c0, c1, c2, c3⟩ := y
  have i0 : ∀ w, (Instr.index 209 (vv r c b p) (.int .i64 0)).run Tryz.prog w = .ok (.int .u64 r) w := fun _ => by kernel_rfl
  have i1 : ∀ w, (Instr.index 209 (vv r c b p) (.int .i64 1)).run Tryz.prog w = .ok (.int .u64 c) w := fun _ => by kernel_rfl
  have i2 : ∀ w, (Instr.index 209 (vv r c b p) (.int .i64 2)).run Tryz.prog w = .ok (.int .u64 b) w := fun _ => by kernel_rfl
  have i3 : ∀ w, (Instr.index 209 (vv r c b p) (.int .i64 3)).run Tryz.prog w = .ok (.int .u64 p) w := fun _ => by kernel_rfl
  go_wp2_with fail
  refine wp_loop_rounds 5 ?_
  rw [rounds_succ]
  go_wp2_with fail
  refine (cmp_w _ _ X0 _ H0).mono ?_
  rintro e w3 ⟨rfl, rfl⟩
  by_cases z : X0 = 0
  case neg =>
    have e : R = X0 := by rw [← E.out]; simp [z]
    subst e
    have z' : (R == 0) = false := beq_eq_false_iff_ne.2 z
    go_wp2
    go_ret
    exact ⟨rfl, B2⟩
  subst z
  replace E := Lib.hid ((if_pos rfl).symm.trans E.out)
  go_wp2_with fail
  rw [rounds_succ]
  go_wp2_with fail
  refine (cmp_w _ _ X1 _ H1).mono ?_
  rintro e w3 ⟨rfl, rfl⟩
  by_cases z : X1 = 0
  case neg =>
    have e : R = X1 := by rw [← E.out]; simp [z]
    subst e
    have z' : (R == 0) = false := beq_eq_false_iff_ne.2 z
    go_wp2
    go_ret
    exact ⟨rfl, B2⟩
  subst z
  replace E := Lib.hid ((if_pos rfl).symm.trans E.out)
  go_wp2_with fail
  rw [rounds_succ]
  go_wp2_with fail
  refine (cmp_w _ _ X2 _ H2).mono ?_
  rintro e w3 ⟨rfl, rfl⟩
  by_cases z : X2 = 0
  case neg =>
    have e : R = X2 := by rw [← E.out]; simp [z]
    subst e
    have z' : (R == 0) = false := beq_eq_false_iff_ne.2 z
    go_wp2
    go_ret
    exact ⟨rfl, B2⟩
  subst z
  replace E := Lib.hid ((if_pos rfl).symm.trans E.out)
  go_wp2_with fail
  rw [rounds_succ]
  go_wp2_with fail
  refine (cmp_w _ _ X3 _ H3).mono ?_
  rintro e w3 ⟨rfl, rfl⟩
  by_cases z : X3 = 0
  case neg =>
    have e : R = X3 := E.out.symm
    subst e
    have z' : (R == 0) = false := beq_eq_false_iff_ne.2 z
    go_wp2
    go_ret
    exact ⟨rfl, B2⟩
  subst z
  go_wp2_with fail
  rw [rounds_succ]
  go_wp2_with fail
  go_ret
  exact ⟨ret_int E.out, B2⟩
set_option maxHeartbeats 1000000 in
theorem raise_any (r c b p m : Int) (w : World) (hc : u64B c) (hm : u64B m) :
    Calls Tryz.prog 188 #[vv r c b p, .int .u64 m] w fun e w' => e = .returned (raiseR ⟨r, c, b, p⟩ m).val ∧ Below w.heap.size w w' := by
  obtain ⟨hc0, hc1⟩ := hc
  obtain ⟨hm0, hm1⟩ := hm
  go_enter Tryz.func188, Tryz.ntmps188
  by_cases h1 : 4294967295 < c
  · go_wp2
    have K := (blk_new 47 (w.alloc (.cells #[.int .u64 r, .int .u64 (4294967295), .int .u64 b, .int .u64 p] 47)) r (4294967295) b p).cells
    rw [size_box] at K
    obtain ⟨k0, k1, k2, k3⟩ := K
    have e : (raiseR ⟨r, c, b, p⟩ m).val = vv r (4294967295) b p := by
      rw [raise_hi (by unfold topC; omega)]
    exact bodyPost_ret (v := vv r (4294967295) b p) (by simp [results, Tryz.results188, go_sem, k0, k1, k2, k3]) rfl ⟨by rw [e], bw_alloc (below_box _ _) _⟩
  · by_cases h2 : 4294967295 - c < m
    · go_wp2
      have K := (blk_new 47 (w.alloc (.cells #[.int .u64 r, .int .u64 (4294967295), .int .u64 b, .int .u64 p] 47)) r (4294967295) b p).cells
      rw [size_box] at K
      obtain ⟨k0, k1, k2, k3⟩ := K
      have e : (raiseR ⟨r, c, b, p⟩ m).val = vv r (4294967295) b p := by
        rw [raise_hi (by unfold topC; omega)]
      exact bodyPost_ret (v := vv r (4294967295) b p) (by simp [results, Tryz.results188, go_sem, k0, k1, k2, k3]) rfl ⟨by rw [e], bw_alloc (below_box _ _) _⟩
    · go_wp2
      have K := (blk_new 47 (w.alloc (.cells #[.int .u64 r, .int .u64 (c + m), .int .u64 b, .int .u64 p] 47)) r (c + m) b p).cells
      rw [size_box] at K
      obtain ⟨k0, k1, k2, k3⟩ := K
      have e : (raiseR ⟨r, c, b, p⟩ m).val = vv r (c + m) b p := by
        rw [raise_lo (by unfold topC; omega)]
      exact bodyPost_ret (v := vv r (c + m) b p) (by simp [results, Tryz.results188, go_sem, k0, k1, k2, k3]) rfl ⟨by rw [e], bw_alloc (below_box _ _) _⟩
theorem raise_w (r c b p m C : Int) (w : World) (hC : Hid ((raiseR ⟨r, c, b, p⟩ m).cost = C)) (hc : u64B c) (hm : u64B m) :
    Calls Tryz.prog 188 #[vv r c b p, .int .u64 m] w fun e w' => e = .returned (vv r C b p) ∧ Below w.heap.size w w' := by
  have H := raise_any r c b p m w hc hm
  have e : (raiseR ⟨r, c, b, p⟩ m).val = vv r C b p := by rw [← hC.out]; rfl
  rw [e] at H
  exact H
theorem strCells_append (a b : ByteArray) : Lib.strCells (a ++ b) = Lib.strCells a ++ Lib.strCells b := by
  simp [Lib.strCells]
theorem byte_cell (N k : Nat) : Lib.strCells ⟨#[UInt8.ofNat (N / k % 256)]⟩ = [Value.int .u8 ((N : Int) / (k : Int) % 256)] := by
  simp only [Lib.strCells, List.map_cons, List.map_nil]
  congr 2
  rw [UInt8.toNat_ofNat']
  have : ((N / k % 256 : Nat) : Int) = (N : Int) / (k : Int) % 256 := by simp
  omega
theorem six_cells (N : Nat) : Lib.strCells (Bm.be N 6) = [Value.int .u8 ((N : Int) / 1099511627776 % 256), Value.int .u8 ((N : Int) / 4294967296 % 256), Value.int .u8 ((N : Int) / 16777216 % 256), Value.int .u8 ((N : Int) / 65536 % 256), Value.int .u8 ((N : Int) / 256 % 256), Value.int .u8 ((N : Int) % 256)] := by
  have h : Lib.strCells (Bm.be N 6) = Lib.strCells ⟨#[UInt8.ofNat (N / 256 ^ 5 % 256)]⟩ ++ (Lib.strCells ⟨#[UInt8.ofNat (N / 256 ^ 4 % 256)]⟩ ++ (Lib.strCells ⟨#[UInt8.ofNat (N / 256 ^ 3 % 256)]⟩ ++ (Lib.strCells ⟨#[UInt8.ofNat (N / 256 ^ 2 % 256)]⟩ ++ (Lib.strCells ⟨#[UInt8.ofNat (N / 256 ^ 1 % 256)]⟩ ++ (Lib.strCells ⟨#[UInt8.ofNat (N / 256 ^ 0 % 256)]⟩ ++ Lib.strCells ⟨#[]⟩))))) := by
    simp only [Bm.be, strCells_append]
  rw [h]
  simp only [byte_cell]
  simp [Lib.strCells]
/-- The bytes in a block of any type, turned into a string. -/
theorem conv_at (W : World) (b cap n : Nat) (cs : Array Value) (T : TypeId) (s : ByteArray) (hb : W.heap[b]? = some (.cells cs T (0, 0))) (hc : cs.toList = Lib.strCells s) (hn : n = s.size) :
    Sem.run Tryz.prog (convert 256 9 (.slice (some ⟨b, 0, none⟩) n cap)) W = .ok (.string s) W := by
  have e : s.size = s.data.toList.length := by rw [Array.length_toList]; rfl
  have h := run_convert_bytes_back (P := Tryz.prog) W 256 9 5 ⟨b, 0, none⟩ cap s.data.toList Tryz.underlying256 Tryz.underlying5 Tryz.underlying9 (by
    intro j hj
    rw [Addr.add_lit]
    have hk : W.cell? ⟨b, 0 + j, none⟩ = cs[j]? := by simp [World.cell?, hb]
    rw [hk, ← Array.getElem?_toList, hc]
    rw [Array.length_toList] at hj
    simp only [Lib.strCells, List.getElem?_map, Array.getElem?_toList, Array.getElem_toList]
    rw [Array.getElem?_eq_getElem hj]
    rfl)
  rw [← e] at h
  rw [hn, h]
set_option maxHeartbeats 1000000 in
theorem text_any (n : Int) (w : World) (hn : u64B n) :
    Calls Tryz.prog 209 #[.int .u64 n] w fun e w' => e = .returned (.string (Bm.be n.toNat 6)) ∧ Below w.heap.size w w' := by
  obtain ⟨hn0, hn1⟩ := hn
  go_enter Tryz.func209, Tryz.ntmps209
  go_wp2_with fail
  refine wp_loop_rounds 7 ?_
  rw [rounds_succ]
  go_wp2_with fail
  rw [rounds_succ]
  go_wp2_with fail
  rw [rounds_succ]
  go_wp2_with fail
  rw [rounds_succ]
  go_wp2_with fail
  rw [rounds_succ]
  go_wp2_with fail
  rw [rounds_succ]
  go_wp2_with fail
  rw [rounds_succ]
  go_upto_region 7 with (fail)
  obtain ⟨N, rfl⟩ := Int.eq_ofNat_of_zero_le hn0
  have hc := six_cells N
  obtain ⟨W, hW⟩ : ∃ W, W = w.alloc (.cells #[.int .u8 ((N : Int) / 1099511627776 % 256), .int .u8 ((N : Int) / 4294967296 % 256), .int .u8 ((N : Int) / 16777216 % 256), .int .u8 ((N : Int) / 65536 % 256), .int .u8 ((N : Int) / 256 % 256), .int .u8 ((N : Int) % 256)] 255) := ⟨_, rfl⟩
  have hb : W.heap[w.heap.size]? = some (.cells #[.int .u8 ((N : Int) / 1099511627776 % 256), .int .u8 ((N : Int) / 4294967296 % 256), .int .u8 ((N : Int) / 16777216 % 256), .int .u8 ((N : Int) / 65536 % 256), .int .u8 ((N : Int) / 256 % 256), .int .u8 ((N : Int) % 256)] 255 (0, 0)) := by rw [hW]; exact heap_alloc_new w _
  have B : Below w.heap.size w W := by rw [hW]; exact below_box _ _
  rw [← hW]
  clear hW
  have hr := conv_at W w.heap.size 6 6 _ _ (Bm.be N 6) hb hc.symm (Bm.be_size N 6).symm
  clear hb hc
  go_wp2
  go_ret
  exact ⟨rfl, B⟩
set_option maxHeartbeats 1000000 in
theorem split_any (n : Int) (w : World) (hn : u64B n) :
    Calls Tryz.prog 189 #[.int .u64 n] w fun e w' => e = .returned (.tuple #[.int .i64 (n / 1152921504606846976), .int .i64 (n / 281474976710656 % 4096), .string (Bm.be n.toNat 6)]) ∧ Below w.heap.size w w' := by
  have hn' := hn
  obtain ⟨hn0, hn1⟩ := hn
  have hm := mask_12 (n / 281474976710656) ⟨by omega, by omega⟩
  obtain ⟨V, hV⟩ : ∃ V, n / 281474976710656 % 4096 = V := ⟨_, rfl⟩
  have hV0 : 0 ≤ V := by omega
  have hV1 : V < 4096 := by omega
  rw [hV] at hm ⊢
  clear hV
  go_enter Tryz.func189, Tryz.ntmps189
  go_wp2_with fail
  refine (text_any n _ hn').mono ?_
  rintro e w1 ⟨rfl, hb1⟩
  go_wp2
  exact bodyPost_ret (v := .tuple #[.int .i64 (n / 1152921504606846976), .int .i64 V, .string (Bm.be n.toNat 6)]) (by simp [results, Tryz.results189, go_sem]) rfl ⟨rfl, hb1⟩
end Go.Proofs.YtldobcfejldbiaaGreatDoor

namespace Go.Proofs.YtldobcfejldbiaaGreatDoor
set_option linter.unusedVariables false
set_option linter.unusedSimpArgs false
open Go.RowKit Vm Rm

theorem at_some {α : Type} {l : List α} {k : Nat} (h : k < l.length) : ∃ x, l[k]? = some x := ⟨l[k], List.getElem?_eq_getElem h⟩
theorem below_drewN {B : Nat} {a w : World} (h : Below B a w) (n : Nat) : Below B a (w.drewN n) := ⟨h.os, h.tape, h.output, h.size, h.block⟩
abbrev iv (i c s r k b p : Int) : Value := .agg #[.int .u64 i, .int .u64 c, .int .i64 s, .int .u64 r, .int .u64 k, .int .u64 b, .int .u64 p]
abbrev Rm.Inf.val (x : Inf) : Value := iv x.id x.cost x.source x.vec.root x.vec.cost x.vec.bridge x.vec.port
/-- The seven cells of what is known of a port. -/
def At7 (w : World) (g o : Nat) (i c s r k b p : Int) : Prop :=
  w.cell? ⟨g, o, none⟩ = some (.int .u64 i) ∧ w.cell? ⟨g, o + 1, none⟩ = some (.int .u64 c) ∧ w.cell? ⟨g, o + 2, none⟩ = some (.int .i64 s) ∧ w.cell? ⟨g, o + 3, none⟩ = some (.int .u64 r) ∧ w.cell? ⟨g, o + 4, none⟩ = some (.int .u64 k) ∧ w.cell? ⟨g, o + 5, none⟩ = some (.int .u64 b) ∧ w.cell? ⟨g, o + 6, none⟩ = some (.int .u64 p)
def AtI (w : World) (g o : Nat) (x : Inf) : Prop := At7 w g o x.id x.cost x.source x.vec.root x.vec.cost x.vec.bridge x.vec.port
theorem At7.below {w w' : World} {g o B : Nat} {i c s r k b p : Int} (h : At7 w g o i c s r k b p) (hb : Below B w w') (hB : g < B) : At7 w' g o i c s r k b p := by
  obtain ⟨k0, k1, k2, k3, k4, k5, k6⟩ := h
  exact ⟨(hb.cell (p := ⟨g, o, none⟩) hB).trans k0, (hb.cell (p := ⟨g, o + 1, none⟩) hB).trans k1, (hb.cell (p := ⟨g, o + 2, none⟩) hB).trans k2, (hb.cell (p := ⟨g, o + 3, none⟩) hB).trans k3, (hb.cell (p := ⟨g, o + 4, none⟩) hB).trans k4, (hb.cell (p := ⟨g, o + 5, none⟩) hB).trans k5, (hb.cell (p := ⟨g, o + 6, none⟩) hB).trans k6⟩
def inI64 (n : Int) : Prop := -9223372036854775808 ≤ n ∧ n ≤ 9223372036854775807
structure InfOk (x : Inf) : Prop where
  id : u64B x.id
  cost : u64B x.cost
  source : inI64 x.source
  vec : x.vec.ok
/-- A row of what is known of ports. -/
structure IRow (w : World) (a : Option Addr) (l : List Inf) : Prop where
  at_ : ∀ j x, l[j]? = some x → ∃ g o : Nat, a = some ⟨g, o, none⟩ ∧ g < w.heap.size ∧ AtI w g (o + j * 7) x
  rng : ∀ x ∈ l, InfOk x
theorem IRow.next {w w' : World} {a : Option Addr} {l : List Inf} (h : IRow w a l) (hb : Below w.heap.size w w') : IRow w' a l :=
  ⟨fun j x hx => by obtain ⟨g, o, e, hg, k⟩ := h.at_ j x hx; exact ⟨g, o, e, Nat.lt_of_lt_of_le hg hb.size, At7.below k hb hg⟩, h.rng⟩
theorem IRow.ok {w : World} {a : Option Addr} {l : List Inf} (h : IRow w a l) {j : Nat} {x : Inf} (hx : l[j]? = some x) : InfOk x := h.rng x (List.mem_of_getElem? hx)
/-- A block that holds what is known of a port. -/
def IBlk (T : TypeId) (w : World) (n : Nat) (i c s r k b p : Int) : Prop :=
  w.heap[n]? = some (.cells #[.int .u64 i, .int .u64 c, .int .i64 s, .int .u64 r, .int .u64 k, .int .u64 b, .int .u64 p] T (0, 0))
theorem IBlk.below {T : TypeId} {w w' : World} {n B : Nat} {i c s r k b p : Int} (h : IBlk T w n i c s r k b p) (hb : Below B w w') (hB : n < B) : IBlk T w' n i c s r k b p := (hb.block n hB).trans h
theorem IBlk.lt {T : TypeId} {w : World} {n : Nat} {i c s r k b p : Int} (h : IBlk T w n i c s r k b p) : n < w.heap.size := (Array.getElem?_eq_some_iff.1 h).1
theorem IBlk.next {T : TypeId} {w w' : World} {n : Nat} {i c s r k b p : Int} (h : IBlk T w n i c s r k b p) (hb : Below w.heap.size w w') : IBlk T w' n i c s r k b p := h.below hb h.lt
theorem iblk_new (T : TypeId) (w : World) (i c s r k b p : Int) : IBlk T (w.alloc (.cells #[.int .u64 i, .int .u64 c, .int .i64 s, .int .u64 r, .int .u64 k, .int .u64 b, .int .u64 p] T)) w.heap.size i c s r k b p := heap_alloc_new w _
theorem IBlk.cells {T : TypeId} {w : World} {n : Nat} {i c s r k b p : Int} (H : IBlk T w n i c s r k b p) :
    w.cell? ⟨n, 0, none⟩ = some (.int .u64 i) ∧ w.cell? ⟨n, 1, none⟩ = some (.int .u64 c) ∧ w.cell? ⟨n, 2, none⟩ = some (.int .i64 s) ∧ w.cell? ⟨n, 3, none⟩ = some (.int .u64 r) ∧ w.cell? ⟨n, 4, none⟩ = some (.int .u64 k) ∧ w.cell? ⟨n, 5, none⟩ = some (.int .u64 b) ∧ w.cell? ⟨n, 6, none⟩ = some (.int .u64 p) := by
  unfold IBlk at H
  refine ⟨?_, ?_, ?_, ?_, ?_, ?_, ?_⟩ <;> simp [World.cell?, H]
/-- A block of four, filled anew. -/
abbrev put4 (w : World) (n : Nat) (r c b p : Int) : World := (((w.setCell ⟨n, 0, none⟩ (.int .u64 r)).setCell ⟨n, 1, none⟩ (.int .u64 c)).setCell ⟨n, 2, none⟩ (.int .u64 b)).setCell ⟨n, 3, none⟩ (.int .u64 p)
theorem blk_set {w : World} {b i : Nat} {cs cs' : Array Value} {T : TypeId} {x : Value} (h : w.heap[b]? = some (.cells cs T (0, 0))) (hc : cs.setIfInBounds i x = cs') : (w.setCell ⟨b, i, none⟩ x).heap[b]? = some (.cells cs' T (0, 0)) := by
  rw [Joins.block_setCell h x, hc]
theorem Blk.set4 {T : TypeId} {w : World} {n : Nat} {x : Vc} (h : Blk T w n x) (r c b p : Int) : Blk T (put4 w n r c b p) n ⟨r, c, b, p⟩ := by
  unfold Blk at h ⊢
  exact blk_set (blk_set (blk_set (blk_set h rfl) rfl) rfl) rfl
theorem below_put4 {B : Nat} {a w : World} (h : Below B a w) {n : Nat} (hn : B ≤ n) (r c b p : Int) : Below B a (put4 w n r c b p) :=
  (((h.setCell (p := ⟨n, 0, none⟩) hn _).setCell (p := ⟨n, 1, none⟩) hn _).setCell (p := ⟨n, 2, none⟩) hn _).setCell (p := ⟨n, 3, none⟩) hn _
theorem run_vcEq (r c b p r' c' b' p' : Int) (w : World) :
    Sem.run Tryz.prog (binOp .eql 47 (vv r c b p) (vv r' c' b' p')) w = .ok (.bool (decide ((⟨r, c, b, p⟩ : Vc) = ⟨r', c', b', p'⟩))) w := by
  unfold vv
  go_simp
  repeat' split
  all_goals simp_all

theorem be_mod {x y : Int} (hx : u64B x) (hy : u64B y) : (Bm.be x.toNat 6 = Bm.be y.toNat 6) ↔ x % 281474976710656 = y % 281474976710656 := by
  obtain ⟨x0, x1⟩ := hx
  obtain ⟨y0, y1⟩ := hy
  constructor
  · intro h
    have a := Bm.num_be x.toNat 6
    have b := Bm.num_be y.toNat 6
    rw [h, b] at a
    omega
  · intro h
    have key : ∀ (k n m : Nat), n % 256 ^ k = m % 256 ^ k → Bm.be n k = Bm.be m k := by
      intro k
      induction k with
      | zero => intro n m _; rfl
      | succ k ih =>
        intro n m e
        have e1 : n % 256 ^ k = m % 256 ^ k := by
          have := congrArg (· % 256 ^ k) e
          simp only [Nat.pow_succ, Nat.mod_mul_right_mod] at this
          exact this
        have e2 : n / 256 ^ k % 256 = m / 256 ^ k % 256 := by
          have h1 := Nat.mod_mul_right_div_self n (256 ^ k) 256
          have h2 := Nat.mod_mul_right_div_self m (256 ^ k) 256
          rw [← h1, ← h2, ← Nat.pow_succ, e]
        simp only [Bm.be]
        rw [ih n m e1, e2]
    exact key 6 _ _ (by omega)

set_option maxHeartbeats 400000 in
theorem same_w (a b : Int) (R : Bool) (w : World) (ha : u64B a) (hb : u64B b) (hR : Hid (decide (a % 281474976710656 = b % 281474976710656) = R)) :
    Calls Tryz.prog 151 #[.int .u64 a, .int .u64 b] w fun e w' => e = .returned (.bool R) ∧ Below w.heap.size w w' := by
  have e : decide (Bm.be a.toNat 6 = Bm.be b.toNat 6) = R := by
    rw [← hR.out]
    exact decide_eq_decide.2 (be_mod ha hb)
  have CA := Lib.hid (fun w' => split_any a w' ha)
  have CB := Lib.hid (fun w' => split_any b w' hb)
  obtain ⟨s, hs⟩ : ∃ s, Bm.be a.toNat 6 = s := ⟨_, rfl⟩
  obtain ⟨t, ht⟩ : ∃ t, Bm.be b.toNat 6 = t := ⟨_, rfl⟩
  rw [hs] at CA e
  rw [ht] at CB e
  have E := Lib.hid e
  clear e hs ht ha hb hR
  go_enter Tryz.func151, Tryz.ntmps151
  go_wp2_with fail
  (with_reducible refine (CA.out _).mono ?_)
  rintro e w1 ⟨rfl, hb1⟩
  go_wp2_with fail
  (with_reducible refine (CB.out _).mono ?_)
  rintro e w2 ⟨rfl, hb2⟩
  go_wp2
  go_ret
  refine ⟨ret_bool ?_, bw_trans hb1 hb2⟩
  rw [← E.out, Bool.eq_iff_iff, beq_iff_eq, decide_eq_true_iff, ByteArray.toList_eq, ByteArray.toList_eq]
  exact ⟨fun h => ByteArray.ext (Array.toList_inj.1 h), fun h => by rw [h]⟩

set_option maxHeartbeats 400000 in
theorem mine_w (n : Int) (w : World) :
    Calls Tryz.prog 148 #[.int .u64 n] w fun e w' => e = .returned (vv n 0 n 0) ∧ Below w.heap.size w w' := by
  go_enter Tryz.func148, Tryz.ntmps148
  go_wp2
  obtain ⟨k0, k1, k2, k3⟩ := (blk_new 47 w n 0 n 0).cells
  exact bodyPost_ret (v := vv n 0 n 0) (by simp [results, Tryz.results148, go_sem, k0, k1, k2, k3]) rfl ⟨rfl, below_box _ _⟩

set_option maxHeartbeats 1000000 in
theorem port_w (i c s r k b p : Int) (R : Bool) (w : World) (hR : Hid (infB ⟨i, c, s, ⟨r, k, b, p⟩⟩ = R)) (hi : u64B i) (hc : u64B c) (hk : u64B k) :
    Calls Tryz.prog 146 #[iv i c s r k b p] w fun e w' => e = .returned (.bool R) ∧ Below w.heap.size w w' := by
  obtain ⟨hi0, hi1⟩ := hi
  obtain ⟨hc0, hc1⟩ := hc
  obtain ⟨hk0, hk1⟩ := hk
  have hq := run_vcEq r k b p 0 0 0 0
  go_enter Tryz.func146, Tryz.ntmps146
  go_wp2
  all_goals go_ret
  all_goals refine ⟨ret_bool ?_, below_box _ _⟩
  all_goals rw [← hR.out, Bool.eq_iff_iff]
  all_goals (unfold infB zeroV; simp only [beq_iff_eq, beq_eq_false_iff_ne, ne_eq, decide_eq_true_iff, Vc.mk.injEq] at *; try simp; try omega)
  rename_i e3
  clear hq
  subst e3
  exact ⟨fun h => ⟨by omega, by omega, by omega, h, fun h => absurd h (by omega)⟩, fun h => h.2.2.2.1⟩

set_option maxHeartbeats 1000000 in
theorem ident_w (n i c s r k b p i' : Int) (cs : Nat) (w : World) (hc : w.cell? ⟨cs, 0, none⟩ = some (.int .u64 i')) (hl : cs < w.heap.size) :
    Calls Tryz.prog 145 #[iv i c s r k b p, .pointer (some ⟨cs, 0, none⟩)] w fun e w' => e = .returned (.bool (decide (i = i'))) ∧ Below w.heap.size w w' := by
  go_enter Tryz.func145, Tryz.ntmps145
  go_wp2
  go_ret
  refine ⟨ret_bool ?_, below_box _ _⟩
  first | rfl | simp

end Go.Proofs.YtldobcfejldbiaaGreatDoor

namespace Go.Proofs.YtldobcfejldbiaaGreatDoor
set_option linter.unusedVariables false
set_option linter.unusedSimpArgs false
open Go.RowKit Vm Rm Bm Im

def cellsT (p : Pt) : Array Value := #[.int .u64 p.id, .int .u64 p.cost, .bool p.on, .bool p.admin, .bool p.oper, .int .i64 p.source, .int .u64 p.vec.root, .int .u64 p.vec.cost, .int .u64 p.vec.bridge, .int .u64 p.vec.port, .int .i64 p.times.age, .int .i64 p.times.max, .int .i64 p.times.hello, .int .i64 p.times.delay, .int .u64 p.offer.root, .int .u64 p.offer.cost, .int .u64 p.offer.bridge, .int .u64 p.offer.port, .int .i64 p.given.age, .int .i64 p.given.max, .int .i64 p.given.hello, .int .i64 p.given.delay, .int .i64 p.role, .int .i64 p.selected, .bool p.ready, .bool p.update, .bool p.reselect, .bool p.learn, .bool p.learning, .bool p.forward, .bool p.forwarding, .bool p.agree, .bool p.agreed, .bool p.proposed, .bool p.proposing, .bool p.sync, .bool p.synced, .bool p.reroot, .bool p.disputed, .bool p.newInfo, .bool p.heardTc, .bool p.heardTcn, .bool p.heardAck, .bool p.tcAck, .bool p.tcProp, .bool p.flush, .bool p.sendRstp, .bool p.heardRstp, .bool p.heardStp, .bool p.check, .int .i64 p.fd, .int .i64 p.rr, .int .i64 p.rb, .int .i64 p.tc, .int .i64 p.edge, .int .i64 p.md, .int .i64 p.info, .int .i64 p.hello, .int .i64 p.txCount, .int .i64 p.change, .int .i64 p.migrate]
theorem cellsT_size (p : Pt) : (cellsT p).size = 61 := rfl
theorem cellsT_one (p : Pt) : (cellsT p).all (·.oneCell') = true := by simp [cellsT, Value.oneCell']
def PtBlk (T : TypeId) (w : World) (b : Nat) (p : Pt) : Prop := w.heap[b]? = some (.cells (cellsT p) T (0, 0))
section
variable {T : TypeId} {w w' : World} {b : Nat} {p : Pt}
theorem PtBlk.lt (h : PtBlk T w b p) : b < w.heap.size := (Array.getElem?_eq_some_iff.1 h).1
theorem PtBlk.same (h : PtBlk T w b p) (hb : w'.heap[b]? = w.heap[b]?) : PtBlk T w' b p := hb.trans h
theorem PtBlk.next (h : PtBlk T w b p) (hb : Below w.heap.size w w') : PtBlk T w' b p := h.same (hb.block b h.lt)
theorem ptblk_new (T : TypeId) (w : World) (p : Pt) : PtBlk T (w.alloc (.cells (cellsT p) T)) w.heap.size p := heap_alloc_new w _
theorem PtBlk.free (h : PtBlk T w b p) (j : Nat) : w.frozen? ⟨b, j, none⟩ = false := by
  unfold PtBlk at h
  simp [World.frozen?, h]
theorem PtBlk.row (h : PtBlk T w b p) (q : Pt) : PtBlk T (w.setRow b (cellsT q)) b q := setRow_heap w b _ _ T _ h
/-! Each field's cell; a field stored. -/
theorem PtBlk.c_id (h : PtBlk T w b p) : w.cell? ⟨b, 0, none⟩ = some (.int .u64 p.id) := (cell_of_row w b 0 (cellsT p) T _ h).trans rfl
theorem PtBlk.c_cost (h : PtBlk T w b p) : w.cell? ⟨b, 1, none⟩ = some (.int .u64 p.cost) := (cell_of_row w b 1 (cellsT p) T _ h).trans rfl
theorem PtBlk.c_on (h : PtBlk T w b p) : w.cell? ⟨b, 2, none⟩ = some (.bool p.on) := (cell_of_row w b 2 (cellsT p) T _ h).trans rfl
theorem PtBlk.c_admin (h : PtBlk T w b p) : w.cell? ⟨b, 3, none⟩ = some (.bool p.admin) := (cell_of_row w b 3 (cellsT p) T _ h).trans rfl
theorem PtBlk.c_oper (h : PtBlk T w b p) : w.cell? ⟨b, 4, none⟩ = some (.bool p.oper) := (cell_of_row w b 4 (cellsT p) T _ h).trans rfl
theorem PtBlk.c_source (h : PtBlk T w b p) : w.cell? ⟨b, 5, none⟩ = some (.int .i64 p.source) := (cell_of_row w b 5 (cellsT p) T _ h).trans rfl
theorem PtBlk.c_vec_root (h : PtBlk T w b p) : w.cell? ⟨b, 6, none⟩ = some (.int .u64 p.vec.root) := (cell_of_row w b 6 (cellsT p) T _ h).trans rfl
theorem PtBlk.c_vec_cost (h : PtBlk T w b p) : w.cell? ⟨b, 7, none⟩ = some (.int .u64 p.vec.cost) := (cell_of_row w b 7 (cellsT p) T _ h).trans rfl
theorem PtBlk.c_vec_bridge (h : PtBlk T w b p) : w.cell? ⟨b, 8, none⟩ = some (.int .u64 p.vec.bridge) := (cell_of_row w b 8 (cellsT p) T _ h).trans rfl
theorem PtBlk.c_vec_port (h : PtBlk T w b p) : w.cell? ⟨b, 9, none⟩ = some (.int .u64 p.vec.port) := (cell_of_row w b 9 (cellsT p) T _ h).trans rfl
theorem PtBlk.c_times_age (h : PtBlk T w b p) : w.cell? ⟨b, 10, none⟩ = some (.int .i64 p.times.age) := (cell_of_row w b 10 (cellsT p) T _ h).trans rfl
theorem PtBlk.c_times_max (h : PtBlk T w b p) : w.cell? ⟨b, 11, none⟩ = some (.int .i64 p.times.max) := (cell_of_row w b 11 (cellsT p) T _ h).trans rfl
theorem PtBlk.c_times_hello (h : PtBlk T w b p) : w.cell? ⟨b, 12, none⟩ = some (.int .i64 p.times.hello) := (cell_of_row w b 12 (cellsT p) T _ h).trans rfl
theorem PtBlk.c_times_delay (h : PtBlk T w b p) : w.cell? ⟨b, 13, none⟩ = some (.int .i64 p.times.delay) := (cell_of_row w b 13 (cellsT p) T _ h).trans rfl
theorem PtBlk.c_offer_root (h : PtBlk T w b p) : w.cell? ⟨b, 14, none⟩ = some (.int .u64 p.offer.root) := (cell_of_row w b 14 (cellsT p) T _ h).trans rfl
theorem PtBlk.c_offer_cost (h : PtBlk T w b p) : w.cell? ⟨b, 15, none⟩ = some (.int .u64 p.offer.cost) := (cell_of_row w b 15 (cellsT p) T _ h).trans rfl
theorem PtBlk.c_offer_bridge (h : PtBlk T w b p) : w.cell? ⟨b, 16, none⟩ = some (.int .u64 p.offer.bridge) := (cell_of_row w b 16 (cellsT p) T _ h).trans rfl
theorem PtBlk.c_offer_port (h : PtBlk T w b p) : w.cell? ⟨b, 17, none⟩ = some (.int .u64 p.offer.port) := (cell_of_row w b 17 (cellsT p) T _ h).trans rfl
theorem PtBlk.c_given_age (h : PtBlk T w b p) : w.cell? ⟨b, 18, none⟩ = some (.int .i64 p.given.age) := (cell_of_row w b 18 (cellsT p) T _ h).trans rfl
theorem PtBlk.c_given_max (h : PtBlk T w b p) : w.cell? ⟨b, 19, none⟩ = some (.int .i64 p.given.max) := (cell_of_row w b 19 (cellsT p) T _ h).trans rfl
theorem PtBlk.c_given_hello (h : PtBlk T w b p) : w.cell? ⟨b, 20, none⟩ = some (.int .i64 p.given.hello) := (cell_of_row w b 20 (cellsT p) T _ h).trans rfl
theorem PtBlk.c_given_delay (h : PtBlk T w b p) : w.cell? ⟨b, 21, none⟩ = some (.int .i64 p.given.delay) := (cell_of_row w b 21 (cellsT p) T _ h).trans rfl
theorem PtBlk.c_role (h : PtBlk T w b p) : w.cell? ⟨b, 22, none⟩ = some (.int .i64 p.role) := (cell_of_row w b 22 (cellsT p) T _ h).trans rfl
theorem PtBlk.c_selected (h : PtBlk T w b p) : w.cell? ⟨b, 23, none⟩ = some (.int .i64 p.selected) := (cell_of_row w b 23 (cellsT p) T _ h).trans rfl
theorem PtBlk.c_ready (h : PtBlk T w b p) : w.cell? ⟨b, 24, none⟩ = some (.bool p.ready) := (cell_of_row w b 24 (cellsT p) T _ h).trans rfl
theorem PtBlk.c_update (h : PtBlk T w b p) : w.cell? ⟨b, 25, none⟩ = some (.bool p.update) := (cell_of_row w b 25 (cellsT p) T _ h).trans rfl
theorem PtBlk.c_reselect (h : PtBlk T w b p) : w.cell? ⟨b, 26, none⟩ = some (.bool p.reselect) := (cell_of_row w b 26 (cellsT p) T _ h).trans rfl
theorem PtBlk.c_learn (h : PtBlk T w b p) : w.cell? ⟨b, 27, none⟩ = some (.bool p.learn) := (cell_of_row w b 27 (cellsT p) T _ h).trans rfl
theorem PtBlk.c_learning (h : PtBlk T w b p) : w.cell? ⟨b, 28, none⟩ = some (.bool p.learning) := (cell_of_row w b 28 (cellsT p) T _ h).trans rfl
theorem PtBlk.c_forward (h : PtBlk T w b p) : w.cell? ⟨b, 29, none⟩ = some (.bool p.forward) := (cell_of_row w b 29 (cellsT p) T _ h).trans rfl
theorem PtBlk.c_forwarding (h : PtBlk T w b p) : w.cell? ⟨b, 30, none⟩ = some (.bool p.forwarding) := (cell_of_row w b 30 (cellsT p) T _ h).trans rfl
theorem PtBlk.c_agree (h : PtBlk T w b p) : w.cell? ⟨b, 31, none⟩ = some (.bool p.agree) := (cell_of_row w b 31 (cellsT p) T _ h).trans rfl
theorem PtBlk.c_agreed (h : PtBlk T w b p) : w.cell? ⟨b, 32, none⟩ = some (.bool p.agreed) := (cell_of_row w b 32 (cellsT p) T _ h).trans rfl
theorem PtBlk.c_proposed (h : PtBlk T w b p) : w.cell? ⟨b, 33, none⟩ = some (.bool p.proposed) := (cell_of_row w b 33 (cellsT p) T _ h).trans rfl
theorem PtBlk.c_proposing (h : PtBlk T w b p) : w.cell? ⟨b, 34, none⟩ = some (.bool p.proposing) := (cell_of_row w b 34 (cellsT p) T _ h).trans rfl
theorem PtBlk.c_sync (h : PtBlk T w b p) : w.cell? ⟨b, 35, none⟩ = some (.bool p.sync) := (cell_of_row w b 35 (cellsT p) T _ h).trans rfl
theorem PtBlk.c_synced (h : PtBlk T w b p) : w.cell? ⟨b, 36, none⟩ = some (.bool p.synced) := (cell_of_row w b 36 (cellsT p) T _ h).trans rfl
theorem PtBlk.c_reroot (h : PtBlk T w b p) : w.cell? ⟨b, 37, none⟩ = some (.bool p.reroot) := (cell_of_row w b 37 (cellsT p) T _ h).trans rfl
theorem PtBlk.c_disputed (h : PtBlk T w b p) : w.cell? ⟨b, 38, none⟩ = some (.bool p.disputed) := (cell_of_row w b 38 (cellsT p) T _ h).trans rfl
theorem PtBlk.c_newInfo (h : PtBlk T w b p) : w.cell? ⟨b, 39, none⟩ = some (.bool p.newInfo) := (cell_of_row w b 39 (cellsT p) T _ h).trans rfl
theorem PtBlk.c_heardTc (h : PtBlk T w b p) : w.cell? ⟨b, 40, none⟩ = some (.bool p.heardTc) := (cell_of_row w b 40 (cellsT p) T _ h).trans rfl
theorem PtBlk.c_heardTcn (h : PtBlk T w b p) : w.cell? ⟨b, 41, none⟩ = some (.bool p.heardTcn) := (cell_of_row w b 41 (cellsT p) T _ h).trans rfl
theorem PtBlk.c_heardAck (h : PtBlk T w b p) : w.cell? ⟨b, 42, none⟩ = some (.bool p.heardAck) := (cell_of_row w b 42 (cellsT p) T _ h).trans rfl
theorem PtBlk.c_tcAck (h : PtBlk T w b p) : w.cell? ⟨b, 43, none⟩ = some (.bool p.tcAck) := (cell_of_row w b 43 (cellsT p) T _ h).trans rfl
theorem PtBlk.c_tcProp (h : PtBlk T w b p) : w.cell? ⟨b, 44, none⟩ = some (.bool p.tcProp) := (cell_of_row w b 44 (cellsT p) T _ h).trans rfl
theorem PtBlk.c_flush (h : PtBlk T w b p) : w.cell? ⟨b, 45, none⟩ = some (.bool p.flush) := (cell_of_row w b 45 (cellsT p) T _ h).trans rfl
theorem PtBlk.c_sendRstp (h : PtBlk T w b p) : w.cell? ⟨b, 46, none⟩ = some (.bool p.sendRstp) := (cell_of_row w b 46 (cellsT p) T _ h).trans rfl
theorem PtBlk.c_heardRstp (h : PtBlk T w b p) : w.cell? ⟨b, 47, none⟩ = some (.bool p.heardRstp) := (cell_of_row w b 47 (cellsT p) T _ h).trans rfl
theorem PtBlk.c_heardStp (h : PtBlk T w b p) : w.cell? ⟨b, 48, none⟩ = some (.bool p.heardStp) := (cell_of_row w b 48 (cellsT p) T _ h).trans rfl
theorem PtBlk.c_check (h : PtBlk T w b p) : w.cell? ⟨b, 49, none⟩ = some (.bool p.check) := (cell_of_row w b 49 (cellsT p) T _ h).trans rfl
theorem PtBlk.c_fd (h : PtBlk T w b p) : w.cell? ⟨b, 50, none⟩ = some (.int .i64 p.fd) := (cell_of_row w b 50 (cellsT p) T _ h).trans rfl
theorem PtBlk.c_rr (h : PtBlk T w b p) : w.cell? ⟨b, 51, none⟩ = some (.int .i64 p.rr) := (cell_of_row w b 51 (cellsT p) T _ h).trans rfl
theorem PtBlk.c_rb (h : PtBlk T w b p) : w.cell? ⟨b, 52, none⟩ = some (.int .i64 p.rb) := (cell_of_row w b 52 (cellsT p) T _ h).trans rfl
theorem PtBlk.c_tc (h : PtBlk T w b p) : w.cell? ⟨b, 53, none⟩ = some (.int .i64 p.tc) := (cell_of_row w b 53 (cellsT p) T _ h).trans rfl
theorem PtBlk.c_edge (h : PtBlk T w b p) : w.cell? ⟨b, 54, none⟩ = some (.int .i64 p.edge) := (cell_of_row w b 54 (cellsT p) T _ h).trans rfl
theorem PtBlk.c_md (h : PtBlk T w b p) : w.cell? ⟨b, 55, none⟩ = some (.int .i64 p.md) := (cell_of_row w b 55 (cellsT p) T _ h).trans rfl
theorem PtBlk.c_info (h : PtBlk T w b p) : w.cell? ⟨b, 56, none⟩ = some (.int .i64 p.info) := (cell_of_row w b 56 (cellsT p) T _ h).trans rfl
theorem PtBlk.c_hello (h : PtBlk T w b p) : w.cell? ⟨b, 57, none⟩ = some (.int .i64 p.hello) := (cell_of_row w b 57 (cellsT p) T _ h).trans rfl
theorem PtBlk.c_txCount (h : PtBlk T w b p) : w.cell? ⟨b, 58, none⟩ = some (.int .i64 p.txCount) := (cell_of_row w b 58 (cellsT p) T _ h).trans rfl
theorem PtBlk.c_change (h : PtBlk T w b p) : w.cell? ⟨b, 59, none⟩ = some (.int .i64 p.change) := (cell_of_row w b 59 (cellsT p) T _ h).trans rfl
theorem PtBlk.c_migrate (h : PtBlk T w b p) : w.cell? ⟨b, 60, none⟩ = some (.int .i64 p.migrate) := (cell_of_row w b 60 (cellsT p) T _ h).trans rfl
theorem PtBlk.s_on (h : PtBlk T w b p) (x : Bool) : PtBlk T (w.setCell ⟨b, 2, none⟩ (.bool x)) b { p with on := x } := by unfold PtBlk at h ⊢; exact blk_set h rfl
theorem PtBlk.s_oper (h : PtBlk T w b p) (x : Bool) : PtBlk T (w.setCell ⟨b, 4, none⟩ (.bool x)) b { p with oper := x } := by unfold PtBlk at h ⊢; exact blk_set h rfl
theorem PtBlk.s_source (h : PtBlk T w b p) (x : Int) : PtBlk T (w.setCell ⟨b, 5, none⟩ (.int .i64 x)) b { p with source := x } := by unfold PtBlk at h ⊢; exact blk_set h rfl
theorem PtBlk.s_role (h : PtBlk T w b p) (x : Int) : PtBlk T (w.setCell ⟨b, 22, none⟩ (.int .i64 x)) b { p with role := x } := by unfold PtBlk at h ⊢; exact blk_set h rfl
theorem PtBlk.s_selected (h : PtBlk T w b p) (x : Int) : PtBlk T (w.setCell ⟨b, 23, none⟩ (.int .i64 x)) b { p with selected := x } := by unfold PtBlk at h ⊢; exact blk_set h rfl
theorem PtBlk.s_ready (h : PtBlk T w b p) (x : Bool) : PtBlk T (w.setCell ⟨b, 24, none⟩ (.bool x)) b { p with ready := x } := by unfold PtBlk at h ⊢; exact blk_set h rfl
theorem PtBlk.s_update (h : PtBlk T w b p) (x : Bool) : PtBlk T (w.setCell ⟨b, 25, none⟩ (.bool x)) b { p with update := x } := by unfold PtBlk at h ⊢; exact blk_set h rfl
theorem PtBlk.s_reselect (h : PtBlk T w b p) (x : Bool) : PtBlk T (w.setCell ⟨b, 26, none⟩ (.bool x)) b { p with reselect := x } := by unfold PtBlk at h ⊢; exact blk_set h rfl
theorem PtBlk.s_learn (h : PtBlk T w b p) (x : Bool) : PtBlk T (w.setCell ⟨b, 27, none⟩ (.bool x)) b { p with learn := x } := by unfold PtBlk at h ⊢; exact blk_set h rfl
theorem PtBlk.s_learning (h : PtBlk T w b p) (x : Bool) : PtBlk T (w.setCell ⟨b, 28, none⟩ (.bool x)) b { p with learning := x } := by unfold PtBlk at h ⊢; exact blk_set h rfl
theorem PtBlk.s_forward (h : PtBlk T w b p) (x : Bool) : PtBlk T (w.setCell ⟨b, 29, none⟩ (.bool x)) b { p with forward := x } := by unfold PtBlk at h ⊢; exact blk_set h rfl
theorem PtBlk.s_forwarding (h : PtBlk T w b p) (x : Bool) : PtBlk T (w.setCell ⟨b, 30, none⟩ (.bool x)) b { p with forwarding := x } := by unfold PtBlk at h ⊢; exact blk_set h rfl
theorem PtBlk.s_agree (h : PtBlk T w b p) (x : Bool) : PtBlk T (w.setCell ⟨b, 31, none⟩ (.bool x)) b { p with agree := x } := by unfold PtBlk at h ⊢; exact blk_set h rfl
theorem PtBlk.s_agreed (h : PtBlk T w b p) (x : Bool) : PtBlk T (w.setCell ⟨b, 32, none⟩ (.bool x)) b { p with agreed := x } := by unfold PtBlk at h ⊢; exact blk_set h rfl
theorem PtBlk.s_proposed (h : PtBlk T w b p) (x : Bool) : PtBlk T (w.setCell ⟨b, 33, none⟩ (.bool x)) b { p with proposed := x } := by unfold PtBlk at h ⊢; exact blk_set h rfl
theorem PtBlk.s_proposing (h : PtBlk T w b p) (x : Bool) : PtBlk T (w.setCell ⟨b, 34, none⟩ (.bool x)) b { p with proposing := x } := by unfold PtBlk at h ⊢; exact blk_set h rfl
theorem PtBlk.s_sync (h : PtBlk T w b p) (x : Bool) : PtBlk T (w.setCell ⟨b, 35, none⟩ (.bool x)) b { p with sync := x } := by unfold PtBlk at h ⊢; exact blk_set h rfl
theorem PtBlk.s_synced (h : PtBlk T w b p) (x : Bool) : PtBlk T (w.setCell ⟨b, 36, none⟩ (.bool x)) b { p with synced := x } := by unfold PtBlk at h ⊢; exact blk_set h rfl
theorem PtBlk.s_reroot (h : PtBlk T w b p) (x : Bool) : PtBlk T (w.setCell ⟨b, 37, none⟩ (.bool x)) b { p with reroot := x } := by unfold PtBlk at h ⊢; exact blk_set h rfl
theorem PtBlk.s_disputed (h : PtBlk T w b p) (x : Bool) : PtBlk T (w.setCell ⟨b, 38, none⟩ (.bool x)) b { p with disputed := x } := by unfold PtBlk at h ⊢; exact blk_set h rfl
theorem PtBlk.s_newInfo (h : PtBlk T w b p) (x : Bool) : PtBlk T (w.setCell ⟨b, 39, none⟩ (.bool x)) b { p with newInfo := x } := by unfold PtBlk at h ⊢; exact blk_set h rfl
theorem PtBlk.s_heardTc (h : PtBlk T w b p) (x : Bool) : PtBlk T (w.setCell ⟨b, 40, none⟩ (.bool x)) b { p with heardTc := x } := by unfold PtBlk at h ⊢; exact blk_set h rfl
theorem PtBlk.s_heardTcn (h : PtBlk T w b p) (x : Bool) : PtBlk T (w.setCell ⟨b, 41, none⟩ (.bool x)) b { p with heardTcn := x } := by unfold PtBlk at h ⊢; exact blk_set h rfl
theorem PtBlk.s_heardAck (h : PtBlk T w b p) (x : Bool) : PtBlk T (w.setCell ⟨b, 42, none⟩ (.bool x)) b { p with heardAck := x } := by unfold PtBlk at h ⊢; exact blk_set h rfl
theorem PtBlk.s_tcAck (h : PtBlk T w b p) (x : Bool) : PtBlk T (w.setCell ⟨b, 43, none⟩ (.bool x)) b { p with tcAck := x } := by unfold PtBlk at h ⊢; exact blk_set h rfl
theorem PtBlk.s_tcProp (h : PtBlk T w b p) (x : Bool) : PtBlk T (w.setCell ⟨b, 44, none⟩ (.bool x)) b { p with tcProp := x } := by unfold PtBlk at h ⊢; exact blk_set h rfl
theorem PtBlk.s_flush (h : PtBlk T w b p) (x : Bool) : PtBlk T (w.setCell ⟨b, 45, none⟩ (.bool x)) b { p with flush := x } := by unfold PtBlk at h ⊢; exact blk_set h rfl
theorem PtBlk.s_sendRstp (h : PtBlk T w b p) (x : Bool) : PtBlk T (w.setCell ⟨b, 46, none⟩ (.bool x)) b { p with sendRstp := x } := by unfold PtBlk at h ⊢; exact blk_set h rfl
theorem PtBlk.s_heardRstp (h : PtBlk T w b p) (x : Bool) : PtBlk T (w.setCell ⟨b, 47, none⟩ (.bool x)) b { p with heardRstp := x } := by unfold PtBlk at h ⊢; exact blk_set h rfl
theorem PtBlk.s_heardStp (h : PtBlk T w b p) (x : Bool) : PtBlk T (w.setCell ⟨b, 48, none⟩ (.bool x)) b { p with heardStp := x } := by unfold PtBlk at h ⊢; exact blk_set h rfl
theorem PtBlk.s_check (h : PtBlk T w b p) (x : Bool) : PtBlk T (w.setCell ⟨b, 49, none⟩ (.bool x)) b { p with check := x } := by unfold PtBlk at h ⊢; exact blk_set h rfl
theorem PtBlk.s_fd (h : PtBlk T w b p) (x : Int) : PtBlk T (w.setCell ⟨b, 50, none⟩ (.int .i64 x)) b { p with fd := x } := by unfold PtBlk at h ⊢; exact blk_set h rfl
theorem PtBlk.s_rr (h : PtBlk T w b p) (x : Int) : PtBlk T (w.setCell ⟨b, 51, none⟩ (.int .i64 x)) b { p with rr := x } := by unfold PtBlk at h ⊢; exact blk_set h rfl
theorem PtBlk.s_rb (h : PtBlk T w b p) (x : Int) : PtBlk T (w.setCell ⟨b, 52, none⟩ (.int .i64 x)) b { p with rb := x } := by unfold PtBlk at h ⊢; exact blk_set h rfl
theorem PtBlk.s_tc (h : PtBlk T w b p) (x : Int) : PtBlk T (w.setCell ⟨b, 53, none⟩ (.int .i64 x)) b { p with tc := x } := by unfold PtBlk at h ⊢; exact blk_set h rfl
theorem PtBlk.s_edge (h : PtBlk T w b p) (x : Int) : PtBlk T (w.setCell ⟨b, 54, none⟩ (.int .i64 x)) b { p with edge := x } := by unfold PtBlk at h ⊢; exact blk_set h rfl
theorem PtBlk.s_md (h : PtBlk T w b p) (x : Int) : PtBlk T (w.setCell ⟨b, 55, none⟩ (.int .i64 x)) b { p with md := x } := by unfold PtBlk at h ⊢; exact blk_set h rfl
theorem PtBlk.s_info (h : PtBlk T w b p) (x : Int) : PtBlk T (w.setCell ⟨b, 56, none⟩ (.int .i64 x)) b { p with info := x } := by unfold PtBlk at h ⊢; exact blk_set h rfl
theorem PtBlk.s_hello (h : PtBlk T w b p) (x : Int) : PtBlk T (w.setCell ⟨b, 57, none⟩ (.int .i64 x)) b { p with hello := x } := by unfold PtBlk at h ⊢; exact blk_set h rfl
theorem PtBlk.s_txCount (h : PtBlk T w b p) (x : Int) : PtBlk T (w.setCell ⟨b, 58, none⟩ (.int .i64 x)) b { p with txCount := x } := by unfold PtBlk at h ⊢; exact blk_set h rfl
theorem PtBlk.s_change (h : PtBlk T w b p) (x : Int) : PtBlk T (w.setCell ⟨b, 59, none⟩ (.int .i64 x)) b { p with change := x } := by unfold PtBlk at h ⊢; exact blk_set h rfl
theorem PtBlk.s_migrate (h : PtBlk T w b p) (x : Int) : PtBlk T (w.setCell ⟨b, 60, none⟩ (.int .i64 x)) b { p with migrate := x } := by unfold PtBlk at h ⊢; exact blk_set h rfl
end
end Go.Proofs.YtldobcfejldbiaaGreatDoor

namespace Go.Proofs.YtldobcfejldbiaaGreatDoor
set_option linter.unusedVariables false
set_option linter.unusedSimpArgs false
open Go.RowKit Bm

/-- Block b holds just this BPDU's cells (of the program's type T), none of them frozen. -/
def BBlk (T : TypeId) (w : World) (b : Nat) (x : Bp) : Prop :=
  w.heap[b]? = some (.cells #[.int .i64 x.kind, .int .i64 x.flags, .int .u64 x.root, .int .u64 x.cost, .int .u64 x.bridge, .int .u64 x.port, .int .i64 x.age, .int .i64 x.max, .int .i64 x.hello, .int .i64 x.delay] T (0, 0))
def BBoxed (w : World) (b : Nat) (k f r c br p a m h d : Int) : Prop :=
  w.cell? ⟨b, 0, none⟩ = some (.int .i64 k) ∧ w.cell? ⟨b, 1, none⟩ = some (.int .i64 f) ∧ w.cell? ⟨b, 2, none⟩ = some (.int .u64 r) ∧ w.cell? ⟨b, 3, none⟩ = some (.int .u64 c) ∧ w.cell? ⟨b, 4, none⟩ = some (.int .u64 br) ∧ w.cell? ⟨b, 5, none⟩ = some (.int .u64 p) ∧ w.cell? ⟨b, 6, none⟩ = some (.int .i64 a) ∧ w.cell? ⟨b, 7, none⟩ = some (.int .i64 m) ∧ w.cell? ⟨b, 8, none⟩ = some (.int .i64 h) ∧ w.cell? ⟨b, 9, none⟩ = some (.int .i64 d)
theorem BBlk.below {T : TypeId} {w w' : World} {b B : Nat} {x : Bp} (h : BBlk T w b x) (hb : Below B w w') (hB : b < B) : BBlk T w' b x := (hb.block b hB).trans h
theorem BBlk.lt {T : TypeId} {w : World} {b : Nat} {x : Bp} (h : BBlk T w b x) : b < w.heap.size := (Array.getElem?_eq_some_iff.1 h).1
theorem BBlk.next {T : TypeId} {w w' : World} {b : Nat} {x : Bp} (h : BBlk T w b x) (hb : Below w.heap.size w w') : BBlk T w' b x := h.below hb h.lt
theorem bblk_new (T : TypeId) (w : World) (k f r c b p a m h d : Int) :
    BBlk T (w.alloc (.cells #[.int .i64 k, .int .i64 f, .int .u64 r, .int .u64 c, .int .u64 b, .int .u64 p, .int .i64 a, .int .i64 m, .int .i64 h, .int .i64 d] T)) w.heap.size ⟨k, f, r, c, b, p, a, m, h, d⟩ := heap_alloc_new w _
theorem BBlk.cells {T : TypeId} {w : World} {b : Nat} {k f r c br p a m h d : Int} (H : BBlk T w b ⟨k, f, r, c, br, p, a, m, h, d⟩) : BBoxed w b k f r c br p a m h d := by
  unfold BBlk at H
  refine ⟨?_, ?_, ?_, ?_, ?_, ?_, ?_, ?_, ?_, ?_⟩ <;> simp [World.cell?, H]
theorem BBlk.free {T : TypeId} {w : World} {b : Nat} {x : Bp} (h : BBlk T w b x) (j : Nat) : w.frozen? ⟨b, j, none⟩ = false := by
  unfold BBlk at h
  simp [World.frozen?, h]
theorem BBlk.other {T : TypeId} {w : World} {b : Nat} {x : Bp} (h : BBlk T w b x) {c : Nat} (i : Nat) (v : Value) (hne : b ≠ c) : BBlk T (w.setCell ⟨c, i, none⟩ v) b x :=
  (Below.heap_setCell w ⟨c, i, none⟩ v b hne).trans h

theorem run_bpEq (k f r c b p a m h d k' f' r' c' b' p' a' m' h' d' : Int) (w : World) :
    Sem.run Tryz.prog (binOp .eql 49 (bv k f r c b p a m h d) (bv k' f' r' c' b' p' a' m' h' d')) w = .ok (.bool (bpEq ⟨k, f, r, c, b, p, a, m, h, d⟩ ⟨k', f', r', c', b', p', a', m', h', d'⟩)) w := by
  unfold bv
  go_simp
  repeat' split
  all_goals simp_all [bpEq]
set_option maxHeartbeats 400000 in
theorem within_any (n m : Int) (w : World) :
    Calls Tryz.prog 102 #[.int .i64 n, .int .i64 m] w fun e w' => e = .returned (.bool (withinB n m)) ∧ w = w' := by
  go_enter Tryz.func102, Tryz.ntmps102
  go_wp2
  all_goals go_ret
  all_goals refine ⟨ret_bool ?_, rfl⟩
  all_goals (unfold withinB; rw [Bool.eq_iff_iff]; simp; omega)

set_option maxHeartbeats 1000000 in
theorem nums_any (k f r c b p a m h d : Int) (w : World) :
    Calls Tryz.prog 57 #[bv k f r c b p a m h d] w fun e w' => e = .returned (.bool (numsB ⟨k, f, r, c, b, p, a, m, h, d⟩)) ∧ Below w.heap.size w w' := by
  unfold bv
  go_enter Tryz.func57, Tryz.ntmps57
  go_wp2_with (go_at_call 102; refine (within_any _ _ _).mono ?_; rintro e w' ⟨rfl, rfl⟩)
  all_goals go_ret
  all_goals refine ⟨ret_bool ?_, below_box _ _⟩
  all_goals go_light
  all_goals (unfold numsB; rw [Bool.eq_iff_iff]; simp_all; try omega)

set_option maxHeartbeats 1000000 in
theorem right_any (k f r c b p a m h d : Int) (w : World) :
    Calls Tryz.prog 26 #[bv k f r c b p a m h d] w fun e w' => e = .returned (.bool (rightB ⟨k, f, r, c, b, p, a, m, h, d⟩)) ∧ Below w.heap.size w w' := by
  have hq := run_bpEq k f r c b p a m h d 2 0 0 0 0 0 0 0 0 0
  unfold bv at hq ⊢
  go_enter Tryz.func26, Tryz.ntmps26
  go_wp2_with (go_at_call 57; refine (nums_any _ _ _ _ _ _ _ _ _ _ _).mono ?_; rintro e w1 ⟨rfl, hb1⟩)
  all_goals go_light
  all_goals go_ret
  all_goals (first | refine ⟨ret_bool ?_, bw_trans (below_box _ _) hb1⟩ | refine ⟨ret_bool ?_, below_box _ _⟩)
  all_goals simp_all [rightB, notice]

end Go.Proofs.YtldobcfejldbiaaGreatDoor

namespace Go.Proofs.YtldobcfejldbiaaGreatDoor
set_option linter.unusedVariables false
set_option linter.unusedSimpArgs false
open Go.RowKit Vm Rm

end Go.Proofs.YtldobcfejldbiaaGreatDoor

namespace Go.Proofs.YtldobcfejldbiaaGreatDoor
set_option linter.unusedVariables false
set_option linter.unusedSimpArgs false
open Go.RowKit Vm Rm

theorem role_other {br : Int} {v : Vc} {b : Bool} {p : Inf} (h : infB p = true) (h0 : ¬ p.source = 0) (h3 : ¬ p.source = 3) : roleR br v b p = 2 := by
  have := inf_source h
  exact role_mid h0 (by omega)

set_option maxHeartbeats 1000000 in
theorem role_w (i c s r k b p vr vc br : Int) (isP : Bool) (R : Int) (w : World) (hR : Hid (roleR br ⟨vr, vc, 0, 0⟩ isP ⟨i, c, s, ⟨r, k, b, p⟩⟩ = R)) (hI : infB ⟨i, c, s, ⟨r, k, b, p⟩⟩ = true) (hb : u64B b) (hbr : u64B br) :
    Calls Tryz.prog 107 #[iv i c s r k b p, vv vr vc br i, .bool isP] w fun e w' => e = .returned (.int .i64 R) ∧ Below w.heap.size w w' := by
  by_cases h0 : s = 0
  · have e : R = 0 := by rw [← hR.out]; exact role_0 h0
    subst e h0
    clear hR hI
    go_enter Tryz.func107, Tryz.ntmps107
    go_wp2
    go_ret
    exact ⟨rfl, bw_alloc (below_box _ _) _⟩
  by_cases h3 : s = 3
  case neg =>
    have e : R = 2 := by rw [← hR.out]; exact role_other hI h0 h3
    have z0 : (s == 0) = false := beq_eq_false_iff_ne.2 h0
    have z3 : (s == 3) = false := beq_eq_false_iff_ne.2 h3
    subst e
    clear hR hI
    go_enter Tryz.func107, Tryz.ntmps107
    go_wp2
    go_ret
    exact ⟨rfl, bw_alloc (below_box _ _) _⟩
  subst h3
  clear h0 hI
  cases isP with
  | true =>
    have e : R = 1 := by rw [← hR.out]; exact role_root rfl
    subst e
    clear hR
    go_enter Tryz.func107, Tryz.ntmps107
    go_wp2
    go_ret
    exact ⟨rfl, bw_alloc (below_box _ _) _⟩
  | false =>
    obtain ⟨X, hX⟩ : ∃ X, cmpR ⟨vr, vc, br, i⟩ ⟨r, k, b, p⟩ = X := ⟨_, rfl⟩
    obtain ⟨O, hO⟩ : ∃ O, decide (b % 281474976710656 = br % 281474976710656) = O := ⟨_, rfl⟩
    have HX := Lib.hid hX
    have CO := Lib.hid (fun w' => same_w b br O w' hb hbr (Lib.hid hO))
    by_cases hn : X < 0
    · have e : R = 2 := by rw [← hR.out]; exact role_desig rfl (by show cmpR ⟨vr, vc, br, i⟩ ⟨r, k, b, p⟩ < 0; rw [hX]; exact hn)
      subst e
      clear hR hX hO CO
      go_enter Tryz.func107, Tryz.ntmps107
      go_wp2_with (go_at_call 129; (with_reducible refine (compare_w vr vc br i r k b p X _ HX).mono ?_); rintro e w1 ⟨rfl, hb1⟩)
      go_ret
      exact ⟨rfl, bw_trans (bw_alloc (below_box w _) _) hb1⟩
    · cases O with
      | true =>
        have e : R = 4 := by rw [← hR.out]; exact role_backup rfl (by show ¬ cmpR ⟨vr, vc, br, i⟩ ⟨r, k, b, p⟩ < 0; rw [hX]; exact hn) hO
        subst e
        clear hR hX hO
        go_enter Tryz.func107, Tryz.ntmps107
        go_wp2_with fail
        (with_reducible refine (compare_w vr vc br i r k b p X _ HX).mono ?_)
        rintro e w1 ⟨rfl, hb1⟩
        have K := ((iblk_new 175 w i c 3 r k b p).next (below_box _ (.cells #[.int .u64 vr, .int .u64 vc, .int .u64 br, .int .u64 i] 47))).next hb1
        have V := (blk_new 47 (w.alloc (.cells #[.int .u64 i, .int .u64 c, .int .i64 3, .int .u64 r, .int .u64 k, .int .u64 b, .int .u64 p] 175)) vr vc br i).next hb1
        rw [size_box] at V
        have B1 := bw_trans (bw_alloc (below_box w _) _) hb1
        obtain ⟨q0, q1, q2, q3, q4, q5, q6⟩ := K.cells
        obtain ⟨v0, v1, v2, v3⟩ := V.cells
        clear hb1 K V
        go_wp2_with (go_at_call 151; (with_reducible refine (CO.out _).mono ?_); rintro e w2 ⟨rfl, hb2⟩)
        go_ret
        exact ⟨rfl, bw_trans B1 hb2⟩
      | false =>
        have e : R = 3 := by rw [← hR.out]; exact role_alt rfl (by show ¬ cmpR ⟨vr, vc, br, i⟩ ⟨r, k, b, p⟩ < 0; rw [hX]; exact hn) hO
        subst e
        clear hR hX hO
        go_enter Tryz.func107, Tryz.ntmps107
        go_wp2_with fail
        (with_reducible refine (compare_w vr vc br i r k b p X _ HX).mono ?_)
        rintro e w1 ⟨rfl, hb1⟩
        have K := ((iblk_new 175 w i c 3 r k b p).next (below_box _ (.cells #[.int .u64 vr, .int .u64 vc, .int .u64 br, .int .u64 i] 47))).next hb1
        have V := (blk_new 47 (w.alloc (.cells #[.int .u64 i, .int .u64 c, .int .i64 3, .int .u64 r, .int .u64 k, .int .u64 b, .int .u64 p] 175)) vr vc br i).next hb1
        rw [size_box] at V
        have B1 := bw_trans (bw_alloc (below_box w _) _) hb1
        obtain ⟨q0, q1, q2, q3, q4, q5, q6⟩ := K.cells
        obtain ⟨v0, v1, v2, v3⟩ := V.cells
        clear hb1 K V
        go_wp2_with (go_at_call 151; (with_reducible refine (CO.out _).mono ?_); rintro e w2 ⟨rfl, hb2⟩)
        go_ret
        exact ⟨rfl, bw_trans B1 hb2⟩

/-! ### The document's Way -/
theorem way_no {br : Int} {p : Inf} (h : wayR br p = none) : ¬ p.source = 3 ∨ (p.source = 3 ∧ ownB p.vec br = true) := by
  unfold wayR at h
  split at h
  · cases h
  · rename_i hn
    by_cases h3 : p.source = 3
    · right
      refine ⟨h3, ?_⟩
      cases ho : ownB p.vec br with
      | true => rfl
      | false => exact absurd ⟨h3, ho⟩ hn
    · exact .inl h3

/-! ### Is an Id told twice? -/
def clashB (l : List Inf) (i : Int) : Bool := l.any (fun x => decide (x.id = i))
theorem clash_no {l : List Inf} {i : Int} (h : ∀ j x, j < l.length → l[j]? = some x → ¬ x.id = i) : clashB l i = false := by
  unfold clashB
  rw [List.any_eq_false]
  intro x hx
  obtain ⟨j, hj⟩ := List.getElem?_of_mem hx
  simp [h j x (List.getElem?_eq_some_iff.1 hj).1 hj]
theorem clash_yes {l : List Inf} {i : Int} {j : Nat} {x : Inf} (h : l[j]? = some x) (hi : x.id = i) : clashB l i = true := by
  unfold clashB
  rw [List.any_eq_true]
  exact ⟨x, List.mem_of_getElem? h, by simp [hi]⟩
theorem take_at {l : List Inf} {k j : Nat} (h : j < k) : (l.take k)[j]? = l[j]? := List.getElem?_take_of_lt h
theorem take_next' {l : List Inf} {k : Nat} {x : Inf} (h : l[k]? = some x) : l.take (k + 1) = l.take k ++ [x] := by rw [List.take_add_one, h]; rfl
theorem right_next {l : List Inf} {k : Nat} {p : Inf} (h : l[k]? = some p) (hk : k < 16) : rightR (l.take (k + 1)) = (rightR (l.take k) && infB p && !clashB (l.take k) p.id) := by
  have hlen : (l.take k).length ≤ k := by rw [List.length_take]; omega
  rw [take_next' h]
  unfold rightR clashB
  rw [Bool.eq_iff_iff]
  simp only [Bool.and_eq_true, decide_eq_true_eq, List.all_append, List.all_cons, List.all_nil, Bool.and_true, List.length_append, List.length_cons, List.length_nil, Bool.not_eq_true', List.any_eq_false, List.pairwise_append, List.mem_singleton, List.pairwise_cons, List.Pairwise.nil]
  constructor
  · rintro ⟨⟨h1, h2, h3⟩, h4, -, h5⟩
    exact ⟨⟨⟨⟨by omega, h2⟩, h4⟩, h3⟩, fun x hx => h5 x hx p rfl⟩
  · rintro ⟨⟨⟨⟨h1, h2⟩, h4⟩, h3⟩, h5⟩
    exact ⟨⟨by omega, h2, h3⟩, h4, by simp, fun x hx y hy => by subst hy; exact h5 x hx⟩
theorem right_prefix {l : List Inf} (h : rightR l = true) (k : Nat) : rightR (l.take k) = true := by
  unfold rightR at h ⊢
  simp only [Bool.and_eq_true, decide_eq_true_eq, List.all_eq_true] at h ⊢
  exact ⟨⟨by rw [List.length_take]; omega, fun x hx => h.1.2 x (List.mem_of_mem_take hx)⟩, h.2.sublist (List.take_sublist k l)⟩
theorem right_not {l : List Inf} {k : Nat} (h : rightR (l.take k) = false) : rightR l = false := by
  cases hr : rightR l with
  | false => rfl
  | true => rw [right_prefix hr k] at h; cases h
theorem right_zero (l : List Inf) : rightR (l.take 0) = true := by
  rw [List.take_zero]; rfl
theorem IRow.take {w : World} {a : Option Addr} {l : List Inf} (h : IRow w a l) (k : Nat) : IRow w a (l.take k) :=
  ⟨fun j x hx => by
    have hj := (List.getElem?_eq_some_iff.1 hx).1
    rw [List.length_take] at hj
    rw [take_at (by omega)] at hx
    exact h.at_ j x hx, fun x hx => h.rng x (List.mem_of_mem_take hx)⟩

/-- Behind k rounds: none of the first k has this Id. -/
def SInv (l : List Inf) (n : Nat) (i : Int) (w : World) (v : Value) (wr : World) : Prop :=
  ∃ k : Nat, k ≤ n ∧ v = .int .i64 (k : Nat) ∧ (∀ j x, j < k → l[j]? = some x → ¬ x.id = i) ∧ Below w.heap.size w wr

set_option maxHeartbeats 1000000 in
theorem index_w (a : Option Addr) (cap cs : Nat) (l : List Inf) (i : Int) (R : Bool) (w : World) (h : IRow w a l) (hl : l.length ≤ 1000) (hc : w.cell? ⟨cs, 0, none⟩ = some (.int .u64 i)) (hcs : cs < w.heap.size) (hR : Hid (clashB l i = R)) :
    Calls Tryz.prog 187 #[.slice a l.length cap, .func (.func 145) #[] #[.pointer (some ⟨cs, 0, none⟩)]] w fun e w' =>
      ∃ r : Int, e = .returned (.int .i64 r) ∧ (R = true → 0 ≤ r) ∧ (R = false → r = -1) ∧ Below w.heap.size w w' := by
  obtain ⟨n, hn⟩ : ∃ n, l.length = n := ⟨_, rfl⟩
  have HN := Lib.hid hn
  rw [hn] at hl ⊢
  have HA := Lib.hid h
  clear h hn
  go_enter Tryz.func187, Tryz.ntmps187
  go_wp2_with fail
  go_loopw [8] (fun v wr => SInv l n i w v wr) (fun v _ => n - (intOf v).toNat)
  case atStart => exact ⟨0, Nat.zero_le _, rfl, fun j x h => by omega, Below.refl _ _⟩
  case round =>
    obtain ⟨k, hk, rfl, hno, hG⟩ := hrel
    by_cases hkl : k < n
    · obtain ⟨⟨xi, xc, xs, ⟨r, q, b, p⟩⟩, hx⟩ := at_some (l := l) (k := k) (by rw [HN.out]; exact hkl)
      obtain ⟨g, o, rfl, hgr, q0, q1, q2, q3, q4, q5, q6⟩ := (HA.out.next hG).at_ k _ hx
      simp only at q0 q1 q2 q3 q4 q5 q6
      have hcr : wr.cell? ⟨cs, 0, none⟩ = some (.int .u64 i) := (hG.cell (p := ⟨cs, 0, none⟩) hcs).trans hc
      have HNO := Lib.hid hno
      have HX := Lib.hid hx
      clear hno hx
      have HF := ident_w 0 xi xc xs r q b p i cs wr hcr (Nat.lt_of_lt_of_le hcs hG.size)
      obtain ⟨D, hD⟩ : ∃ D, decide (xi = i) = D := ⟨_, rfl⟩
      rw [hD] at HF
      cases D with
      | true =>
        have hy : R = true := by rw [← hR.out]; exact clash_yes HX.out (of_decide_eq_true hD)
        clear hD
        go_wp2_with (go_at_call 145; refine HF.mono ?_; clear HF; rintro e w1 ⟨rfl, hG1⟩)
        go_ret
        exact ⟨(k : Nat), rfl, fun _ => by omega, fun e => (by rw [hy] at e; cases e), bw_trans hG hG1⟩
      | false =>
        have hne := of_decide_eq_false hD
        have HD := Lib.hid hne
        clear hD hne
        go_wp2_with (go_at_call 145; refine HF.mono ?_; clear HF; rintro e w1 ⟨rfl, hG1⟩)
        refine ⟨⟨k + 1, by omega, by go_num, fun j y hj hy => ?_, bw_trans hG hG1⟩, by simp [intOf]; omega⟩
        by_cases e : j = k
        · subst e; rw [HX.out] at hy; cases hy; exact HD.out
        · exact HNO.out j y (by omega) hy
    · obtain rfl : k = n := by omega
      have hy : R = false := by rw [← hR.out]; exact clash_no (fun j x hj hx => hno j x (by rw [HN.out] at hj; exact hj) hx)
      go_wp2
      go_ret
      exact ⟨-1, rfl, fun e => (by rw [hy] at e; cases e), fun _ => rfl, hG⟩

set_option maxHeartbeats 1000000 in
theorem contains_w (a : Option Addr) (cap cs : Nat) (l : List Inf) (i : Int) (R : Bool) (w : World) (h : IRow w a l) (hl : l.length ≤ 1000) (hc : w.cell? ⟨cs, 0, none⟩ = some (.int .u64 i)) (hcs : cs < w.heap.size) (hR : Hid (clashB l i = R)) :
    Calls Tryz.prog 147 #[.slice a l.length cap, .func (.func 145) #[] #[.pointer (some ⟨cs, 0, none⟩)]] w fun e w' => e = .returned (.bool R) ∧ Below w.heap.size w w' := by
  have HF := index_w a cap cs l i R w h hl hc hcs hR
  clear h hl hc hcs hR
  go_enter Tryz.func147, Tryz.ntmps147
  cases R with
  | true =>
    go_wp2_with (go_at_call 187; refine HF.mono ?_; clear HF; rintro e w1 ⟨r, rfl, h1, h2, hG1⟩; replace h1 := h1 rfl; clear h2)
    go_ret
    exact ⟨rfl, hG1⟩
  | false =>
    go_wp2_with (go_at_call 187; refine HF.mono ?_; clear HF; rintro e w1 ⟨r, rfl, h1, h2, hG1⟩; replace h2 := h2 rfl; clear h1; subst h2)
    go_ret
    exact ⟨rfl, hG1⟩
end Go.Proofs.YtldobcfejldbiaaGreatDoor

namespace Go.Proofs.YtldobcfejldbiaaGreatDoor
set_option linter.unusedVariables false
set_option linter.unusedSimpArgs false
open Go.RowKit Vm Rm

theorem right_long {l : List Inf} (h : 16 < l.length) : rightR l = false := by
  unfold rightR
  rw [decide_eq_false (by omega)]
  rfl
/-- Behind k rounds: the first k are right. -/
def RInv (l : List Inf) (n : Nat) (w : World) (v : Value) (wr : World) : Prop :=
  ∃ k : Nat, k ≤ n ∧ v = .int .i64 (k : Nat) ∧ rightR (l.take k) = true ∧ Below w.heap.size w wr

set_option maxHeartbeats 1000000 in
theorem right_w (a : Option Addr) (cap : Nat) (l : List Inf) (R : Bool) (w : World) (h : IRow w a l) (hl : l.length ≤ 1000) (hcap : l.length ≤ cap) (hR : Hid (rightR l = R)) :
    Calls Tryz.prog 105 #[.slice a l.length cap] w fun e w' => e = .returned (.bool R) ∧ Below w.heap.size w w' := by
  obtain ⟨n, hn⟩ : ∃ n, l.length = n := ⟨_, rfl⟩
  have HN := Lib.hid hn
  by_cases h16 : 16 < n
  · have hy : R = false := by rw [← hR.out]; exact right_long (by omega)
    subst hy
    rw [hn] at hl hcap ⊢
    clear h hn hR
    go_enter Tryz.func105, Tryz.ntmps105
    go_wp2
    go_ret
    exact ⟨rfl, Below.refl _ _⟩
  rw [hn] at hl hcap ⊢
  have HA := Lib.hid h
  clear h hn
  go_enter Tryz.func105, Tryz.ntmps105
  go_wp2_with fail
  go_loopw [11] (fun v wr => RInv l n w v wr) (fun v _ => n - (intOf v).toNat)
  case atStart => exact ⟨0, Nat.zero_le _, rfl, right_zero l, Below.refl _ _⟩
  case round =>
    obtain ⟨k, hk, rfl, hr, hG⟩ := hrel
    by_cases hkl : k < n
    · obtain ⟨⟨xi, xc, xs, ⟨r, q, b, p⟩⟩, hx⟩ := at_some (l := l) (k := k) (by rw [HN.out]; exact hkl)
      have hA := HA.out.next hG
      have ok := hA.ok hx
      obtain ⟨g, o, rfl, hgr, q0, q1, q2, q3, q4, q5, q6⟩ := hA.at_ k _ hx
      simp only at q0 q1 q2 q3 q4 q5 q6
      have hnx := right_next hx (by omega)
      rw [hr, Bool.true_and] at hnx
      obtain ⟨I, hI⟩ : ∃ I, infB ⟨xi, xc, xs, ⟨r, q, b, p⟩⟩ = I := ⟨_, rfl⟩
      obtain ⟨C, hC⟩ : ∃ C, clashB (l.take k) xi = C := ⟨_, rfl⟩
      simp only at hnx
      rw [hI, hC] at hnx
      have HX := Lib.hid hnx
      have HR := Lib.hid hr
      have HA2 := Lib.hid hA
      have HOK := Lib.hid ok
      have CP := Lib.hid (fun w' => port_w xi xc xs r q b p I w' (Lib.hid hI) ok.id ok.cost ok.vec.c)
      have HC := Lib.hid hC
      have hlt : (l.take k).length = k := by rw [List.length_take, HN.out]; omega
      have HL := Lib.hid hlt
      clear hnx hr hA ok hI hC hx hlt
      go_wp2_with fail
      (with_reducible refine (CP.out _).mono ?_)
      rintro e w1 ⟨rfl, hb1⟩
      have K := (iblk_new 175 wr xi xc xs r q b p).next hb1
      have hB1 := bw_trans (below_box wr _) hb1
      clear hb1
      cases I with
      | false =>
        have hy : R = false := by rw [← hR.out]; exact right_not HX.out
        subst hy
        clear hR
        go_wp2
        go_ret
        exact ⟨rfl, bw_trans hG hB1⟩
      | true =>
        have CC := contains_w (some ⟨g, o, none⟩) cap wr.heap.size (l.take k) xi C w1 ((HA2.out.next hB1).take k) (by rw [HL.out]; omega) K.cells.1 K.lt HC
        rw [HL.out] at CC
        have hkn : (k : Int) ≤ cap := by omega
        cases C with
        | true =>
          have hy : R = false := by rw [← hR.out]; exact right_not HX.out
          subst hy
          clear hR K
          go_wp2_with fail
          refine CC.mono ?_
          clear CC
          rintro e w2 ⟨rfl, hb2⟩
          go_wp2
          go_ret
          exact ⟨rfl, bw_trans (bw_trans hG hB1) hb2⟩
        | false =>
          go_wp2_with fail
          refine CC.mono ?_
          clear CC
          rintro e w2 ⟨rfl, hb2⟩
          go_wp2_with fail
          exact ⟨⟨k + 1, by omega, by go_num, HX.out, bw_trans (bw_trans hG hB1) hb2⟩, by simp [intOf]; omega⟩
    · obtain rfl : k = n := by omega
      have hy : R = true := by rw [← hR.out, ← hr, ← HN.out, List.take_length]
      subst hy
      go_wp2
      go_ret
      exact ⟨rfl, hG⟩

/-! ### The document's Right -/
end Go.Proofs.YtldobcfejldbiaaGreatDoor
