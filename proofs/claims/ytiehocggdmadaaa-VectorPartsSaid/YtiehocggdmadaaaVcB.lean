/-
  Walks of layer 5: address, addressText, Split, Bridge.
-/
import Derived.Test.YtiehocggdmadaaaVcA
namespace Go.Proofs.Ytiehocggdmadaaa
set_option linter.unusedVariables false
set_option linter.unusedSimpArgs false
open Go.RowKit Vm

theorem byteN_get (s : ByteArray) (i : Nat) (h : i < s.size) : Bm.byteN s i = s[i].toNat := by
  have h' : i < s.data.size := h
  simp only [Bm.byteN, Array.getD, h', dif_pos]
  rfl
/-- Behind k rounds. -/
def AInv (s : ByteArray) (w : World) (n i : Value) (wr : World) : Prop :=
  ∃ k, k ≤ 6 ∧ i = .int .i64 (k : Nat) ∧ n = .int .u64 (Bm.num s 0 k) ∧ wr = w

set_option maxHeartbeats 1000000 in
theorem address_w (s : ByteArray) (A : Nat) (w : World) (h : Hid (Bm.num s 0 6 = A)) (hs : s.size = 6) :
    Calls Try.prog 16 #[.string s] w fun e w' => e = .returned (.int .u64 A) ∧ w = w' := by
  have hi : (s.size : Int) = 6 := by omega
  go_enter Try.func16, Try.ntmps16
  go_wp2_with fail
  go_loopw [3, 7] (fun n i wr => AInv s w n i wr) (fun _ i _ => 6 - (intOf i).toNat)
  case atStart => exact ⟨0, Nat.zero_le _, rfl, rfl, rfl⟩
  case round =>
    obtain ⟨j, hj, rfl, rfl, rfl⟩ := hrel
    by_cases hjk : j < 6
    · have hjs : j < s.size := by omega
      have hlt := Bm.num_lt s 0 j
      have hp : 256 ^ j ≤ 256 ^ 5 := Nat.pow_le_pow_right (by omega) (by omega)
      have HJ := Lib.hid (Bm.u64_join (Bm.num s 0 j) s[j] (by omega))
      have HB := Lib.hid (byteN_get s j hjs)
      go_wp2
      refine ⟨⟨j + 1, by omega, by go_num, ?_, rfl⟩, by simp [intOf]; omega⟩
      rw [HJ.out, Bm.num, Nat.zero_add, HB.out]
    · obtain rfl : j = 6 := by omega
      rw [h.out]
      go_wp2
      go_ret
      exact ⟨rfl, rfl⟩

theorem strCells_append (a b : ByteArray) : Lib.strCells (a ++ b) = Lib.strCells a ++ Lib.strCells b := by
  simp [Lib.strCells]
theorem byte_cell (N k : Nat) : Lib.strCells ⟨#[UInt8.ofNat (N / k % 256)]⟩ = [Value.int .u8 ((N : Int) / (k : Int) % 256)] := by
  simp only [Lib.strCells, List.map_cons, List.map_nil]
  congr 2
  rw [UInt8.toNat_ofNat']
  have : ((N / k % 256 : Nat) : Int) = (N : Int) / (k : Int) % 256 := by simp
  omega
theorem six_cells (N : Nat) : Lib.strCells (Bm.be N 6) = [Value.int .u8 ((N : Int) / 1099511627776 % 256), Value.int .u8 ((N : Int) / 4294967296 % 256), Value.int .u8 ((N : Int) / 16777216 % 256), Value.int .u8 ((N : Int) / 65536 % 256), Value.int .u8 ((N : Int) / 256 % 256), Value.int .u8 ((N : Int) % 256)] := by
  have h : Lib.strCells (Bm.be N 6) = Lib.strCells ⟨#[UInt8.ofNat (N / 256 ^ 5 % 256)]⟩ ++ (Lib.strCells ⟨#[UInt8.ofNat (N / 256 ^ 4 % 256)]⟩ ++ (Lib.strCells ⟨#[UInt8.ofNat (N / 256 ^ 3 % 256)]⟩ ++ (Lib.strCells ⟨#[UInt8.ofNat (N / 256 ^ 2 % 256)]⟩ ++ (Lib.strCells ⟨#[UInt8.ofNat (N / 256 ^ 1 % 256)]⟩ ++ (Lib.strCells ⟨#[UInt8.ofNat (N / 256 ^ 0 % 256)]⟩ ++ Lib.strCells ⟨#[]⟩))))) := by
    simp only [Bm.be, strCells_append]
  rw [h]
  simp only [byte_cell]
  simp [Lib.strCells]
/-- The bytes in a block of any type, turned into a string. -/
theorem conv_at (W : World) (b cap n : Nat) (cs : Array Value) (T : TypeId) (s : ByteArray) (hb : W.heap[b]? = some (.cells cs T (0, 0))) (hc : cs.toList = Lib.strCells s) (hn : n = s.size) :
    Sem.run Try.prog (convert 52 9 (.slice (some ⟨b, 0, none⟩) n cap)) W = .ok (.string s) W := by
  have e : s.size = s.data.toList.length := by rw [Array.length_toList]; rfl
  have h := run_convert_bytes_back (P := Try.prog) W 52 9 5 ⟨b, 0, none⟩ cap s.data.toList Try.underlying52 Try.underlying5 Try.underlying9 (by
    intro j hj
    rw [Addr.add_lit]
    have hk : W.cell? ⟨b, 0 + j, none⟩ = cs[j]? := by simp [World.cell?, hb]
    rw [hk, ← Array.getElem?_toList, hc]
    rw [Array.length_toList] at hj
    simp only [Lib.strCells, List.getElem?_map, Array.getElem?_toList, Array.getElem_toList]
    rw [Array.getElem?_eq_getElem hj]
    rfl)
  rw [← e] at h
  rw [hn, h]

set_option maxHeartbeats 1000000 in
theorem text_any (n : Int) (w : World) (hn : u64B n) :
    Calls Try.prog 14 #[.int .u64 n] w fun e w' => e = .returned (.string (Bm.be n.toNat 6)) ∧ Below w.heap.size w w' := by
  obtain ⟨hn0, hn1⟩ := hn
  go_enter Try.func14, Try.ntmps14
  go_wp2_with fail
  refine wp_loop_rounds 7 ?_
  rw [rounds_succ]
  go_wp2_with fail
  rw [rounds_succ]
  go_wp2_with fail
  rw [rounds_succ]
  go_wp2_with fail
  rw [rounds_succ]
  go_wp2_with fail
  rw [rounds_succ]
  go_wp2_with fail
  rw [rounds_succ]
  go_wp2_with fail
  rw [rounds_succ]
  go_upto_region 7 with (fail)
  obtain ⟨N, rfl⟩ := Int.eq_ofNat_of_zero_le hn0
  have hc := six_cells N
  obtain ⟨W, hW⟩ : ∃ W, W = w.alloc (.cells #[.int .u8 ((N : Int) / 1099511627776 % 256), .int .u8 ((N : Int) / 4294967296 % 256), .int .u8 ((N : Int) / 16777216 % 256), .int .u8 ((N : Int) / 65536 % 256), .int .u8 ((N : Int) / 256 % 256), .int .u8 ((N : Int) % 256)] 51) := ⟨_, rfl⟩
  have hb : W.heap[w.heap.size]? = some (.cells #[.int .u8 ((N : Int) / 1099511627776 % 256), .int .u8 ((N : Int) / 4294967296 % 256), .int .u8 ((N : Int) / 16777216 % 256), .int .u8 ((N : Int) / 65536 % 256), .int .u8 ((N : Int) / 256 % 256), .int .u8 ((N : Int) % 256)] 51 (0, 0)) := by rw [hW]; exact heap_alloc_new w _
  have B : Below w.heap.size w W := by rw [hW]; exact below_box _ _
  rw [← hW]
  clear hW
  have hr := conv_at W w.heap.size 6 6 _ _ (Bm.be N 6) hb hc.symm (Bm.be_size N 6).symm
  clear hb hc
  go_wp2
  go_ret
  exact ⟨rfl, B⟩

set_option maxHeartbeats 1000000 in
theorem split_any (n : Int) (w : World) (hn : u64B n) :
    Calls Try.prog 7 #[.int .u64 n] w fun e w' => e = .returned (.tuple #[.int .i64 (n / 1152921504606846976), .int .i64 (n / 281474976710656 % 4096), .string (Bm.be n.toNat 6)]) ∧ Below w.heap.size w w' := by
  have hn' := hn
  obtain ⟨hn0, hn1⟩ := hn
  have hm := mask_12 (n / 281474976710656) ⟨by omega, by omega⟩
  obtain ⟨V, hV⟩ : ∃ V, n / 281474976710656 % 4096 = V := ⟨_, rfl⟩
  have hV0 : 0 ≤ V := by omega
  have hV1 : V < 4096 := by omega
  rw [hV] at hm ⊢
  clear hV
  go_enter Try.func7, Try.ntmps7
  go_wp2_with fail
  refine (text_any n _ hn').mono ?_
  rintro e w1 ⟨rfl, hb1⟩
  go_wp2
  exact bodyPost_ret (v := .tuple #[.int .i64 (n / 1152921504606846976), .int .i64 V, .string (Bm.be n.toNat 6)]) (by simp [results, Try.results7, go_sem]) rfl ⟨rfl, hb1⟩

set_option maxHeartbeats 1000000 in
theorem bridge_w (p v : Int) (s : ByteArray) (V E : Int) (w : World) (h : Hid (bridgeR p v (Bm.num s 0 6) s.size = (V, E))) (hs : s.size ≤ maxLen) :
    Calls Try.prog 8 #[.int .i64 p, .int .i64 v, .string s] w fun e w' => e = .returned (.tuple #[.int .u64 V, .int .i64 E]) ∧ w = w' := by
  unfold maxLen at hs
  obtain ⟨A, hA⟩ : ∃ A, Bm.num s 0 6 = A := ⟨_, rfl⟩
  have HA := Lib.hid hA
  have zA : A < 281474976710656 := by rw [← hA]; exact Bm.num_lt s 0 6
  have e := h.out
  rw [hA] at e
  clear h hA
  cases h1 : decide (0 ≤ p ∧ p ≤ 15) with
  | false =>
    obtain ⟨rfl, rfl⟩ : V = 0 ∧ E = 1 := by
      simp at h1
      rw [bridgeR, if_neg (by omega)] at e
      simp at e
      omega
    have C1 := Lib.hid h1; clear h1 e
    go_enter Try.func8, Try.ntmps8
    go_wp2_with (go_at_call 15; refine (within_w _ _ _ false _ C1).mono ?_; rintro e w' ⟨rfl, rfl⟩)
    all_goals go_ret2
    exact ⟨rfl, rfl⟩
  | true =>
  cases h2 : decide (0 ≤ v ∧ v ≤ 4095) with
  | false =>
    obtain ⟨rfl, rfl⟩ : V = 0 ∧ E = 1 := by
      simp at h2
      rw [bridgeR, if_neg (by omega)] at e
      simp at e
      omega
    have C1 := Lib.hid h1; clear h1
    have C2 := Lib.hid h2; clear h2 e
    go_enter Try.func8, Try.ntmps8
    go_wp2_with (go_at_call 15; (with_reducible first | refine (within_w _ _ _ true _ C1).mono ?_ | refine (within_w _ _ _ false _ C2).mono ?_); rintro e w' ⟨rfl, rfl⟩)
    all_goals go_ret2
    exact ⟨rfl, rfl⟩
  | true =>
    simp at h1 h2
    have C1 : Hid (decide (0 ≤ p ∧ p ≤ 15) = true) := Lib.hid (by simp; omega)
    have C2 : Hid (decide (0 ≤ v ∧ v ≤ 4095) = true) := Lib.hid (by simp; omega)
    by_cases hl : s.size = 6
    · obtain ⟨rfl, rfl⟩ : V = p * 1152921504606846976 + v * 281474976710656 + A ∧ E = 0 := by
        rw [bridgeR, if_pos (by omega), if_pos hl] at e
        simp at e
        omega
      clear e
      have hl' : (s.size : Int) = 6 := by omega
      go_enter Try.func8, Try.ntmps8
      go_wp2_with (first
        | (go_at_call 15; (with_reducible first | refine (within_w _ _ _ true _ C1).mono ?_ | refine (within_w _ _ _ true _ C2).mono ?_); rintro e w' ⟨rfl, rfl⟩)
        | (go_at_call 16; (with_reducible refine (address_w _ _ _ HA hl).mono ?_); rintro e w' ⟨rfl, rfl⟩))
      all_goals go_ret2
      have e1 := u64_sum (p * 1152921504606846976) (v * 281474976710656) 60 1152921504606846976 (by decide) ⟨by omega, by omega⟩ (by omega) (by omega) (by omega)
      have e2 := u64_sum (p * 1152921504606846976 + v * 281474976710656) A 48 281474976710656 (by decide) ⟨by omega, by omega⟩ (by omega) (by omega) (by omega)
      rw [← e1] at e2
      exact ⟨ret_pair (e2.trans (by rw [e1])) rfl, rfl⟩
    · obtain ⟨rfl, rfl⟩ : V = 0 ∧ E = 2 := by
        rw [bridgeR, if_pos (by omega), if_neg hl] at e
        simp at e
        omega
      clear e
      have hl' : ¬ (s.size : Int) = 6 := by omega
      go_enter Try.func8, Try.ntmps8
      go_wp2_with (go_at_call 15; (with_reducible first | refine (within_w _ _ _ true _ C1).mono ?_ | refine (within_w _ _ _ true _ C2).mono ?_); rintro e w' ⟨rfl, rfl⟩)
      all_goals go_ret2
      exact ⟨rfl, rfl⟩
end Go.Proofs.Ytiehocggdmadaaa
