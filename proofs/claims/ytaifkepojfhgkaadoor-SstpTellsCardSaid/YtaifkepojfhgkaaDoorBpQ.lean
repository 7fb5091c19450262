/-
  Walks of layer 3's document: Size, in, Right, bytes, get.
-/
import Derived.Test.YtaifkepojfhgkaaDoorBpH
namespace Go.Proofs.YtaifkepojfhgkaaDoor
set_option linter.unusedVariables false
set_option linter.unusedSimpArgs false
open Go.RowKit Bm

theorem run_rpEq (k f r c b p a m h d k' f' r' c' b' p' a' m' h' d' : Int) (w : World) :
    Sem.run Tryd.prog (binOp .eql 33 (bv k f r c b p a m h d) (bv k' f' r' c' b' p' a' m' h' d')) w = .ok (.bool (bpEq ⟨k, f, r, c, b, p, a, m, h, d⟩ ⟨k', f', r', c', b', p', a', m', h', d'⟩)) w := by
  unfold bv
  go_simp
  repeat' split
  all_goals simp_all [bpEq]

set_option maxHeartbeats 400000 in
theorem rsize_any (k : Int) (w : World) :
    Calls Tryd.prog 18 #[.int .i64 k] w fun e w' => e = .returned (.int .i64 (sizeN k)) ∧ w = w' := by
  go_enter Tryd.func18, Tryd.ntmps18
  go_wp2
  all_goals go_light
  all_goals go_ret
  all_goals refine ⟨ret_int ?_, rfl⟩
  all_goals simp_all [sizeN]
theorem rsize_w (k : Int) (N : Int) (w : World) (h : Hid ((sizeN k : Int) = N)) :
    Calls Tryd.prog 18 #[.int .i64 k] w fun e w' => e = .returned (.int .i64 N) ∧ w = w' := by
  have H := rsize_any k w
  rw [h.out] at H
  exact H

set_option maxHeartbeats 400000 in
theorem rin_any (n m : Int) (w : World) :
    Calls Tryd.prog 29 #[.int .i64 n, .int .i64 m] w fun e w' => e = .returned (.bool (withinB n m)) ∧ w = w' := by
  go_enter Tryd.func29, Tryd.ntmps29
  go_wp2
  all_goals go_ret
  all_goals refine ⟨ret_bool ?_, rfl⟩
  all_goals (unfold withinB; rw [Bool.eq_iff_iff]; simp; omega)

set_option maxHeartbeats 2000000 in
theorem rright_any (k f r c b p a m h d : Int) (w : World) :
    Calls Tryd.prog 21 #[bv k f r c b p a m h d] w fun e w' => e = .returned (.bool (rightB ⟨k, f, r, c, b, p, a, m, h, d⟩)) ∧ Below w.heap.size w w' := by
  have hq := run_rpEq k f r c b p a m h d 2 0 0 0 0 0 0 0 0 0
  unfold bv at hq ⊢
  go_enter Tryd.func21, Tryd.ntmps21
  go_wp2_with (go_at_call 29; refine (rin_any _ _ _).mono ?_; rintro e w' ⟨rfl, rfl⟩)
  all_goals go_light
  all_goals go_ret
  all_goals refine ⟨ret_bool ?_, below_box _ _⟩
  all_goals (simp_all [rightB, notice, numsB]; try omega)
theorem rright_w (k f r c b p a m h d : Int) (w : World) (R : Bool) (hR : Hid (rightB ⟨k, f, r, c, b, p, a, m, h, d⟩ = R)) :
    Calls Tryd.prog 21 #[bv k f r c b p a m h d] w fun e w' => e = .returned (.bool R) ∧ Below w.heap.size w w' := by
  have H := rright_any k f r c b p a m h d w
  rw [hR.out] at H
  exact H

/-- A row of bytes in a block whose number is known, turned into a string. -/
theorem convAt (cs : Array Value) (s : ByteArray) (w : World) (k n : Nat) (hk : k = w.heap.size) (hc : cs.toList = Lib.strCells s) (hn : cs.size = s.size) (hm : s.size ≤ 1000) (hns : n = s.size) :
    Sem.run Tryd.prog (convert 43 9 (.slice (some ⟨k, 0, none⟩) n n)) (w.alloc (.cells cs 5)) = .ok (.string s) (w.alloc (.cells cs 5)) := by
  subst hns hk
  have ho := World.ownsRow_lit (base := 0) (e := 5) (size := 1) w cs s.size (Nat.zero_le _) (by unfold maxLen; omega) (by omega)
  have hb : Buf (w.alloc (.cells cs 5)) 0 (.slice (some ⟨w.heap.size, 0, none⟩) s.size s.size) s := by
    unfold Buf
    rw [← hc]
    exact ho
  exact buf_string hb

/-- Behind i rounds. -/
def RInv (n k : Nat) (w : World) (v s i : Value) (wr : World) : Prop :=
  ∃ j V : Nat, ∃ S : ByteArray, j ≤ k ∧ s = .string S ∧ v = .int .u64 V ∧ i = .int .i64 j ∧ Hid (S = be n j) ∧ Hid (V = n / 256 ^ j) ∧ V < 18446744073709551616 ∧ S.size = j ∧ Below w.heap.size w wr

set_option maxHeartbeats 1000000 in
theorem rbytes_any (n : Int) (k : Nat) (w : World) (hn : u64B n) (hk : k ≤ 8) :
    Calls Tryd.prog 22 #[.int .u64 n, .int .i64 k] w fun e w' => e = .returned (.string (be n.toNat k)) ∧ Below w.heap.size w w' := by
  obtain ⟨hn0, hn1⟩ := hn
  obtain ⟨N, rfl⟩ := Int.eq_ofNat_of_zero_le hn0
  have hN : N < 18446744073709551616 := by omega
  clear hn0 hn1
  rw [Int.toNat_natCast]
  go_enter Tryd.func22, Tryd.ntmps22
  go_wp2_with fail
  go_loopw [0, 5, 6] (fun v s i wr => RInv N k w v s i wr) (fun _ _ i _ => k - (intOf i).toNat)
  case atStart => exact ⟨0, N, ⟨#[]⟩, Nat.zero_le _, rfl, rfl, rfl, rfl, Lib.hid (by simp), hN, rfl, Below.refl _ _⟩
  case round =>
    obtain ⟨j, V, S, hj, rfl, rfl, rfl, HS, HV, hV, hSz, BR⟩ := hrel
    by_cases hjk : j < k
    · have hc := convAt #[.int .u8 ((V : Int) % 256)] ⟨#[UInt8.ofNat (V % 256)]⟩ wr wr.heap.size 1 rfl (by
        have e : ((V : Int) % 256) = ((V % 256 : Nat) : Int) := by omega
        rw [e, byte_int _ (by omega) (by omega)]
        rfl) rfl (by show 1 ≤ 1000; omega) rfl
      have hone : (⟨#[UInt8.ofNat (V % 256)]⟩ : ByteArray).size = 1 := rfl
      go_wp2
      refine ⟨⟨j + 1, V / 256, ⟨#[UInt8.ofNat (V % 256)]⟩ ++ S, by omega, rfl, ?_, by go_num, Lib.hid ?_, Lib.hid ?_, by omega, ?_, bw_alloc BR _⟩, by simp [intOf]; omega⟩
      · congr 1
      · rw [HS.out, HV.out, be]
      · rw [HV.out, Nat.pow_succ, Nat.div_div_eq_div_mul]
      · rw [ByteArray.size_append, hone]; omega
    · obtain rfl : j = k := by omega
      go_wp2
      go_ret
      refine ⟨?_, BR⟩
      rw [← HS.out]
      rfl

/-- Behind i rounds. -/
def GInv (s : ByteArray) (A k : Nat) (v i : Value) : Prop := ∃ j N : Nat, j ≤ k ∧ v = .int .u64 N ∧ i = .int .i64 j ∧ Hid (N = num s A j) ∧ N < 256 ^ j

set_option maxHeartbeats 1000000 in
theorem rget_any (s : ByteArray) (A k : Nat) (w : World) (hk : k ≤ 8) (hs : s.size ≤ maxLen) (hA : A + k ≤ s.size) :
    Calls Tryd.prog 26 #[.string s, .int .i64 A, .int .i64 k] w fun e w' => e = .returned (.int .u64 (num s A k)) ∧ w = w' := by
  unfold maxLen at hs
  go_enter Tryd.func26, Tryd.ntmps26
  go_wp2_with fail
  go_loopw [7, 8] (fun v i wr => GInv s A k v i ∧ w = wr) (fun _ i _ => k - (intOf i).toNat)
  case atStart => exact ⟨⟨0, 0, Nat.zero_le _, rfl, rfl, rfl, by simp⟩, rfl⟩
  case round =>
    obtain ⟨⟨j, N, hj, rfl, rfl, HN, hlt⟩, rfl⟩ := hrel
    by_cases hjk : j < k
    · have hjs : A + j < s.size := by omega
      have hp : 256 ^ j ≤ 256 ^ 7 := Nat.pow_le_pow_right (by omega) (by omega)
      have hN7 : N < 72057594037927936 := by omega
      have HB := Lib.hid (byteN_get s (A + j) hjs)
      have HL := Lib.hid hlt
      clear hlt hp
      have hb := UInt8.toNat_lt s[A + j]
      have e : IntKind.u64.wrap ((N : Int) * 256 + IntKind.u64.wrap (s[A + j].toNat : Int)) = ((N * 256 + s[A + j].toNat : Nat) : Int) := by
        rw [IntKind.wrap_u64, IntKind.wrap_u64]; omega
      have HE := Lib.hid e
      clear e hb
      go_wp2
      refine ⟨⟨⟨j + 1, N * 256 + s[A + j].toNat, by omega, by rw [HE.out], by go_num, Lib.hid ?_, ?_⟩, trivial⟩, by simp [intOf]; omega⟩
      · rw [num, HN.out, HB.out]
      · have h1 := HL.out
        have h2 := UInt8.toNat_lt s[A + j]
        rw [Nat.pow_succ]
        omega
    · obtain rfl : j = k := by omega
      go_wp2
      go_ret
      exact ⟨by rw [← HN.out]; rfl, rfl⟩
end Go.Proofs.YtaifkepojfhgkaaDoor
