/-
  The law VectorParts, walked.
-/
import Derived.Test.YtiehocggdmadaaaVcK
namespace Go.Proofs.Ytiehocggdmadaaa
set_option linter.unusedVariables false
set_option linter.unusedSimpArgs false
open Go.RowKit Vm

theorem be_less (N M k : Nat) : Op.bytesLess (Bm.be N k).toList (Bm.be M k).toList = decide (N % 256 ^ k < M % 256 ^ k) := by
  induction k with
  | zero => simp [Bm.be, ByteArray.toList_eq, Op.bytesLess, Nat.mod_one]
  | succ k ih =>
    have e : ∀ X : Nat, (Bm.be X (k + 1)).toList = UInt8.ofNat (X / 256 ^ k % 256) :: (Bm.be X k).toList := by
      intro X
      rw [ByteArray.toList_eq, ByteArray.toList_eq]
      simp [Bm.be]
    rw [e, e, Op.bytesLess, ih, Bool.eq_iff_iff]
    have mN : N % 256 ^ (k + 1) = N % 256 ^ k + 256 ^ k * (N / 256 ^ k % 256) := by rw [Nat.pow_succ, Nat.mod_mul]
    have mM : M % 256 ^ (k + 1) = M % 256 ^ k + 256 ^ k * (M / 256 ^ k % 256) := by rw [Nat.pow_succ, Nat.mod_mul]
    have lN : N % 256 ^ k < 256 ^ k := Nat.mod_lt _ (Nat.pow_pos (by omega))
    have lM : M % 256 ^ k < 256 ^ k := Nat.mod_lt _ (Nat.pow_pos (by omega))
    have dN : N / 256 ^ k % 256 < 256 := Nat.mod_lt _ (by omega)
    have dM : M / 256 ^ k % 256 < 256 := Nat.mod_lt _ (by omega)
    rw [mN, mM]
    generalize N / 256 ^ k % 256 = x at *
    generalize M / 256 ^ k % 256 = y at *
    generalize N % 256 ^ k = a at *
    generalize M % 256 ^ k = b at *
    generalize 256 ^ k = q at *
    simp only [Bool.and_eq_true, Bool.or_eq_true, beq_iff_eq, decide_eq_true_iff, ← UInt8.toNat_inj, UInt8.lt_iff_toNat_lt, UInt8.toNat_ofNat']
    have ex : x % 2 ^ 8 = x := by omega
    have ey : y % 2 ^ 8 = y := by omega
    rw [ex, ey]
    rcases Nat.lt_trichotomy x y with h | h | h
    · have : q * (x + 1) ≤ q * y := Nat.mul_le_mul_left q h
      rw [Nat.mul_add] at this
      constructor
      · intro _; omega
      · intro _; exact .inl h
    · subst h
      constructor
      · rintro (h | ⟨_, h⟩) <;> omega
      · intro h; exact .inr ⟨rfl, by omega⟩
    · have : q * (y + 1) ≤ q * x := Nat.mul_le_mul_left q h
      rw [Nat.mul_add] at this
      constructor
      · rintro (h | ⟨_, h⟩) <;> omega
      · intro h; omega
theorem parts_sum (n : Int) (hn : u64B n) : bridgeR (n / 1152921504606846976) (n / 281474976710656 % 4096) (Bm.num (Bm.be n.toNat 6) 0 6) (Bm.be n.toNat 6).size = (n, 0) := by
  obtain ⟨h0, h1⟩ := hn
  rw [Bm.be_size, Bm.num_be, bridgeR, if_pos (by omega), if_pos rfl]
  simp only [Prod.mk.injEq, and_true]
  omega

set_option maxHeartbeats 2000000 in
theorem parts_walk (n m : Int) (w : World) (hn : u64B n) (hm : u64B m) :
    Calls Try.prog 3 #[.int .u64 n, .int .u64 m] w fun e w' => e = .returned (.bool true) ∧ Below w.heap.size w w' := by
  obtain ⟨P1, hP1⟩ : ∃ P, n / 1152921504606846976 = P := ⟨_, rfl⟩
  obtain ⟨P2, hP2⟩ : ∃ P, m / 1152921504606846976 = P := ⟨_, rfl⟩
  obtain ⟨V1, hV1⟩ : ∃ V, n / 281474976710656 % 4096 = V := ⟨_, rfl⟩
  obtain ⟨V2, hV2⟩ : ∃ V, m / 281474976710656 % 4096 = V := ⟨_, rfl⟩
  obtain ⟨S1, hS1⟩ : ∃ S, Bm.be n.toNat 6 = S := ⟨_, rfl⟩
  obtain ⟨S2, hS2⟩ : ∃ S, Bm.be m.toNat 6 = S := ⟨_, rfl⟩
  have hb := parts_sum n hn
  rw [hP1, hV1, hS1] at hb
  have HB := Lib.hid hb; clear hb
  have z1 : S1.size = 6 := by rw [← hS1]; exact Bm.be_size _ _
  have hl := be_less n.toNat m.toNat 6
  rw [hS1, hS2] at hl
  have a0 := hn.1
  have a1 := hn.2
  have b0 := hm.1
  have b1 := hm.2
  have L1 : P1 ≠ P2 → decide (n < m) = decide (P1 < P2) := by intro h; rw [Bool.eq_iff_iff]; simp; omega
  have L2 : P1 = P2 → V1 = V2 → decide (n < m) = Op.bytesLess S1.toList S2.toList := by intro h h'; rw [hl, Bool.eq_iff_iff]; simp; omega
  have p0 : 0 ≤ P1 := by omega
  have p1 : P1 ≤ 15 := by omega
  have v0 : 0 ≤ V1 := by omega
  have v1 : V1 ≤ 4095 := by omega
  have HL1 := Lib.hid L1; clear L1
  have HL2 := Lib.hid L2; clear L2 hl
  have HP1 := Lib.hid hP1; clear hP1
  have HP2 := Lib.hid hP2; clear hP2
  have HV1 := Lib.hid hV1; clear hV1
  have HV2 := Lib.hid hV2; clear hV2
  have HS1 := Lib.hid hS1; clear hS1
  have HS2 := Lib.hid hS2; clear hS2
  have zi : (S1.size : Int) = 6 := by omega
  go_enter Try.func3, Try.ntmps3
  go_wp2_with fail
  refine (awake_any _).mono ?_
  rintro e w1 ⟨rfl, B1⟩
  go_wp2_with fail
  refine (split_w n P1 V1 S1 _ hn HP1 HV1 HS1).mono ?_
  rintro e w2 ⟨rfl, hb2⟩
  have B2 := bw_trans B1 hb2
  clear hb2 B1
  go_wp2_with fail
  refine (split_w m P2 V2 S2 _ hm HP2 HV2 HS2).mono ?_
  rintro e w3 ⟨rfl, hb3⟩
  have B3 := bw_trans B2 hb3
  clear hb3 B2
  go_wp2_with fail
  refine (bridge_w P1 V1 S1 n 0 _ HB (by rw [z1]; decide)).mono ?_
  rintro e w4 ⟨rfl, rfl⟩
  by_cases hP : P1 = P2
  · by_cases hV : V1 = V2
    · have h2 := Lib.hid (HL2.out hP hV)
      subst hP hV
      clear hn hm
      go_wp2
      all_goals go_ret
      all_goals exact ⟨ret_bool (by rw [h2.out]; exact beq_self_eq_true _), B3⟩
    · subst hP
      have h3 : (V1 == V2) = false := beq_eq_false_iff_ne.2 hV
      clear hn hm
      go_wp2
      all_goals go_ret
      all_goals exact ⟨rfl, B3⟩
  · have h1 := Lib.hid (HL1.out hP)
    have h3 : (P1 == P2) = false := beq_eq_false_iff_ne.2 hP
    clear hn hm
    go_wp2
    all_goals go_ret
    all_goals exact ⟨ret_bool (by rw [h1.out]; exact beq_self_eq_true _), B3⟩
end Go.Proofs.Ytiehocggdmadaaa
