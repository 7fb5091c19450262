/-
  The library's sort at uint64: bits.Len, nextPowerOfTwo, Next, breakPatternsOrdered, of a part of 13 to 16 numbers.
-/
import Derived.Test.YtldobcfejldbiaaGreatDoorMbp
namespace Go.Proofs.YtldobcfejldbiaaGreatDoor
set_option linter.unusedVariables false
set_option linter.unusedSimpArgs false
open Go.RowKit Go.Sort Sm

/-- What bits.Len says of small numbers. -/
def lenS (n : Nat) : Nat := if n = 0 then 0 else if n < 2 then 1 else if n < 4 then 2 else if n < 8 then 3 else if n < 16 then 4 else 5
set_option maxRecDepth 20000 in
set_option maxHeartbeats 4000000 in
theorem len64_w (n : Nat) (hn : n ≤ 16) (w : World) : Calls Tryz.prog 186 #[.int .u64 ((n : Nat) : Int)] w fun e w' => e = .returned (.int .i64 ((lenS n : Nat) : Int)) ∧ w' = w := by
  have h : n = 0 ∨ n = 1 ∨ n = 2 ∨ n = 3 ∨ n = 4 ∨ n = 5 ∨ n = 6 ∨ n = 7 ∨ n = 8 ∨ n = 9 ∨ n = 10 ∨ n = 11 ∨ n = 12 ∨ n = 13 ∨ n = 14 ∨ n = 15 ∨ n = 16 := by omega
  rcases h with rfl | rfl | rfl | rfl | rfl | rfl | rfl | rfl | rfl | rfl | rfl | rfl | rfl | rfl | rfl | rfl | rfl
  all_goals
    go_enter Tryz.func186, Tryz.ntmps186
    go_wp2_with fail
    go_ret
    exact ⟨by kernel_rfl, rfl⟩
set_option maxHeartbeats 1000000 in
theorem len_w (n : Nat) (hn : n ≤ 16) (w : World) : Calls Tryz.prog 144 #[.int .u64 ((n : Nat) : Int)] w fun e w' => e = .returned (.int .i64 ((lenS n : Nat) : Int)) ∧ w' = w := by
  have C := Lib.hid (len64_w n hn)
  have h1 : (n : Int) ≤ 16 := by omega
  go_enter Tryz.func144, Tryz.ntmps144
  go_wp2_with (go_at_call 186; refine (C.out _).mono ?_; rintro e w' ⟨rfl, rfl⟩)
  go_ret
  exact ⟨rfl, rfl⟩
set_option maxHeartbeats 1000000 in
theorem power2_w (L : Nat) (hL : L = 13 ∨ L = 14 ∨ L = 15 ∨ L = 16) (w : World) : Calls Tryz.prog 205 #[.int .i64 ((L : Nat) : Int)] w fun e w' => e = .returned (.int .u64 (if L = 16 then 32 else 16)) ∧ w' = w := by
  rcases hL with rfl | rfl | rfl | rfl
  all_goals
    go_enter Tryz.func205, Tryz.ntmps205
    go_wp2_with fail
  · refine (len_w 13 (by omega) _).mono ?_
    rintro e w' ⟨rfl, rfl⟩
    go_wp2_with fail
    go_ret
    exact ⟨by kernel_rfl, rfl⟩
  · refine (len_w 14 (by omega) _).mono ?_
    rintro e w' ⟨rfl, rfl⟩
    go_wp2_with fail
    go_ret
    exact ⟨by kernel_rfl, rfl⟩
  · refine (len_w 15 (by omega) _).mono ?_
    rintro e w' ⟨rfl, rfl⟩
    go_wp2_with fail
    go_ret
    exact ⟨by kernel_rfl, rfl⟩
  · refine (len_w 16 (by omega) _).mono ?_
    rintro e w' ⟨rfl, rfl⟩
    go_wp2_with fail
    go_ret
    exact ⟨by kernel_rfl, rfl⟩

/-- Block s holds what the library draws numbers from. -/
def NX (w : World) (s : Nat) (R : Int) : Prop := w.heap[s]? = some (.cells #[.int .u64 R] 242 (0, 0))
theorem NX.cell {w : World} {s : Nat} {k : Int} (h : NX w s k) : w.cell? ⟨s, 0, none⟩ = some (.int .u64 k) := by unfold NX at h; simp [World.cell?, h]
theorem NX.free {w : World} {s : Nat} {k : Int} (h : NX w s k) : w.frozen? ⟨s, 0, none⟩ = false := by unfold NX at h; simp [World.frozen?, h]
theorem NX.set {w : World} {s : Nat} {k : Int} (h : NX w s k) (m : Int) : NX (w.setCell ⟨s, 0, none⟩ (.int .u64 m)) s m := heap_setCell_same _ _ _ _ _ _ h
theorem NX.drewN {w : World} {s : Nat} {k : Int} (h : NX w s k) (n : Nat) : NX (w.drewN n) s k := h

theorem xor_range (a b : Int) : 0 ≤ bits .xor .u64 a b ∧ bits .xor .u64 a b < 18446744073709551616 := by
  have h : ∃ n : Int, bits .xor .u64 a b = IntKind.u64.wrap n := ⟨_, rfl⟩
  obtain ⟨n, hn⟩ := h
  rw [hn, IntKind.wrap_u64]
  omega
set_option maxHeartbeats 2000000 in
theorem next_w (s : Nat) (R : Int) (w : World) (h : NX w s R) :
    Calls Tryz.prog 206 #[.pointer (some ⟨s, 0, none⟩)] w fun e w' => ∃ R' : Int, e = .returned (.int .u64 R') ∧ (0 ≤ R' ∧ R' < 18446744073709551616) ∧ NX w' s R' ∧ Kq s w w' := by
  have H := Lib.hid h
  have c0 := h.cell
  have f0 := h.free
  go_enter Tryz.func206, Tryz.ntmps206
  go_upto_region 1 with (fail)
  go_cut [10] (fun _ wx => ∃ R' : Int, (0 ≤ R' ∧ R' < 18446744073709551616) ∧ NX wx s R' ∧ Kq s w wx)
  case first =>
    go_region
    all_goals go_wp2_with fail
    all_goals go_meet
    all_goals exact ⟨_, xor_range _ _, (H.out.set _).drewN 1, ((Kq.refl s w).set _ _).drew⟩
  case rest =>
  obtain ⟨R1, hR1, hN1, hK1⟩ := hcut
  have H1 := Lib.hid hN1
  have K1 := Lib.hid hK1
  have c1 := hN1.cell
  have f1 := hN1.free
  clear hN1 hK1
  go_upto_region 2 with (fail)
  go_cut [19] (fun _ wx => ∃ R' : Int, (0 ≤ R' ∧ R' < 18446744073709551616) ∧ NX wx s R' ∧ Kq s w wx)
  case first =>
    go_region
    all_goals go_wp2_with fail
    all_goals go_meet
    all_goals exact ⟨_, xor_range _ _, (H1.out.set _).drewN 1, (K1.out.set _ _).drew⟩
  case rest =>
  obtain ⟨R2, hR2, hN2, hK2⟩ := hcut
  have H2 := Lib.hid hN2
  have K2 := Lib.hid hK2
  have c2 := hN2.cell
  have f2 := hN2.free
  clear hN2 hK2
  go_upto_region 3 with (fail)
  go_cut [28] (fun _ wx => ∃ R' : Int, (0 ≤ R' ∧ R' < 18446744073709551616) ∧ NX wx s R' ∧ Kq s w wx)
  case first =>
    go_region
    all_goals go_wp2_with fail
    all_goals go_meet
    all_goals exact ⟨_, xor_range _ _, (H2.out.set _).drewN 1, (K2.out.set _ _).drew⟩
  case rest =>
  obtain ⟨R3, hR3, hN3, hK3⟩ := hcut
  have H3 := Lib.hid hN3
  have K3 := Lib.hid hK3
  have c3 := hN3.cell
  have f3 := hN3.free
  clear hN3 hK3
  go_wp2_with fail
  go_ret
  exact ⟨R3, rfl, hR3, H3.out, K3.out⟩
end Go.Proofs.YtldobcfejldbiaaGreatDoor
