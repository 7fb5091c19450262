/-
  Layer 8: the document's Compare.
-/
import Derived.Test.YtbiggckddoeghaaRoB
namespace Go.Proofs.Ytbiggckddoeghaa
set_option linter.unusedVariables false
set_option linter.unusedSimpArgs false
open Go.RowKit Vm Rm

set_option maxHeartbeats 1000000 in
theorem compare5_w (r c b p r' c' b' p' R : Int) (w : World) (hR : Hid (cmpR ⟨r, c, b, p⟩ ⟨r', c', b', p'⟩ = R)) :
    Calls Try.prog 58 #[vv r c b p, vv r' c' b' p'] w fun e w' => e = .returned (.int .i64 R) ∧ Below w.heap.size w w' := by
  have e := hR.out
  unfold cmpR cmpN at e
  simp only at e
  have E := Lib.hid e
  clear e hR
  go_enter Try.func58, Try.ntmps58
  go_wp2_with fail
  refine wp_loop_rounds 5 ?_
  obtain ⟨W, hW⟩ : ∃ W, W = (((w.alloc (.cells #[.int .u64 r, .int .u64 c, .int .u64 b, .int .u64 p] 24)).alloc (.cells #[.int .u64 r', .int .u64 c', .int .u64 b', .int .u64 p'] 24)).alloc (.cells #[.int .u64 r, .int .u64 c, .int .u64 b, .int .u64 p] 101)).alloc (.cells #[.int .u64 r', .int .u64 c', .int .u64 b', .int .u64 p'] 101) := ⟨_, rfl⟩
  have B : Below w.heap.size w W := by rw [hW]; exact bw_alloc (bw_alloc (bw_alloc (below_box _ _) _) _) _
  have k1 : Boxed W (w.heap.size + 1 + 1) r c b p := by
    have h := (blk_new 101 ((w.alloc (.cells #[.int .u64 r, .int .u64 c, .int .u64 b, .int .u64 p] 24)).alloc (.cells #[.int .u64 r', .int .u64 c', .int .u64 b', .int .u64 p'] 24)) r c b p).next (below_box _ (.cells #[.int .u64 r', .int .u64 c', .int .u64 b', .int .u64 p'] 101))
    rw [size_box, size_box] at h
    rw [hW]; exact h.cells
  have k2 : Boxed W (w.heap.size + 1 + 1 + 1) r' c' b' p' := by
    have h := blk_new 101 (((w.alloc (.cells #[.int .u64 r, .int .u64 c, .int .u64 b, .int .u64 p] 24)).alloc (.cells #[.int .u64 r', .int .u64 c', .int .u64 b', .int .u64 p'] 24)).alloc (.cells #[.int .u64 r, .int .u64 c, .int .u64 b, .int .u64 p] 101)) r' c' b' p'
    rw [size_box, size_box, size_box] at h
    rw [hW]; exact h.cells
  rw [← hW]
  clear hW
  obtain ⟨c0, c1, c2, c3⟩ := k1
  obtain ⟨d0, d1, d2, d3⟩ := k2
  rcases Int.lt_trichotomy r r' with h | h | h
  · have e : R = -1 := by rw [← E.out, if_pos h]
    subst e
    clear E
    rw [rounds_succ]
    go_wp2_with fail
    go_quiet (fail)
    go_wp2
    go_ret
    exact ⟨rfl, by repeat first | exact B | apply below_drewN⟩
  rotate_left
  · have e : R = 1 := by rw [← E.out, if_neg (by omega), if_pos h]
    subst e
    clear E
    have h' : ¬ r < r' := by omega
    rw [rounds_succ]
    go_wp2_with fail
    go_quiet (fail)
    go_wp2_with fail
    go_quiet (fail)
    go_wp2
    go_ret
    exact ⟨rfl, by repeat first | exact B | apply below_drewN⟩
  subst h
  replace E := Lib.hid ((by rw [if_neg (Int.lt_irrefl r), if_neg (Int.lt_irrefl r)] at *; exact E.out))
  rw [rounds_succ]
  go_wp2_with fail
  go_quiet (fail)
  go_wp2_with fail
  go_quiet (fail)
  go_wp2_with fail
  rcases Int.lt_trichotomy c c' with h | h | h
  · have e : R = -1 := by rw [← E.out, if_pos h]
    subst e
    clear E
    rw [rounds_succ]
    go_wp2_with fail
    go_quiet (fail)
    go_wp2
    go_ret
    exact ⟨rfl, by repeat first | exact B | apply below_drewN⟩
  rotate_left
  · have e : R = 1 := by rw [← E.out, if_neg (by omega), if_pos h]
    subst e
    clear E
    have h' : ¬ c < c' := by omega
    rw [rounds_succ]
    go_wp2_with fail
    go_quiet (fail)
    go_wp2_with fail
    go_quiet (fail)
    go_wp2
    go_ret
    exact ⟨rfl, by repeat first | exact B | apply below_drewN⟩
  subst h
  replace E := Lib.hid ((by rw [if_neg (Int.lt_irrefl c), if_neg (Int.lt_irrefl c)] at *; exact E.out))
  rw [rounds_succ]
  go_wp2_with fail
  go_quiet (fail)
  go_wp2_with fail
  go_quiet (fail)
  go_wp2_with fail
  rcases Int.lt_trichotomy b b' with h | h | h
  · have e : R = -1 := by rw [← E.out, if_pos h]
    subst e
    clear E
    rw [rounds_succ]
    go_wp2_with fail
    go_quiet (fail)
    go_wp2
    go_ret
    exact ⟨rfl, by repeat first | exact B | apply below_drewN⟩
  rotate_left
  · have e : R = 1 := by rw [← E.out, if_neg (by omega), if_pos h]
    subst e
    clear E
    have h' : ¬ b < b' := by omega
    rw [rounds_succ]
    go_wp2_with fail
    go_quiet (fail)
    go_wp2_with fail
    go_quiet (fail)
    go_wp2
    go_ret
    exact ⟨rfl, by repeat first | exact B | apply below_drewN⟩
  subst h
  replace E := Lib.hid ((by rw [if_neg (Int.lt_irrefl b), if_neg (Int.lt_irrefl b)] at *; exact E.out))
  rw [rounds_succ]
  go_wp2_with fail
  go_quiet (fail)
  go_wp2_with fail
  go_quiet (fail)
  go_wp2_with fail
  rcases Int.lt_trichotomy p p' with h | h | h
  · have e : R = -1 := by rw [← E.out, if_pos h]
    subst e
    clear E
    rw [rounds_succ]
    go_wp2_with fail
    go_quiet (fail)
    go_wp2
    go_ret
    exact ⟨rfl, by repeat first | exact B | apply below_drewN⟩
  rotate_left
  · have e : R = 1 := by rw [← E.out, if_neg (by omega), if_pos h]
    subst e
    clear E
    have h' : ¬ p < p' := by omega
    rw [rounds_succ]
    go_wp2_with fail
    go_quiet (fail)
    go_wp2_with fail
    go_quiet (fail)
    go_wp2
    go_ret
    exact ⟨rfl, by repeat first | exact B | apply below_drewN⟩
  subst h
  replace E := Lib.hid ((by rw [if_neg (Int.lt_irrefl p), if_neg (Int.lt_irrefl p)] at *; exact E.out))
  rw [rounds_succ]
  go_wp2_with fail
  go_quiet (fail)
  go_wp2_with fail
  go_quiet (fail)
  go_wp2_with fail
  have e : R = 0 := E.out.symm
  subst e
  rw [rounds_succ]
  go_wp2
  go_ret
  exact ⟨rfl, by repeat first | exact B | apply below_drewN⟩
end Go.Proofs.Ytbiggckddoeghaa
