/-
  Layer 11: what the document asks of a BPDU: Right, Supersedes, TimesOf, Heard.
-/
import Derived.Test.YtbiggckddoeghaaInDb
namespace Go.Proofs.Ytbiggckddoeghaa
set_option linter.unusedVariables false
set_option linter.unusedSimpArgs false
open Go.RowKit Vm Rm Bm Im

set_option linter.unusedSimpArgs false
open Go.RowKit Bm

theorem run_rpEq (k f r c b p a m h d k' f' r' c' b' p' a' m' h' d' : Int) (w : World) :
    Sem.run Try.prog (binOp .eql 40 (bv k f r c b p a m h d) (bv k' f' r' c' b' p' a' m' h' d')) w = .ok (.bool (bpEq ⟨k, f, r, c, b, p, a, m, h, d⟩ ⟨k', f', r', c', b', p', a', m', h', d'⟩)) w := by
  unfold bv
  go_simp
  repeat' split
  all_goals simp_all [bpEq]

set_option maxHeartbeats 400000 in
theorem rin_any (n m : Int) (w : World) :
    Calls Try.prog 56 #[.int .i64 n, .int .i64 m] w fun e w' => e = .returned (.bool (withinB n m)) ∧ w = w' := by
  go_enter Try.func56, Try.ntmps56
  go_wp2
  all_goals go_ret
  all_goals refine ⟨ret_bool ?_, rfl⟩
  all_goals (unfold withinB; rw [Bool.eq_iff_iff]; simp; omega)

set_option maxHeartbeats 2000000 in
theorem rright_any (k f r c b p a m h d : Int) (w : World) :
    Calls Try.prog 32 #[bv k f r c b p a m h d] w fun e w' => e = .returned (.bool (rightB ⟨k, f, r, c, b, p, a, m, h, d⟩)) ∧ Below w.heap.size w w' := by
  have hq := run_rpEq k f r c b p a m h d 2 0 0 0 0 0 0 0 0 0
  unfold bv at hq ⊢
  go_enter Try.func32, Try.ntmps32
  go_wp2_with (go_at_call 56; refine (rin_any _ _ _).mono ?_; rintro e w' ⟨rfl, rfl⟩)
  all_goals go_light
  all_goals go_ret
  all_goals refine ⟨ret_bool ?_, below_box _ _⟩
  all_goals (simp_all [rightB, notice, numsB]; try omega)
theorem rright_w (k f r c b p a m h d : Int) (w : World) (R : Bool) (hR : Hid (rightB ⟨k, f, r, c, b, p, a, m, h, d⟩ = R)) :
    Calls Try.prog 32 #[bv k f r c b p a m h d] w fun e w' => e = .returned (.bool R) ∧ Below w.heap.size w w' := by
  have H := rright_any k f r c b p a m h d w
  rw [hR.out] at H
  exact H


theorem cmp_less {a b : Vc} : (cmpR a b < 0) ↔ cmpR a b = -1 := by
  have := cmp_range a b
  omega
set_option maxHeartbeats 2000000 in
theorem rsuper_w (r c b p r' c' b' p' : Int) (R : Bool) (w : World) (hR : Hid (superB ⟨r, c, b, p⟩ ⟨r', c', b', p'⟩ = R)) (hb : Vm.u64B b) (hp : Vm.u64B p) (hb' : Vm.u64B b') (hp' : Vm.u64B p') :
    Calls Try.prog 57 #[vv r c b p, vv r' c' b' p'] w fun e w' => e = .returned (.bool R) ∧ Below w.heap.size w w' := by
  obtain ⟨C, hC⟩ : ∃ C, cmpR ⟨r, c, b, p⟩ ⟨r', c', b', p'⟩ = C := ⟨_, rfl⟩
  have CC := Lib.hid (fun w' => compare5_w r c b p r' c' b' p' C w' (Lib.hid hC))
  have hcr := cmp_range ⟨r, c, b, p⟩ ⟨r', c', b', p'⟩
  rw [hC] at hcr
  have B1 := blk_new 24 w r c b p
  have B2 := blk_new 24 (w.alloc (.cells #[.int .u64 r, .int .u64 c, .int .u64 b, .int .u64 p] 24)) r' c' b' p'
  have B1' := B1.next (below_box _ (.cells #[.int .u64 r', .int .u64 c', .int .u64 b', .int .u64 p'] 24))
  rw [size_box] at B2
  have KA := Lib.hid B1'
  have KB := Lib.hid B2
  have hR2 : (decide (C < 0) || sameB ⟨r, c, b, p⟩ ⟨r', c', b', p'⟩) = R := by rw [← hC]; exact hR.out
  obtain ⟨hb0, hb1⟩ := hb
  obtain ⟨hp0, hp1⟩ := hp
  obtain ⟨hq0, hq1⟩ := hb'
  obtain ⟨hs0, hs1⟩ := hp'
  clear hR B1 B2 B1' hC
  unfold vv at CC ⊢
  by_cases h : C = -1
  · subst h
    obtain rfl : R = true := by rw [← hR2]; rfl
    clear hR2 hcr
    go_enter Try.func57, Try.ntmps57
    go_wp2_with (go_at_call 58; (with_reducible refine (CC.out _).mono ?_); rintro e w2 ⟨rfl, hb2⟩)
    go_ret
    exact ⟨rfl, bw_trans (bw_alloc (below_box w _) _) hb2⟩
  · have z : (C == -1) = false := beq_eq_false_iff_ne.2 h
    have hR3 : sameB ⟨r, c, b, p⟩ ⟨r', c', b', p'⟩ = R := by rw [← hR2, decide_eq_false (by omega)]; rfl
    clear hR2 hcr
    by_cases e1 : b % 281474976710656 = b' % 281474976710656
    · by_cases e2 : p % 4096 = p' % 4096
      · obtain rfl : R = true := by rw [← hR3]; exact decide_eq_true ⟨e1, e2⟩
        have z1 : (b % 281474976710656 == b' % 281474976710656) = true := beq_iff_eq.2 e1
        have z2 : (p % 4096 == p' % 4096) = true := beq_iff_eq.2 e2
        clear hR3 e1 e2 h
        go_enter Try.func57, Try.ntmps57
        go_wp2_with (go_at_call 58; (with_reducible refine (CC.out _).mono ?_); rintro e w2 ⟨rfl, hb2⟩; have KC := KA.out.next hb2; have KD := KB.out.next hb2; obtain ⟨k0, k1, k2, k3⟩ := KC.cells; obtain ⟨m0, m1, m2, m3⟩ := KD.cells; clear KC KD)
        go_ret
        exact ⟨rfl, bw_trans (bw_alloc (below_box w _) _) hb2⟩
      · obtain rfl : R = false := by rw [← hR3]; exact decide_eq_false (fun e => e2 e.2)
        have z1 : (b % 281474976710656 == b' % 281474976710656) = true := beq_iff_eq.2 e1
        have z2 : (p % 4096 == p' % 4096) = false := beq_eq_false_iff_ne.2 e2
        clear hR3 e1 e2 h
        go_enter Try.func57, Try.ntmps57
        go_wp2_with (go_at_call 58; (with_reducible refine (CC.out _).mono ?_); rintro e w2 ⟨rfl, hb2⟩; have KC := KA.out.next hb2; have KD := KB.out.next hb2; obtain ⟨k0, k1, k2, k3⟩ := KC.cells; obtain ⟨m0, m1, m2, m3⟩ := KD.cells; clear KC KD)
        go_ret
        exact ⟨rfl, bw_trans (bw_alloc (below_box w _) _) hb2⟩
    · obtain rfl : R = false := by rw [← hR3]; exact decide_eq_false (fun e => e1 e.1)
      have z1 : (b % 281474976710656 == b' % 281474976710656) = false := beq_eq_false_iff_ne.2 e1
      clear hR3 e1 h
      go_enter Try.func57, Try.ntmps57
      go_wp2_with (go_at_call 58; (with_reducible refine (CC.out _).mono ?_); rintro e w2 ⟨rfl, hb2⟩; have KC := KA.out.next hb2; have KD := KB.out.next hb2; obtain ⟨k0, k1, k2, k3⟩ := KC.cells; obtain ⟨m0, m1, m2, m3⟩ := KD.cells; clear KC KD)
      go_ret
      exact ⟨rfl, bw_trans (bw_alloc (below_box w _) _) hb2⟩

set_option maxHeartbeats 2000000 in
theorem rtimes_w (k f r c b p a m h d H : Int) (w : World) (ha : 0 ≤ a ∧ a ≤ 65535) (hm : 0 ≤ m ∧ m ≤ 65535) (h0 : 0 ≤ h ∧ h ≤ 65535) (hd : 0 ≤ d ∧ d ≤ 65535) (hH : Hid ((if h / 256 < 1 then 1 else h / 256) = H)) :
    Calls Try.prog 34 #[bv k f r c b p a m h d] w fun e w' => e = .returned (tv (a / 256) (m / 256) H (d / 256)) ∧ Below w.heap.size w w' := by
  have kT := (tbk_new 32 (w.alloc (.cells #[.int .i64 k, .int .i64 f, .int .u64 r, .int .u64 c, .int .u64 b, .int .u64 p, .int .i64 a, .int .i64 m, .int .i64 h, .int .i64 d] 40)) (a / 256) (m / 256) H (d / 256)).next (below_box _ (.cells #[.int .i64 (a / 256), .int .i64 (m / 256), .int .i64 H, .int .i64 (d / 256)] 32))
  rw [size_box] at kT
  obtain ⟨k0, k1, k2, k3⟩ := kT.cells
  have q1 : a.tdiv 256 = a / 256 := Int.tdiv_eq_ediv_of_nonneg ha.1
  have q2 : m.tdiv 256 = m / 256 := Int.tdiv_eq_ediv_of_nonneg hm.1
  have q3 : h.tdiv 256 = h / 256 := Int.tdiv_eq_ediv_of_nonneg h0.1
  have q4 : d.tdiv 256 = d / 256 := Int.tdiv_eq_ediv_of_nonneg hd.1
  have w1 : IntKind.i64.wrap (a / 256) = a / 256 := IntWalk.i64_in _ ⟨by omega, by omega⟩
  have w2 : IntKind.i64.wrap (m / 256) = m / 256 := IntWalk.i64_in _ ⟨by omega, by omega⟩
  have w3 : IntKind.i64.wrap (h / 256) = h / 256 := IntWalk.i64_in _ ⟨by omega, by omega⟩
  have w4 : IntKind.i64.wrap (d / 256) = d / 256 := IntWalk.i64_in _ ⟨by omega, by omega⟩
  have v1 := IntWalk.wrap64_in (a / 256) ⟨by omega, by omega⟩
  have v2 := IntWalk.wrap64_in (m / 256) ⟨by omega, by omega⟩
  have v3 := IntWalk.wrap64_in (h / 256) ⟨by omega, by omega⟩
  have v4 := IntWalk.wrap64_in (d / 256) ⟨by omega, by omega⟩
  obtain ⟨ha, ha'⟩ := ha
  obtain ⟨hm, hm'⟩ := hm
  obtain ⟨h0, h0'⟩ := h0
  obtain ⟨hd, hd'⟩ := hd
  clear kT
  unfold bv
  by_cases hl : h / 256 < 1
  · have hz : decide (h / 256 < 1) = true := decide_eq_true hl
    obtain rfl : H = 1 := by rw [← hH.out, if_pos hl]
    clear hH
    go_enter Try.func34, Try.ntmps34
    go_wp2_with fail
    all_goals first | (exfalso; omega) | skip
    exact bodyPost_ret (v := tv (a / 256) (m / 256) 1 (d / 256)) (by simp [results, Try.results34, go_sem, k0, k1, k2, k3]) rfl ⟨rfl, bw_alloc (bw_alloc (below_box w _) _) _⟩
  · have hz : decide (h / 256 < 1) = false := decide_eq_false hl
    have e : H = h / 256 := by rw [← hH.out, if_neg hl]
    subst e
    clear hH
    go_enter Try.func34, Try.ntmps34
    go_wp2_with fail
    all_goals first | (exfalso; omega) | skip
    exact bodyPost_ret (v := tv (a / 256) (m / 256) (h / 256) (d / 256)) (by simp [results, Try.results34, go_sem, k0, k1, k2, k3]) rfl ⟨rfl, bw_alloc (bw_alloc (below_box w _) _) _⟩
end Go.Proofs.Ytbiggckddoeghaa
