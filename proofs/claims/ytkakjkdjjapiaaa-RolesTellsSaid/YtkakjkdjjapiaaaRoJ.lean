/-
  Layer 8: the document's Role.
-/
import Derived.Test.YtkakjkdjjapiaaaRoH
namespace Go.Proofs.Ytkakjkdjjapiaaa
set_option linter.unusedVariables false
set_option linter.unusedSimpArgs false
open Go.RowKit Vm Rm

set_option maxRecDepth 20000 in
set_option maxHeartbeats 1000000 in
theorem role8_w (br : Int) (a : Option Addr) (n cap i : Nat) (l : List Inf) (x : Inf) (R : Int) (w : World) (hbr : u64B br) (h : IRow w a l) (hn : l.length = n) (hl : n ≤ 1000) (hx : l[i]? = some x) (hI : infB x = true) (hR : Hid (roleAt br l i x = R)) :
    Calls Try.prog 12 #[.int .u64 br, .slice a n cap, .int .i64 i] w fun e w' => e = .returned (.int .i64 R) ∧ Below w.heap.size w w' := by
  obtain ⟨⟨vr, vc, vb, vp⟩, hv⟩ : ∃ v, rootV br l = v := ⟨_, rfl⟩
  obtain ⟨P, hP⟩ : ∃ P, portI (rootP br l) = P := ⟨_, rfl⟩
  have CR := Lib.hid (root8_w br a n cap l vr vc vb vp P w hbr h hn hl (Lib.hid hv) (Lib.hid hP))
  have hin : i < n := by rw [← hn]; exact (List.getElem?_eq_some_iff.1 hx).1
  have hii : (i : Int) < n := by omega
  have ok := h.ok hx
  obtain ⟨xi, xc, xs, ⟨r, q, b, p⟩⟩ := x
  obtain ⟨g, o, rfl, hgr, q0, q1, q2, q3, q4, q5, q6⟩ := h.at_ i _ hx
  simp only at q0 q1 q2 q3 q4 q5 q6
  have hQ := hR.out
  unfold roleAt at hQ
  rw [hv] at hQ
  have hs := inf_source hI
  simp only at hs
  have A7 : Hid (At7 w g (o + i * 7) xi xc xs r q b p) := Lib.hid ⟨q0, q1, q2, q3, q4, q5, q6⟩
  have HOK := Lib.hid ok
  have HBR := Lib.hid hbr
  have hPi : (P = (i : Int)) ↔ rootP br l = some i := by rw [← hP]; exact portI_eq
  clear q0 q1 q2 q3 q4 q5 q6 hR hbr ok h hv hP hx hn
  by_cases z0 : xs = 0
  · have e : R = 0 := by rw [← hQ]; exact role_0 z0
    subst e z0
    clear hQ hPi
    go_enter Try.func12, Try.ntmps12
    go_wp2_with fail
    refine CR.out.mono ?_
    rintro e w1 ⟨rfl, hb1⟩
    obtain ⟨q0, q1, q2, q3, q4, q5, q6⟩ := A7.out.below hb1 hgr
    have hg1 := Nat.lt_of_lt_of_le hgr hb1.size
    clear CR
    go_wp2
    go_ret
    exact ⟨rfl, bw_alloc (bw_alloc hb1 _) _⟩
  by_cases z3 : xs < 3
  · have e : R = 2 := by rw [← hQ]; exact role_mid z0 z3
    have z0' : (xs == 0) = false := beq_eq_false_iff_ne.2 z0
    subst e
    clear hQ hPi
    go_enter Try.func12, Try.ntmps12
    go_wp2_with fail
    refine CR.out.mono ?_
    rintro e w1 ⟨rfl, hb1⟩
    obtain ⟨q0, q1, q2, q3, q4, q5, q6⟩ := A7.out.below hb1 hgr
    have hg1 := Nat.lt_of_lt_of_le hgr hb1.size
    clear CR
    go_wp2
    go_ret
    exact ⟨rfl, bw_alloc (bw_alloc hb1 _) _⟩
  have e3 : xs = 3 := by omega
  subst e3
  by_cases hp : rootP br l = some i
  · have e : R = 1 := by rw [← hQ, decide_eq_true hp]; exact role_root rfl
    have eP : P = (i : Int) := hPi.2 hp
    subst e eP
    clear hQ hPi hp z0 z3
    go_enter Try.func12, Try.ntmps12
    go_wp2_with fail
    refine CR.out.mono ?_
    rintro e w1 ⟨rfl, hb1⟩
    obtain ⟨q0, q1, q2, q3, q4, q5, q6⟩ := A7.out.below hb1 hgr
    have hg1 := Nat.lt_of_lt_of_le hgr hb1.size
    clear CR
    go_wp2
    go_ret
    exact ⟨rfl, bw_alloc (bw_alloc hb1 _) _⟩
  have neP : ((i : Int) == P) = false := beq_eq_false_iff_ne.2 (fun e => hp (hPi.1 e.symm))
  rw [decide_eq_false hp] at hQ
  obtain ⟨X, hX⟩ : ∃ X, cmpR ⟨vr, vc, br, xi⟩ ⟨r, q, b, p⟩ = X := ⟨_, rfl⟩
  have HC := Lib.hid hX
  clear hPi hp z0 z3
  by_cases hlt : X < 0
  · have e : R = 2 := by rw [← hQ]; exact role_desig rfl (by show cmpR ⟨vr, vc, br, xi⟩ ⟨r, q, b, p⟩ < 0; rw [hX]; exact hlt)
    subst e
    clear hQ hX
    go_enter Try.func12, Try.ntmps12
    go_wp2_with fail
    refine CR.out.mono ?_
    rintro e w1 ⟨rfl, hb1⟩
    obtain ⟨q0, q1, q2, q3, q4, q5, q6⟩ := A7.out.below hb1 hgr
    have hg1 := Nat.lt_of_lt_of_le hgr hb1.size
    clear CR
    go_wp2_with (go_at_call 22; (with_reducible refine (compare5_w vr vc br xi r q b p X _ HC).mono ?_); rintro e w2 ⟨rfl, hb2⟩)
    go_ret
    exact ⟨rfl, bw_trans (bw_alloc (bw_alloc hb1 _) _) hb2⟩
  obtain ⟨O, hO⟩ : ∃ O, ownB ⟨r, q, b, p⟩ br = O := ⟨_, rfl⟩
  have CO := Lib.hid (fun w' => own_w r q b p br O w' (Lib.hid hO) HOK.out.vec.b HBR.out)
  have hnlt : ¬ cmpR ⟨vr, vc, br, xi⟩ ⟨r, q, b, p⟩ < 0 := by rw [hX]; exact hlt
  cases O with
  | true =>
    have e : R = 4 := by rw [← hQ]; exact role_backup rfl hnlt hO
    subst e
    clear hQ hX hO hnlt
    go_enter Try.func12, Try.ntmps12
    go_wp2_with fail
    refine CR.out.mono ?_
    rintro e w1 ⟨rfl, hb1⟩
    obtain ⟨q0, q1, q2, q3, q4, q5, q6⟩ := A7.out.below hb1 hgr
    have hg1 := Nat.lt_of_lt_of_le hgr hb1.size
    clear CR
    go_wp2_with fail
    (with_reducible refine (compare5_w vr vc br xi r q b p X _ HC).mono ?_)
    rintro e w2 ⟨rfl, hb2⟩
    have K := iblk_new 47 (w1.alloc (.cells #[.int .u64 vr, .int .u64 vc, .int .u64 vb, .int .u64 vp] 28)) xi xc 3 r q b p
    rw [size_box] at K
    replace K := K.next hb2
    have B2 := bw_trans (bw_alloc (bw_alloc hb1 _) _) hb2
    clear hb2 q0 q1 q2 q3 q4 q5 q6
    obtain ⟨m0, m1, m2, m3, m4, m5, m6⟩ := K.cells
    go_wp2_with (go_at_call 23; (with_reducible refine (CO.out _).mono ?_); rintro e w3 ⟨rfl, hb3⟩)
    go_ret
    exact ⟨rfl, bw_trans B2 hb3⟩
  | false =>
    have e : R = 3 := by rw [← hQ]; exact role_alt rfl hnlt hO
    subst e
    clear hQ hX hO hnlt
    go_enter Try.func12, Try.ntmps12
    go_wp2_with fail
    refine CR.out.mono ?_
    rintro e w1 ⟨rfl, hb1⟩
    obtain ⟨q0, q1, q2, q3, q4, q5, q6⟩ := A7.out.below hb1 hgr
    have hg1 := Nat.lt_of_lt_of_le hgr hb1.size
    clear CR
    go_wp2_with fail
    (with_reducible refine (compare5_w vr vc br xi r q b p X _ HC).mono ?_)
    rintro e w2 ⟨rfl, hb2⟩
    have K := iblk_new 47 (w1.alloc (.cells #[.int .u64 vr, .int .u64 vc, .int .u64 vb, .int .u64 vp] 28)) xi xc 3 r q b p
    rw [size_box] at K
    replace K := K.next hb2
    have B2 := bw_trans (bw_alloc (bw_alloc hb1 _) _) hb2
    clear hb2 q0 q1 q2 q3 q4 q5 q6
    obtain ⟨m0, m1, m2, m3, m4, m5, m6⟩ := K.cells
    go_wp2_with (go_at_call 23; (with_reducible refine (CO.out _).mono ?_); rintro e w3 ⟨rfl, hb3⟩)
    go_ret
    exact ⟨rfl, bw_trans B2 hb3⟩
end Go.Proofs.Ytkakjkdjjapiaaa
