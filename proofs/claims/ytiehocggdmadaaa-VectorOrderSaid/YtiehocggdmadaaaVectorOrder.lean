/-
  For all vectors and rows of vectors: comparing is an order, the best of a row is better than, or the same as, each, and what is better supersedes (the statement VectorOrder, whole: no condition).
-/
import Derived.Test.YtiehocggdmadaaaVcLO
import Derived.Test.YtiehocggdmadaaaVcLaid
namespace Go.Proofs.Ytiehocggdmadaaa.vectorOrder
set_option linter.unusedVariables false
set_option linter.unusedSimpArgs false
open Go.ChangeShapes Go.WideShapes Go.ChangeAt Go.RowKit Go.Joins Go.Deep Vm

theorem walk (r c b p r' c' b' p' r2 c2 b2 p2 : Int) (ad : Option Addr) (len cap : Nat) (l : List Vc) (w : World) (ur : u64B r) (uc : u64B c) (ub : u64B b) (up : u64B p) (ur' : u64B r') (uc' : u64B c') (ub' : u64B b') (up' : u64B p') (ur2 : u64B r2) (uc2 : u64B c2) (ub2 : u64B b2) (up2 : u64B p2) (hl : len ≤ maxLen) (hR : IsRow w ad len l) :
    Calls Try.prog 4 #[vv r c b p, vv r' c' b' p', vv r2 c2 b2 p2, .slice ad len cap] w fun e w' => e = .returned (.bool true) ∧ Below w.heap.size w w' := by
  by_cases h100 : 100 < len
  · exact order_big r c b p r' c' b' p' r2 c2 b2 p2 ad len cap w hl h100
  have hc := order_cases ⟨r, c, b, p⟩ ⟨r', c', b', p'⟩ ⟨r2, c2, b2, p2⟩ _ _ _ _ _ _ rfl rfl rfl rfl rfl rfl
  rcases hR with ⟨rfl, _⟩ | ⟨x, off, rfl, hI⟩
  · exact order_none r c b p r' c' b' p' r2 c2 b2 p2 ad cap w _ _ _ _ _ _ (Lib.hid rfl) (Lib.hid rfl) (Lib.hid rfl) (Lib.hid rfl) (Lib.hid rfl) (Lib.hid rfl) ub up ub' up' hc
  · by_cases hz : len = 0
    · subst hz
      exact order_none r c b p r' c' b' p' r2 c2 b2 p2 _ cap w _ _ _ _ _ _ (Lib.hid rfl) (Lib.hid rfl) (Lib.hid rfl) (Lib.hid rfl) (Lib.hid rfl) (Lib.hid rfl) ub up ub' up' hc
    · have hlen := hI.length
      have hF := bestN_first (l := l) len (by omega) (by omega)
      obtain ⟨K, hK⟩ : ∃ K, bestN l len = K := ⟨_, rfl⟩
      rw [hK] at hF
      have hKl := hF.lt
      obtain ⟨⟨s0, s1, s2, s3⟩, hv⟩ : ∃ v, l[K]? = some v := at_some (by omega)
      exact order_some r c b p r' c' b' p' r2 c2 b2 p2 x off len cap l K s0 s1 s2 s3 (by omega) (by omega) (by unfold bestI; rw [if_neg hz, hK]) (Lib.hid hF) hKl (Lib.hid hv) w hI _ _ _ _ _ _ (Lib.hid rfl) (Lib.hid rfl) (Lib.hid rfl) (Lib.hid rfl) (Lib.hid rfl) (Lib.hid rfl) ub up ub' up' hc

set_option maxRecDepth 100000 in
theorem lifted (os : Os) (started : os.Started) (H : Type) (enc : TypeId × Value → H) :
    ReturnsInHanded {} Try.checked os 4 .any (Rows.vectorOrderSpec.pre6 enc Try.prog Try.f4 Rows.vectorOrderRow.domain false) (Rows.vectorOrderSpec.post enc Try.prog Try.f4 false true false false) := by
  refine returnsInHanded_of_change (C := Try.checked) own started (by kernel_rfl) Try.func4
    (ChangeSpec.witness6 (enc := enc) (C := Try.checked) false ⟨#[], #[vv 0 0 0 0, vv 0 0 0 0, vv 0 0 0 0, .slice none 0 0], []⟩ 8 (by kernel_rfl) (by kernel_rfl) (by kernel_rfl) (by kernel_rfl)) ?_
  intro W base args ds gs before hval0 hW hcnd _
  have hval : ∀ (j : Nat) t v, Try.f4.params[j]? = some t → args[j]? = some v → Value.okWide Try.prog W .any base t v := hval0
  have hW' := hW
  obtain ⟨p, q, hA0, hV, rfl, hfz, hnd⟩ := hW
  have hA : DataW.TrodAll enc Try.prog W 0 (fun _ => true) true Try.f4.params.toList args.toList ds p := hA0
  rw [Try.params4] at hA hval
  obtain ⟨v0, vs0, d0, ds0, p0, q0, hargs, rfl, rfl, h0, r0⟩ := trodAll_cons hA
  obtain ⟨v1, vs1, d1, ds1, p1, q1, rfl, rfl, rfl, h1, r1⟩ := trodAll_cons r0
  obtain ⟨v2, vs2, d2, ds2, p2, q2, rfl, rfl, rfl, h2, r2⟩ := trodAll_cons r1
  obtain ⟨v3, vs3, d3, ds3, p3, q3, rfl, rfl, rfl, h3, r3⟩ := trodAll_cons r2
  obtain ⟨rfl, rfl, rfl⟩ := trodAll_nil r3
  obtain rfl : args = #[v0, v1, v2, v3] := by cases args; simp_all
  obtain ⟨rfl, rfl⟩ := trodVars_none hV
  have lt0 : ∀ x ∈ p0, x.block < W.heap.size := by obtain ⟨m, hm⟩ := h0; exact DataW.trod_lt m _ _ _ hm
  have k0 := h0
  have lt1 : ∀ x ∈ p1, x.block < W.heap.size := by obtain ⟨m, hm⟩ := h1; exact DataW.trod_lt m _ _ _ hm
  have k1 := h1
  have lt2 : ∀ x ∈ p2, x.block < W.heap.size := by obtain ⟨m, hm⟩ := h2; exact DataW.trod_lt m _ _ _ hm
  have k2 := h2
  have lt3 : ∀ x ∈ p3, x.block < W.heap.size := by obtain ⟨m, hm⟩ := h3; exact DataW.trod_lt m _ _ _ hm
  have k3 := h3
  obtain ⟨xr0, xc0, xb0, xp0, rfl, za0, zb0, zc0, zd0⟩ := open_vec (hval 0 31 v0 rfl rfl) h0
  obtain ⟨xr1, xc1, xb1, xp1, rfl, za1, zb1, zc1, zd1⟩ := open_vec (hval 1 31 v1 rfl rfl) h1
  obtain ⟨xr2, xc2, xb2, xp2, rfl, za2, zb2, zc2, zd2⟩ := open_vec (hval 2 31 v2 rfl rfl) h2
  obtain ⟨ad3, len3, cap3, l3, rfl, zl3, zr3⟩ := open_vecs (hval 3 32 v3 rfl rfl) h3
  clear hA0 hval0
  refine (walk xr0 xc0 xb0 xp0 xr1 xc1 xb1 xp1 xr2 xc2 xb2 xp2 ad3 len3 cap3 l3 W za0 zb0 zc0 zd0 za1 zb1 zc1 zd1 za2 zb2 zc2 zd2 zl3 zr3).mono fun e W' ⟨he, bel⟩ => ?_
  subst he
  exact ⟨_, rfl, _, _, _, [], _, [], hW', trodAll_mk1 (shut_bool Try.underlying4 _),
    (trodAll_cons_mk (Below.trod laidOut (by kernel_rfl) (of_decide_eq_true (by kernel_rfl)) k0 bel lt0) (trodAll_cons_mk (Below.trod laidOut (by kernel_rfl) (of_decide_eq_true (by kernel_rfl)) k1 bel lt1) (trodAll_cons_mk (Below.trod laidOut (by kernel_rfl) (of_decide_eq_true (by kernel_rfl)) k2 bel lt2) (trodAll_cons_mk (Below.trod laidOut (by kernel_rfl) (of_decide_eq_true (by kernel_rfl)) k3 bel lt3) trodAll_mk0)))), rfl, bel.frame _, fun h => by cases h⟩

theorem over : Rows.vectorOrderRow.holds Try.pinned (OpenSpec.ofChange Rows.vectorOrderSpec) :=
  OpenClaim.holds_of_wide 4 Try.f4 rfl rfl rfl rfl rfl rfl rfl ⟨rfl, rfl, rfl, rfl, rfl⟩ rfl rfl rfl rfl rfl (by kernel_rfl) Try.func4 (by kernel_rfl)
    (of_decide_eq_true (by kernel_rfl)) (by unfold Func.isWrapper; first | (rw [if_pos (by decide +kernel)]; kernel_rfl) | (rw [if_neg (by decide +kernel)]; exact ⟨rfl, rfl⟩))
    (fun os started H enc _ => lifted os started H enc)

/-- The statement. -/
theorem proved : Rows.VectorOrderSaid := over
#print axioms proved
end Go.Proofs.Ytiehocggdmadaaa.vectorOrder
