/-
  For every row of texts: a counter tells what Parse tells, and counts each, with an error or without (the statement FrameCounts, whole: no condition).
-/
import Derived.Test.YtbpgaeeihfknfaaFrK
import Derived.ProofKit
import Derived.OpenShut
import Derived.ShutString
import Derived.ChangeOld
import Derived.SliceStrings
namespace Go.Proofs.Ytbpgaeeihfknfaa.frameCounts
set_option linter.unusedVariables false
set_option linter.unusedSimpArgs false
open Go.ChangeShapes Go.WideShapes Go.ChangeAt Go.RowKit Fm

/-- What holds at the head of each round. -/
def CInv (w : World) (b len : Nat) (gd bd i : Value) (wr : World) : Prop :=
  ∃ k g d : Nat, k ≤ len ∧ i = .int .i64 k ∧ gd = .int .i64 g ∧ bd = .int .i64 d ∧ g ≤ k ∧ d ≤ k ∧ Ctr wr b g d ∧ Below w.heap.size w wr

/-- What the walk is told of a row of texts that came in. -/
def IsTexts (w : World) (a : Option Addr) (len : Nat) (ss : List ByteArray) : Prop :=
  len = 0 ∨ ∃ x off : Nat, a = some ⟨x, off, none⟩ ∧ x < w.heap.size ∧ len ≤ ss.length ∧ (∀ k, k < len → w.cell? ⟨x, off + k, none⟩ = some (.string (ss.getD k ByteArray.empty))) ∧ ∀ k, k < len → (ss.getD k ByteArray.empty).size ≤ maxLen

set_option maxHeartbeats 1000000 in
theorem walk_some (x off len cap : Nat) (ss : List ByteArray) (w : World) (hlen : len ≤ maxLen) (hx : x < w.heap.size) (hss : len ≤ ss.length)
    (hcell : ∀ k, k < len → w.cell? ⟨x, off + k, none⟩ = some (.string (ss.getD k ByteArray.empty))) (hsz : ∀ k, k < len → (ss.getD k ByteArray.empty).size ≤ maxLen) :
    Calls Try.prog 5 #[.slice (some ⟨x, off, none⟩) len cap] w fun e w' => e = .returned (.bool true) ∧ Below w.heap.size w w' := by
  unfold maxLen at hlen
  have Hc := Lib.hid hcell; clear hcell
  have Hz := Lib.hid hsz; clear hsz
  go_enter Try.func5, Try.ntmps5
  go_wp2_with fail
  refine (awake_any _).mono ?_
  rintro e w1 ⟨rfl, B1⟩
  by_cases h100 : 100 < len
  · go_wp2
    go_ret
    exact ⟨rfl, B1⟩
  have h17 : decide ((100 : Int) < (len : Int)) = false := by simp; omega
  go_wp2_with fail
  refine (new_c _).mono ?_
  rintro e w2 ⟨b, rfl, hzb, K2, hb2⟩
  have B2 := bw_trans B1 hb2
  have zb : w.heap.size ≤ b := Nat.le_trans B1.size hzb
  clear hb2 hzb B1
  go_wp2_with fail
  clear h17
  go_loopw [4, 5, 6] (fun gd bd i wr => CInv w b len gd bd i wr) (fun _ _ i _ => len - (intOf i).toNat)
  case atStart => exact ⟨0, 0, 0, Nat.zero_le _, rfl, rfl, rfl, Nat.le_refl _, Nat.le_refl _, K2, B2⟩
  case round =>
    obtain ⟨k, g, d, hk, rfl, rfl, rfl, hgk, hdk, K3, B3⟩ := hrel
    by_cases hlt : k < len
    · obtain ⟨s, hs⟩ : ∃ s, s = ss.getD k ByteArray.empty := ⟨_, rfl⟩
      have hc : wr.cell? ⟨x, off + k, none⟩ = some (.string s) := by rw [hs]; exact (B3.cell (p := ⟨x, off + k, none⟩) hx).trans (Hc.out k hlt)
      have hm : s.size ≤ maxLen := by rw [hs]; exact Hz.out k hlt
      clear hs
      by_cases hbig : 1700 < s.size
      · unfold maxLen at hm
        go_wp2
        go_ret
        exact ⟨rfl, B3⟩
      obtain ⟨r, hr⟩ : ∃ r, parseR s = r := ⟨_, rfl⟩
      obtain ⟨⟨fd, fs, ft, fp, fvl, fty, fpl⟩, E⟩ := r
      have HP := Lib.hid hr; clear hr
      have hm' : s.size ≤ maxLen := hm
      unfold maxLen at hm'
      go_wp2_with fail
      refine (cparse_is b g d s _ fd fs ft fp fvl fty fpl E HP (by omega) (by omega) (by omega) (by omega) K3 hm).mono ?_
      rintro e w4 ⟨rfl, K4, hb4⟩
      have B4 := B3.trans (hb4.mono zb)
      have hc4 : w4.cell? ⟨x, off + k, none⟩ = some (.string s) := (hb4.cell (p := ⟨x, off + k, none⟩) (Nat.lt_of_lt_of_le hx zb)).trans hc
      clear hb4 K3 hc
      have hxz : x < w4.heap.size := Nat.lt_of_lt_of_le hx B4.size
      by_cases hE : E = 0
      · subst hE
        rw [if_pos rfl, if_pos rfl] at K4
        go_wp2_with fail
        refine (parse_is _ _ _ _ HP hm).mono ?_
        rintro e w5 ⟨rfl, hb5⟩
        have N5 := (blk_new w4 fd fs ft fp fvl fty fpl).below hb5 (by simp)
        have K5 := (K4.below (below_box w4 _) K4.lt).below hb5 (Nat.lt_of_lt_of_le K4.lt (by simp))
        have B5 := bw_trans (bw_alloc B4 _) hb5
        clear hb5 K4 B4 hc4
        have N6 := N5.below (below_box w5 (.cells #[.string fd, .string fs, .bool ft, .int .i64 fp, .int .i64 fvl, .int .i64 fty, .string fpl] 23)) N5.lt
        have M6 := blk_new w5 fd fs ft fp fvl fty fpl
        have K6 := K5.below (below_box w5 (.cells #[.string fd, .string fs, .bool ft, .int .i64 fp, .int .i64 fvl, .int .i64 fty, .string fpl] 23)) K5.lt
        have B6 := bw_alloc B5 (.cells #[.string fd, .string fs, .bool ft, .int .i64 fp, .int .i64 fvl, .int .i64 fty, .string fpl] 23)
        clear N5 K5 B5
        go_wp2_with fail
        refine (count_b b _ _ _ K6).mono ?_
        rintro e w7 ⟨rfl, hb7⟩
        have N7 := N6.below hb7 N6.lt
        have M7 := M6.below hb7 M6.lt
        have K7 := K6.below hb7 K6.lt
        have B7 := bw_trans B6 hb7
        clear hb7 N6 M6 K6 B6
        have y := N7.cells
        obtain ⟨c0, c1, c2, c3, c4, c5, c6⟩ := y
        have y := M7.cells
        obtain ⟨q0, q1, q2, q3, q4, q5, q6⟩ := y
        go_wp2
        go_roundw
        case rel => exact ⟨k + 1, g + 1, d, by omega, by go_num, by go_num, by go_num, by omega, by omega, by simpa using K7, B7⟩
        case measure => simp [intOf]; omega
      · have he0 : (E == 0) = false := beq_eq_false_iff_ne.2 hE
        rw [if_neg hE, if_neg hE] at K4
        clear hE
        go_wp2_with fail
        refine (parse_is _ _ _ _ HP hm).mono ?_
        rintro e w5 ⟨rfl, hb5⟩
        have N5 := (blk_new w4 fd fs ft fp fvl fty fpl).below hb5 (by simp)
        have K5 := (K4.below (below_box w4 _) K4.lt).below hb5 (Nat.lt_of_lt_of_le K4.lt (by simp))
        have B5 := bw_trans (bw_alloc B4 _) hb5
        clear hb5 K4 B4 hc4
        have N6 := N5.below (below_box w5 (.cells #[.string fd, .string fs, .bool ft, .int .i64 fp, .int .i64 fvl, .int .i64 fty, .string fpl] 23)) N5.lt
        have M6 := blk_new w5 fd fs ft fp fvl fty fpl
        have K6 := K5.below (below_box w5 (.cells #[.string fd, .string fs, .bool ft, .int .i64 fp, .int .i64 fvl, .int .i64 fty, .string fpl] 23)) K5.lt
        have B6 := bw_alloc B5 (.cells #[.string fd, .string fs, .bool ft, .int .i64 fp, .int .i64 fvl, .int .i64 fty, .string fpl] 23)
        clear N5 K5 B5
        go_wp2_with fail
        refine (count_b b _ _ _ K6).mono ?_
        rintro e w7 ⟨rfl, hb7⟩
        have N7 := N6.below hb7 N6.lt
        have M7 := M6.below hb7 M6.lt
        have K7 := K6.below hb7 K6.lt
        have B7 := bw_trans B6 hb7
        clear hb7 N6 M6 K6 B6
        have y := N7.cells
        obtain ⟨c0, c1, c2, c3, c4, c5, c6⟩ := y
        have y := M7.cells
        obtain ⟨q0, q1, q2, q3, q4, q5, q6⟩ := y
        go_wp2
        go_roundw
        case rel => exact ⟨k + 1, g, d + 1, by omega, by go_num, by go_num, by go_num, by omega, by omega, by simpa using K7, B7⟩
        case measure => simp [intOf]; omega
    · go_wp2
      go_ret
      exact ⟨rfl, B3⟩

set_option maxHeartbeats 400000 in
theorem walk_none (a : Option Addr) (cap : Nat) (w : World) :
    Calls Try.prog 5 #[.slice a 0 cap] w fun e w' => e = .returned (.bool true) ∧ Below w.heap.size w w' := by
  go_enter Try.func5, Try.ntmps5
  go_wp2_with fail
  refine (awake_any _).mono ?_
  rintro e w1 ⟨rfl, B1⟩
  go_wp2_with fail
  refine (new_c _).mono ?_
  rintro e w2 ⟨b, rfl, hzb, K2, hb2⟩
  have B2 := bw_trans B1 hb2
  clear hb2 hzb B1
  go_wp2_with fail
  refine wp_loop_rounds 1 ?_
  rw [rounds_succ]
  go_wp2
  go_ret
  exact ⟨rfl, B2⟩

theorem walk (a : Option Addr) (len cap : Nat) (ss : List ByteArray) (w : World) (hlen : len ≤ maxLen) (h : IsTexts w a len ss) :
    Calls Try.prog 5 #[.slice a len cap] w fun e w' => e = .returned (.bool true) ∧ Below w.heap.size w w' := by
  rcases h with rfl | ⟨x, off, rfl, hx, hl, hc, hz⟩
  · exact walk_none a cap w
  · exact walk_some x off len cap ss w hlen hx hl hc hz

theorem own : ownKnob Try.prog.godebug = none := by kernel_rfl
theorem laidOut : laidOutB Try.prog = true := by kernel_rfl

set_option maxRecDepth 100000 in
theorem lifted (os : Os) (started : os.Started) (H : Type) (enc : TypeId × Value → H) :
    ReturnsInHanded {} Try.checked os 5 .any (Rows.frameCountsSpec.pre6 enc Try.prog Try.f5 Rows.frameCountsRow.domain false) (Rows.frameCountsSpec.post enc Try.prog Try.f5 false true false false) := by
  refine returnsInHanded_of_change (C := Try.checked) own started (by kernel_rfl) Try.func5
    (ChangeSpec.witness6 (enc := enc) (C := Try.checked) false ⟨#[], #[.slice none 0 0], []⟩ 8 (by kernel_rfl) (by kernel_rfl) (by kernel_rfl) (by kernel_rfl)) ?_
  intro W base args ds gs before hval0 hW hcnd _
  have hval : ∀ (j : Nat) t v, Try.f5.params[j]? = some t → args[j]? = some v → Value.okWide Try.prog W .any base t v := hval0
  have hW' := hW
  obtain ⟨p, q, hA0, hV, rfl, hfz, hnd⟩ := hW
  have hA : DataW.TrodAll enc Try.prog W 0 (fun _ => true) true Try.f5.params.toList args.toList ds p := hA0
  rw [Try.params5] at hA hval
  obtain ⟨v0, vs0, d0, ds0, p0, q0, hargs, rfl, rfl, h0, r0⟩ := trodAll_cons hA
  obtain ⟨rfl, rfl, rfl⟩ := trodAll_nil r0
  obtain rfl : args = #[v0] := by cases args; simp_all
  obtain ⟨rfl, rfl⟩ := trodVars_none hV
  obtain ⟨a0, len0, cap0, rfl⟩ := okWide_slice Try.underlying40 (hval 0 40 v0 rfl rfl)
  have k0 := h0
  have lt0 : ∀ x ∈ p0, x.block < W.heap.size := by obtain ⟨m, hm⟩ := k0; exact DataW.trod_lt m _ _ _ hm
  obtain ⟨ss, hlen, hT⟩ : ∃ ss, len0 ≤ maxLen ∧ IsTexts W a0 len0 ss := by
    obtain ⟨fuel, hf⟩ := h0
    rcases open_strings Try.underlying40 Try.underlying9 (by kernel_rfl) hf with ⟨hcs, _⟩ | ⟨x, l, c, ss, hcs, _, hl, hm, hz, _, hcell, hsz⟩
    · simp [Value.cells] at hcs
      obtain ⟨rfl, rfl, rfl⟩ := hcs
      exact ⟨[], Nat.zero_le _, .inl rfl⟩
    · simp [Value.cells] at hcs
      obtain ⟨rfl, rfl, rfl⟩ := hcs
      refine ⟨ss, Nat.le_trans hl hm, ?_⟩
      by_cases hz0 : len0 = 0
      · exact .inl hz0
      have hzl : ss.length = cap0 := by simpa using hz
      obtain ⟨b, off, spot⟩ := x
      have hc := hcell 0 (by omega)
      have hspot : spot = none := by simpa [Addr.add] using World.cell?_spot hc
      subst hspot
      have hin : ∀ k, k < len0 → ss.getD k ByteArray.empty ∈ ss := fun k hk => by
        have hkl : k < ss.length := by omega
        rw [List.getD_eq_getElem?_getD, List.getElem?_eq_getElem hkl]
        exact List.getElem_mem hkl
      refine .inr ⟨b, off, rfl, World.block_lt_of_cell? _ _ hc, by omega, fun k hk => ?_, fun k hk => hsz _ (hin k hk)⟩
      have hck := hcell k (by omega)
      rw [Addr.add_lit] at hck
      exact hck
  clear hA0 hval0
  refine (walk a0 len0 cap0 ss W hlen hT).mono fun e W' ⟨he, bel⟩ => ?_
  subst he
  exact ⟨_, rfl, _, _, _, [], _, [], hW', trodAll_mk1 (shut_bool Try.underlying4 _), (trodAll_cons_mk (Below.trod laidOut (by kernel_rfl) (of_decide_eq_true (by kernel_rfl)) k0 bel lt0) trodAll_mk0), rfl, bel.frame _, fun h => by cases h⟩

theorem over : Rows.frameCountsRow.holds Try.pinned (OpenSpec.ofChange Rows.frameCountsSpec) :=
  OpenClaim.holds_of_wide 5 Try.f5 rfl rfl rfl rfl rfl rfl rfl ⟨rfl, rfl, rfl, rfl, rfl⟩ rfl rfl rfl rfl rfl (by kernel_rfl) Try.func5 (by kernel_rfl)
    (of_decide_eq_true (by kernel_rfl)) (by unfold Func.isWrapper; first | (rw [if_pos (by decide +kernel)]; kernel_rfl) | (rw [if_neg (by decide +kernel)]; exact ⟨rfl, rfl⟩))
    (fun os started H enc _ => lifted os started H enc)

/-- The statement. -/
theorem proved : Rows.FrameCountsSaid := over
#print axioms proved
end Go.Proofs.Ytbpgaeeihfknfaa.frameCounts
