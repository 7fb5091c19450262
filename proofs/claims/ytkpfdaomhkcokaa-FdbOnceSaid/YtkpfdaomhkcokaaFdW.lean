/-
  FdbOnce: the walk.
-/
import Derived.Test.YtkpfdaomhkcokaaFdY
namespace Go.Proofs.Ytkpfdaomhkcokaa
set_option linter.unusedVariables false
set_option linter.unusedSimpArgs false
open Go.RowKit Go.Maps Dm

/-- Behind some acts. -/
structure OTab (tb mb R j : Nat) (X : Tb) (wr : World) : Prop where
  x : IsTab wr tb mb R X
  n : X.learned ≤ j

set_option maxRecDepth 20000 in
set_option maxHeartbeats 16000000 in
theorem once_any (room : Int) (a : Option Addr) (cap : Nat) (l : List Ac) (w : World) (h : ARow w a l) :
    Calls Try.prog 4 #[.int .i64 room, .slice a l.length cap] w fun e w' => e = .returned (.bool true) ∧ Below w.heap.size w w' := by
  have hAW := awake_w w
  have hF := fun w1 (hb : Below w.heap.size w w1) => few_w a cap l w1 (h.next hb)
  obtain ⟨n, hn⟩ : ∃ n, l.length = n := ⟨_, rfl⟩
  have HN := Lib.hid hn
  have HA := Lib.hid h
  obtain ⟨F, hFW⟩ : ∃ F, fewB l = F := ⟨_, rfl⟩
  rw [hFW, hn] at hF
  rw [hn]
  have HF := Lib.hid hF
  have HAW := Lib.hid hAW
  have HFW := Lib.hid hFW
  clear hn h hF hAW hFW
  cases F
  · skip
    go_enter Try.func4, Try.ntmps4
    go_wp2_with (first
      | (go_at_call 6; (with_reducible refine HAW.out.mono ?_); rintro e w1 ⟨rfl, hb1⟩; have B1 := Lib.hid hb1; clear hb1)
      | (go_at_call 7; (with_reducible refine (HF.out w1 B1.out).mono ?_); rintro e w2 ⟨rfl, rfl⟩))
    go_ret
    exact ⟨rfl, B1.out⟩
  by_cases r1 : room < 1
  · skip
    go_enter Try.func4, Try.ntmps4
    go_wp2_with (first
      | (go_at_call 6; (with_reducible refine HAW.out.mono ?_); rintro e w1 ⟨rfl, hb1⟩; have B1 := Lib.hid hb1; clear hb1)
      | (go_at_call 7; (with_reducible refine (HF.out w1 B1.out).mono ?_); rintro e w2 ⟨rfl, rfl⟩))
    go_ret
    exact ⟨rfl, B1.out⟩
  by_cases r2 : 64 < room
  · skip
    go_enter Try.func4, Try.ntmps4
    go_wp2_with (first
      | (go_at_call 6; (with_reducible refine HAW.out.mono ?_); rintro e w1 ⟨rfl, hb1⟩; have B1 := Lib.hid hb1; clear hb1)
      | (go_at_call 7; (with_reducible refine (HF.out w1 B1.out).mono ?_); rintro e w2 ⟨rfl, rfl⟩))
    go_ret
    exact ⟨rfl, B1.out⟩
  have HM : Hid (∀ x ∈ l, x.mac.size ≤ 20) := Lib.hid (few_each HFW.out)
  have hn150 : n ≤ 150 := by have := few_len HFW.out; have := HN.out; omega
  obtain ⟨R, rfl⟩ := Int.eq_ofNat_of_zero_le (show 0 ≤ room by omega)
  have hR1 : 1 ≤ R := by omega
  have hR2 : R ≤ 64 := by omega
  have hR1' : (1 : Int) ≤ R := by omega
  have hR2' : (R : Int) ≤ 64 := by omega
  go_enter Try.func4, Try.ntmps4
  go_wp2_with (first
    | (go_at_call 6; (with_reducible refine HAW.out.mono ?_); rintro e w1 ⟨rfl, hb1⟩; have B1 := Lib.hid hb1; clear hb1)
    | (go_at_call 7; (with_reducible refine (HF.out w1 B1.out).mono ?_); rintro e w2 ⟨rfl, rfl⟩)
    | (go_at_call 8; (with_reducible refine (new_w R w1 ⟨hR1, hR2⟩).mono ?_); rintro e w3 ⟨tb, mb, rfl, t3, g1, g2, hb3⟩; have T3 := Lib.hid t3; have G := Lib.hid (And.intro g1 g2); have B3 := Lib.hid (B1.out.trans (hb3.mono B1.out.size)); clear t3 g1 g2 hb3))
  have GG : Hid (w.heap.size ≤ tb ∧ w.heap.size ≤ mb) := Lib.hid ⟨Nat.le_trans B1.out.size G.out.1, Nat.le_trans B1.out.size G.out.2⟩
  go_loopw [7] (fun i wr => ∃ j : Nat, j ≤ n ∧ ∃ X, i = .int .i64 (j : Nat) ∧ OTab tb mb R j X wr ∧ Below w.heap.size w wr) (fun i _ => n - (intOf i).toNat)
  case atStart => exact ⟨0, Nat.zero_le _, ⟨[], 0⟩, rfl, ⟨T3.out, Int.le_refl _⟩, B3.out⟩
  case round =>
    obtain ⟨j, hj, X, rfl, hV, hB⟩ := hrel
    have V := Lib.hid hV
    have B := Lib.hid hB
    clear hV hB
    by_cases hjn : j < n
    · obtain ⟨⟨k, v, m, p, q, r⟩, hx⟩ := at_some (l := l) (k := j) (by rw [HN.out]; exact hjn)
      have hm : m.size ≤ 20 := HM.out _ (List.mem_of_getElem? hx)
      have HR := Lib.hid (HA.out.rng _ (List.mem_of_getElem? hx))
      obtain ⟨g, o, rfl, hgl, hq⟩ := HA.out.at_ j _ hx
      obtain ⟨q0, q1, q2, q3, q4, q5⟩ := hq.below B.out hgl
      simp only at q0 q1 q2 q3 q4 q5
      clear hx hq
      obtain ⟨X', hX'⟩ : ∃ X', (Dm.stepT R X ⟨k, v, m, p, q, r⟩).1 = X' := ⟨_, rfl⟩
      obtain ⟨L, hL⟩ : ∃ L, X.l.length = L := ⟨_, rfl⟩
      obtain ⟨M, hM⟩ : ∃ M, X'.l.length = M := ⟨_, rfl⟩
      have HX' := Lib.hid hX'
      have HL := Lib.hid hL
      have HMM := Lib.hid hM
      have hLR : (L : Int) ≤ R := by have := V.out.x.ok.room; omega
      have hok' : X'.ok R := by rw [← hX']; exact step_ok V.out.x.ok _
      have hMR : (M : Int) ≤ R := by have := hok'.room; omega
      have OK' := Lib.hid hok'
      have hstep := step_learned R X ⟨k, v, m, p, q, r⟩
      rw [hX'] at hstep
      have HS := Lib.hid hstep
      clear hX' hL hM hok' hstep
      obtain ⟨W, hW⟩ : ∃ W, W = wr.alloc (.cells #[.int .i64 k, .int .i64 v, .string m, .int .i64 p, .int .i64 q, .int .i64 r] 35) := ⟨_, rfl⟩
      have kW : ABlk W wr.heap.size ⟨k, v, m, p, q, r⟩ := by rw [hW]; exact ablk_new wr ⟨k, v, m, p, q, r⟩
      have hWB : Below wr.heap.size wr W := by rw [hW]; exact below_box _ _
      obtain ⟨b, hb⟩ : ∃ b, b = wr.heap.size := ⟨_, rfl⟩
      have htb : b ≠ tb := by have := V.out.x.blk.lt; omega
      have hmb : b ≠ mb := by have := V.out.x.map.lt; omega
      rw [← hb] at kW
      have A1 := Lib.hid kW
      have T1 := Lib.hid (V.out.x.next hWB)
      have BW := Lib.hid (B.out.trans (hWB.mono B.out.size))
      clear hWB kW
      go_wp2_with fail
      rw [← hW, ← hb]
      clear hW hb q0 q1 q2 q3 q4 q5
      go_wp2_with (first
        | (go_at_call 10; (with_reducible refine (list_n tb mb R X L W T1.out HL.out).mono ?_); rintro e w4 ⟨a4, cap4, rfl, c4, r4, b4⟩; have R4 := Lib.hid r4; have T4 := Lib.hid (T1.out.next b4); have A4 := Lib.hid (A1.out.next b4); have B4 := Lib.hid (BW.out.trans (b4.mono BW.out.size)); clear r4 b4; obtain ⟨y0, y1, y2, y3, y4, y5⟩ := A4.out.cells)
        | (go_at_call 9; (with_reducible refine (does_x tb mb R X X' k v m p q r w4 T4.out (by have := V.out.n; omega) hm HR.out.1 HR.out.2 HX'.out).mono ?_); rintro e w5 ⟨u5, rfl, t5, k5⟩; have T5 := Lib.hid t5; have R5 := Lib.hid (R4.out.tab T4.out k5); have A5 := Lib.hid (A4.out.kept2 k5 htb hmb); have B5 := Lib.hid (k5.under B4.out GG.out.1 GG.out.2); clear t5 k5)
        | (go_at_call 10; (with_reducible refine (list_n tb mb R X' M w5 T5.out HMM.out).mono ?_); rintro e w6 ⟨a6, cap6, rfl, c6, r6, b6⟩; have R6 := Lib.hid r6; have T6 := Lib.hid (T5.out.next b6); have A6 := Lib.hid (A5.out.next b6); have Q6 := Lib.hid (R5.out.next b6); have B6 := Lib.hid (B5.out.trans (b6.mono B5.out.size)); clear r6 b6 y0 y1 y2 y3 y4 y5))
      go_loopw [11] (fun i wr => ∃ e : Nat, e ≤ M ∧ i = .int .i64 (e : Nat) ∧ Grown w6 wr) (fun i _ => M - (intOf i).toNat)
      case atStart => exact ⟨0, Nat.zero_le _, rfl, Grown.refl _⟩
      case round =>
        obtain ⟨e, he, rfl, hGr⟩ := hrel
        have HE2 := Lib.hid hGr
        clear hGr
        by_cases heM : e < M
        · obtain ⟨⟨xv, xm, xp, xh, xf⟩, hx⟩ := at_some (l := X'.l) (k := e) (by rw [HMM.out]; exact heM)
          have hxok := OK'.out.each _ (List.mem_of_getElem? hx)
          have hx6 : (xm.size : Int) = 6 := by have := hxok.mac; simp only at this; omega
          have hp0 : decide (xp < 0) = false := decide_eq_false (by have := hxok.p0; simp only at this; omega)
          have hp1 : decide (15 < xp) = false := decide_eq_false (by have := hxok.p1; simp only at this; omega)
          have HX := Lib.hid hx
          clear hx hxok
          obtain ⟨g6, o6, rfl, hgl6, q0, q1, q2, q3, q4⟩ := (R6.out.next HE2.out.below).at_ e _ HX.out
          simp only at q0 q1 q2 q3 q4
          have heM' : (e : Int) < (M : Int) := by omega
          by_cases e0 : e = 0
          · as_aux_lemma =>
              subst e0
              have hd0 : decide ((0 : Int) < ((0 : Nat) : Int)) = false := by decide
              go_wp2_with fail
              simp only [List.append]
              go_quiet (fail)
              go_wp2
              exact ⟨⟨1, by omega, rfl, HE2.out.drewN _⟩, by simp [intOf]; omega⟩
          · obtain ⟨f, hf⟩ : ∃ f : Nat, f + 1 = e := ⟨e - 1, by omega⟩
            obtain ⟨⟨yv, ym, yp, yh, yf⟩, hy⟩ := at_some (l := X'.l) (k := f) (by rw [HMM.out]; omega)
            obtain ⟨g7, o7, hgo, hgl7, p0, p1, p2, p3, p4⟩ := (R6.out.next HE2.out.below).at_ f _ hy
            cases hgo
            simp only at p0 p1 p2 p3 p4
            have hlt := sorted_next OK'.out.sorted hy (by rw [hf]; exact HX.out)
            have he0 : 0 < e := by omega
            have he0' : (0 : Int) < (e : Int) := by omega
            have hd0 : decide ((0 : Int) < (e : Int)) = true := decide_eq_true (by omega)
            have hd0' : decide (0 < e) = true := decide_eq_true he0
            have hfe : (e : Int) - 1 = (f : Int) := by omega
            have hfM : (f : Int) < (M : Int) := by omega
            have hwr : IntKind.i64.wrap ((e : Int) - 1) = (f : Int) := by have := OK'.out.room; have := HMM.out; have := T6.out.room64; rw [IntKind.wrap_i64]; omega
            have hwf : IntKind.i64.wrap (f : Int) = (f : Int) := by have := OK'.out.room; have := HMM.out; have := T6.out.room64; rw [IntKind.wrap_i64]; omega
            clear hy hf e0
            by_cases hvv : yv < xv
            · as_aux_lemma =>
                have hd1 : decide (xv < yv) = false := decide_eq_false (by omega)
                have hd2 : (yv == xv) = false := beq_eq_false_iff_ne.2 (by omega)
                clear hlt hvv
                go_wp2_with fail
                simp only [List.append]
                go_quiet (fail)
                go_wp2
                exact ⟨⟨e + 1, by omega, by go_num, HE2.out.drewN _⟩, by simp [intOf]; omega⟩
            · as_aux_lemma =>
                obtain ⟨rfl, hmm⟩ : yv = xv ∧ ym.toList < xm.toList := by
                  rcases hlt with h | h
                  · exact absurd h hvv
                  · exact h
                have hbl : Op.bytesLess ym.toList xm.toList = true := by rw [bytesLess_eq]; exact decide_eq_true hmm
                clear hlt hmm hvv
                go_wp2_with fail
                simp only [List.append]
                go_quiet (fail)
                go_wp2
                exact ⟨⟨e + 1, by omega, by go_num, HE2.out.drewN _⟩, by simp [intOf]; omega⟩
        · obtain rfl : e = M := by omega
          go_wp2_with fail
          go_loopw [12, 13] (fun c i wr => ∃ d : Nat, d ≤ L ∧ ∃ C : Nat, c = .int .i64 (C : Nat) ∧ i = .int .i64 (d : Nat) ∧ C ≤ d ∧ Hid (C = 0 → ∀ f x, f < d → X.l[f]? = some x → x.fixed = false) ∧ Grown w6 wr) (fun _ i _ => L - (intOf i).toNat)
          case atStart => exact ⟨0, Nat.zero_le _, 0, rfl, rfl, Nat.le_refl _, Lib.hid (fun _ f x h => by omega), HE2.out⟩
          case round =>
            obtain ⟨d, hd, C, rfl, rfl, hCd, HC, hGr⟩ := hrel
            have HG := Lib.hid hGr
            clear hGr
            obtain ⟨y0, y1, y2, y3, y4, y5⟩ := (A6.out.next HG.out.below).cells
            by_cases hdL : d < L
            · obtain ⟨⟨xv, xm, xp, xh, xf⟩, hx⟩ := at_some (l := X.l) (k := d) (by rw [HL.out]; exact hdL)
              have HX := Lib.hid hx
              clear hx
              obtain ⟨g6, o6, rfl, hgl6, q0, q1, q2, q3, q4⟩ := (Q6.out.next HG.out.below).at_ d _ HX.out
              simp only at q0 q1 q2 q3 q4
              cases xf with
              | false =>
                go_wp2
                refine ⟨⟨d + 1, by omega, C, rfl, by go_num, by omega, Lib.hid (fun h0 f x hf hx => ?_), HG.out⟩, by simp [intOf]; omega⟩
                by_cases e : f = d
                · subst e
                  rw [HX.out] at hx
                  cases hx
                  rfl
                · exact HC.out h0 f x (by omega) hx
              | true =>
                have hxm := List.mem_of_getElem? HX.out
                have hky : KyOk ⟨xv, xm⟩ := ky_en (V.out.x.ok.each _ hxm)
                have S0 : (wr.cell? ⟨g6, o6 + d * 5, none⟩ = some (.int .i64 xv) ∧ wr.cell? ⟨g6, o6 + d * 5 + 1, none⟩ = some (.string xm)) := ⟨q0, q1⟩
                obtain ⟨P, E, hPE⟩ : ∃ P E, findR X'.l ⟨xv, xm⟩ = (P, E) := ⟨_, _, rfl⟩
                have hfix : Hid (¬ k = 1 → ¬ k = 2 → P = xp ∧ E = true) := Lib.hid (fun k1 k2 => by
                  have hst := fixed_stays V.out.x.ok ⟨k, v, m, p, q, r⟩ k1 k2 hxm rfl
                  rw [HX'.out] at hst
                  have hfr := find_at hst
                  rw [show En.key ⟨xv, xm, xp, xh, true⟩ = (⟨xv, xm⟩ : Ky) from rfl, hPE] at hfr
                  cases hfr
                  exact ⟨rfl, rfl⟩)
                have HF3 := Lib.hid (fun w' (hb : Below wr.heap.size wr w') => find_x tb mb R X' xv xm P E w' ((T6.out.next HG.out.below).next hb) hky hPE)
                have HQ := Lib.hid (And.intro q0 (And.intro q1 q2))
                have HB := Lib.hid hgl6
                clear hxm hPE hky
                go_wp2_with fail
                go_cut [14, 15] (fun u14 u15 wx => u14 = .int .i64 P ∧ u15 = .bool E ∧ Grown wr wx)
                case first =>
                  clear y0 y1 y2 y3 y4 y5
                  go_region_held3 (fun w' => (w'.cell? ⟨g6, o6 + d * 5, none⟩ = some (.int .i64 xv) ∧ w'.cell? ⟨g6, o6 + d * 5 + 1, none⟩ = some (.string xm))) (first | exact S0 | exact T0) (first | (go_at_call 12; (with_reducible refine (HF3.out _ (Below.refl _ _).drew).mono ?_); rintro e y ⟨rfl, g0⟩; have G0 := ((Grown.refl wr).drew).trans g0; have T0 : (y.cell? ⟨g6, o6 + d * 5, none⟩ = some (.int .i64 xv) ∧ y.cell? ⟨g6, o6 + d * 5 + 1, none⟩ = some (.string xm)) := ⟨(G0.below.cell (p := ⟨g6, o6 + d * 5, none⟩) HB.out).trans q0, (G0.below.cell (p := ⟨g6, o6 + d * 5 + 1, none⟩) HB.out).trans q1⟩))
                  all_goals (go_wp2_with fail)
                  all_goals go_meet
                  all_goals exact ⟨rfl, rfl, G0⟩
                case rest =>
                  obtain ⟨rfl, rfl, G0⟩ := hcut
                  have HG0 := Lib.hid G0
                  clear G0 q0 q1 q2 q3 q4 y0 y1 y2 y3 y4 y5 S0
                  have p2 := (HG0.out.below.cell (p := ⟨g6, o6 + d * 5 + 2, none⟩) HB.out).trans HQ.out.2.2
                  obtain ⟨z0, z1, z2, z3, z4, z5⟩ := (A6.out.next (HG.out.trans HG0.out).below).cells
                  by_cases k1 : k = 1
                  · as_aux_lemma =>
                      have b1 : (k == 1) = true := beq_iff_eq.2 k1
                      have b2 : (k != 1) = false := by rw [bne, b1]; rfl
                      clear k1
                      go_wp2_with fail
                      first
                        | exact ⟨⟨d + 1, by omega, C + 1, by go_num, by go_num, by omega, Lib.hid (fun h => by omega), HG.out.trans HG0.out⟩, by simp [intOf]; omega⟩
                        | (refine ⟨⟨_, _, _, ⟨d + 1, by omega, C + 1, ?_, ?_, by omega, Lib.hid (fun h => by omega), HG.out.trans HG0.out⟩, rfl, rfl, rfl⟩, by simp [intOf]; omega⟩ <;> go_num)
                  · have b1 : (k == 1) = false := beq_eq_false_iff_ne.2 k1
                    have b2 : (k != 1) = true := by rw [bne, b1]; rfl
                    by_cases k2 : k = 2
                    · as_aux_lemma =>
                        have c1 : (k == 2) = true := beq_iff_eq.2 k2
                        have c2 : (k != 2) = false := by rw [bne, c1]; rfl
                        clear k1 k2
                        go_wp2_with fail
                        first
                          | exact ⟨⟨d + 1, by omega, C + 1, by go_num, by go_num, by omega, Lib.hid (fun h => by omega), HG.out.trans HG0.out⟩, by simp [intOf]; omega⟩
                          | (refine ⟨⟨_, _, _, ⟨d + 1, by omega, C + 1, ?_, ?_, by omega, Lib.hid (fun h => by omega), HG.out.trans HG0.out⟩, rfl, rfl, rfl⟩, by simp [intOf]; omega⟩ <;> go_num)
                    · as_aux_lemma =>
                        have c1 : (k == 2) = false := beq_eq_false_iff_ne.2 k2
                        have c2 : (k != 2) = true := by rw [bne, c1]; rfl
                        obtain ⟨rfl, rfl⟩ := hfix.out k1 k2
                        clear k1 k2
                        go_wp2_with fail
                        first
                          | exact ⟨⟨d + 1, by omega, C + 1, by go_num, by go_num, by omega, Lib.hid (fun h => by omega), HG.out.trans HG0.out⟩, by simp [intOf]; omega⟩
                          | (refine ⟨⟨_, _, _, ⟨d + 1, by omega, C + 1, ?_, ?_, by omega, Lib.hid (fun h => by omega), HG.out.trans HG0.out⟩, rfl, rfl, rfl⟩, by simp [intOf]; omega⟩ <;> go_num)
            · obtain rfl : d = L := by omega
              have HU : Hid (C = 0 → ∀ x ∈ X.l, x.fixed = false) := Lib.hid (fun h0 x hx => by
                obtain ⟨i, hi⟩ := List.getElem?_of_mem hx
                exact HC.out h0 i x (by rw [← HL.out]; exact (List.getElem?_eq_some_iff.1 hi).1) hi)
              by_cases c1 : k = 0
              rotate_left
              · as_aux_lemma =>
                  go_wp2
                  exact ⟨⟨j + 1, by omega, X', by go_num, ⟨T6.out.next HG.out.below, by have := V.out.n; have := HS.out; omega⟩, B6.out.trans (HG.out.below.mono B6.out.size)⟩, by simp [intOf]; omega⟩
              subst c1
              by_cases c2 : m.size = 6
              rotate_left
              · as_aux_lemma =>
                  have c2' : ¬ (m.size : Int) = 6 := by omega
                  go_wp2
                  exact ⟨⟨j + 1, by omega, X', by go_num, ⟨T6.out.next HG.out.below, by have := V.out.n; have := HS.out; omega⟩, B6.out.trans (HG.out.below.mono B6.out.size)⟩, by simp [intOf]; omega⟩
              have h0 : 0 < m.size := by omega
              have h0' : (0 : Int) < m.size := by omega
              have c2' : (m.size : Int) = 6 := by omega
              by_cases c3 : (m[0]'h0).toNat % 2 = 0
              rotate_left
              · as_aux_lemma =>
                  have c3' : ((m[0].toNat : Int) % 2 == 0) = false := beq_eq_false_iff_ne.2 (by omega)
                  go_wp2
                  exact ⟨⟨j + 1, by omega, X', by go_num, ⟨T6.out.next HG.out.below, by have := V.out.n; have := HS.out; omega⟩, B6.out.trans (HG.out.below.mono B6.out.size)⟩, by simp [intOf]; omega⟩
              have c3' : ((m[0].toNat : Int) % 2 == 0) = true := beq_iff_eq.2 (by omega)
              by_cases c4 : 1 ≤ v
              rotate_left
              · as_aux_lemma =>
                  go_wp2
                  exact ⟨⟨j + 1, by omega, X', by go_num, ⟨T6.out.next HG.out.below, by have := V.out.n; have := HS.out; omega⟩, B6.out.trans (HG.out.below.mono B6.out.size)⟩, by simp [intOf]; omega⟩
              by_cases c5 : v ≤ 4094
              rotate_left
              · as_aux_lemma =>
                  go_wp2
                  exact ⟨⟨j + 1, by omega, X', by go_num, ⟨T6.out.next HG.out.below, by have := V.out.n; have := HS.out; omega⟩, B6.out.trans (HG.out.below.mono B6.out.size)⟩, by simp [intOf]; omega⟩
              by_cases c6 : 0 ≤ p
              rotate_left
              · as_aux_lemma =>
                  go_wp2
                  exact ⟨⟨j + 1, by omega, X', by go_num, ⟨T6.out.next HG.out.below, by have := V.out.n; have := HS.out; omega⟩, B6.out.trans (HG.out.below.mono B6.out.size)⟩, by simp [intOf]; omega⟩
              by_cases c7 : p < 16
              rotate_left
              · as_aux_lemma =>
                  go_wp2
                  exact ⟨⟨j + 1, by omega, X', by go_num, ⟨T6.out.next HG.out.below, by have := V.out.n; have := HS.out; omega⟩, B6.out.trans (HG.out.below.mono B6.out.size)⟩, by simp [intOf]; omega⟩
              by_cases c8 : 0 ≤ q
              rotate_left
              · as_aux_lemma =>
                  go_wp2
                  exact ⟨⟨j + 1, by omega, X', by go_num, ⟨T6.out.next HG.out.below, by have := V.out.n; have := HS.out; omega⟩, B6.out.trans (HG.out.below.mono B6.out.size)⟩, by simp [intOf]; omega⟩
              by_cases c9 : q ≤ 1099511627776
              rotate_left
              · as_aux_lemma =>
                  go_wp2
                  exact ⟨⟨j + 1, by omega, X', by go_num, ⟨T6.out.next HG.out.below, by have := V.out.n; have := HS.out; omega⟩, B6.out.trans (HG.out.below.mono B6.out.size)⟩, by simp [intOf]; omega⟩
              by_cases c10 : C = 0
              rotate_left
              · as_aux_lemma =>
                  have c10' : ¬ (C : Int) = 0 := by omega
                  go_wp2
                  exact ⟨⟨j + 1, by omega, X', by go_num, ⟨T6.out.next HG.out.below, by have := V.out.n; have := HS.out; omega⟩, B6.out.trans (HG.out.below.mono B6.out.size)⟩, by simp [intOf]; omega⟩
              subst c10
              have hst := learned_found V.out.x.ok V.out.x.room1 v m p q (asked_zero h0 c2 c3 c4 c5 c6 c7 c8 c9) (HU.out rfl)
              have hxe := HX'.out
              unfold Dm.stepT at hxe
              rw [if_pos rfl] at hxe
              simp only at hxe
              rw [hxe] at hst
              have HF3 := Lib.hid (find_x tb mb R X' v m p true wr (T6.out.next HG.out.below) (kyok v m HR.out.1 hm) (find_at hst))
              clear hst hxe
              go_wp2_with (go_at_call 12; (with_reducible refine HF3.out.mono ?_); rintro e y ⟨rfl, g0⟩; have G0 := Lib.hid g0; clear g0; obtain ⟨z0, z1, z2, z3, z4, z5⟩ := (A6.out.next (HG.out.trans G0.out).below).cells)
              exact ⟨⟨j + 1, by omega, X', by go_num, ⟨T6.out.next (HG.out.trans G0.out).below, by have := V.out.n; have := HS.out; omega⟩, B6.out.trans ((HG.out.trans G0.out).below.mono B6.out.size)⟩, by simp [intOf]; omega⟩
    · obtain rfl : j = n := by omega
      go_wp2
      go_ret
      exact ⟨rfl, B.out⟩
end Go.Proofs.Ytkpfdaomhkcokaa
