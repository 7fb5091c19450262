/-
  FdbVlans: the walk.
-/
import Derived.Test.YtkpfdaomhkcokaaFdT
namespace Go.Proofs.Ytkpfdaomhkcokaa
set_option linter.unusedVariables false
set_option linter.unusedSimpArgs false
open Go.RowKit Go.Maps Dm

theorem new64 (w : World) : Calls Try.prog 8 #[.int .i64 64] w fun e w' => ∃ tb mb : Nat, e = .returned (.tuple #[.pointer (some ⟨tb, 0, none⟩), .int .i64 0]) ∧ IsTab w' tb mb 64 S0 ∧ w.heap.size ≤ tb ∧ w.heap.size ≤ mb ∧ Below w.heap.size w w' := new_w 64 w ⟨by omega, Nat.le_refl _⟩
theorem does64 (tb mb : Nat) (t : Tb) (k v : Int) (m : ByteArray) (p n q : Int) (w : World) (h : IsTab w tb mb 64 t) (hn1 : t.learned ≤ 1000000) (hm : m.size ≤ 20) (hv : inI64 v) (hnn : inI64 n) :
    Calls Try.prog 9 #[.pointer (some ⟨tb, 0, none⟩), .agg #[.int .i64 64, .slice none 0 0, .int .i64 0], .agg #[.int .i64 k, .int .i64 v, .string m, .int .i64 p, .int .i64 n, .int .i64 q]] w fun e w' => ∃ u, e = .returned u ∧ IsTab w' tb mb 64 (Dm.stepT 64 t ⟨k, v, m, p, n, q⟩).1 ∧ Kept2 tb mb w w' := does_e tb mb 64 t k v m p n q w h hn1 hm hv hnn

theorem few_each {l : List Ac} (h : fewB l = true) : ∀ x ∈ l, x.mac.size ≤ 20 := by
  unfold fewB at h
  rw [Bool.and_eq_true, List.all_eq_true] at h
  exact fun x hx => of_decide_eq_true (h.2 x hx)
theorem few_len {l : List Ac} (h : fewB l = true) : l.length ≤ 150 := by
  unfold fewB at h
  rw [Bool.and_eq_true] at h
  exact of_decide_eq_true h.1
/-- List, of a length that is known. -/
theorem list_n (tb mb room : Nat) (t : Tb) (L : Nat) (w : World) (h : IsTab w tb mb room t) (hL : t.l.length = L) :
    Calls Try.prog 10 #[.pointer (some ⟨tb, 0, none⟩)] w fun e w' => ∃ a cap, e = .returned (.slice a L cap) ∧ L ≤ cap ∧ Row w' a t.l ∧ Below w.heap.size w w' := by
  subst hL
  refine (list_w tb mb room t w h).mono ?_
  rintro e w' ⟨a, cap, rfl, hc, hr, _, hb⟩
  exact ⟨a, cap, rfl, hc, hr, hb⟩
theorem same_len {X Y : Tb} {v : Int} {L M : Nat} (h : Y.l = X.l.filter (inV v)) (hL : X.l.length = L) (hM : Y.l.length = M) : ((X.l.take L).filter (inV v)).length = M := by
  rw [← hL, List.take_length, ← h, hM]

/-- Behind some acts: the table of all, and the one of v alone. -/
structure VTabs (v : Int) (ta ma tb mb j : Nat) (X Y : Tb) (wr : World) : Prop where
  x : IsTab wr ta ma 64 X
  y : IsTab wr tb mb 64 Y
  same : Y.l = X.l.filter (inV v)
  len : X.l.length ≤ j
  nx : X.learned ≤ j
  ny : Y.learned ≤ j
structure Apart (S ta ma tb mb : Nat) : Prop where
  a1 : S ≤ ta
  a2 : S ≤ ma
  b1 : S ≤ tb
  b2 : S ≤ mb
  n1 : tb ≠ ta
  n2 : tb ≠ ma
  n3 : mb ≠ ta
  n4 : mb ≠ ma
/-- An act that both take. -/
theorem VTabs.both {v : Int} {ta ma tb mb j S : Nat} {X Y : Tb} {w0 w1 w2 : World} (h : VTabs v ta ma tb mb j X Y w0) (hS : Apart S ta ma tb mb) (a : Ac) (hj : j < 60) (ha : a.kind = 3 ∨ a.vlan = v)
    (x1 : IsTab w1 ta ma 64 (Dm.stepT 64 X a).1) (k2 : Kept2 tb mb w1 w2) (y2 : IsTab w2 tb mb 64 (Dm.stepT 64 Y a).1) : VTabs v ta ma tb mb (j + 1) (Dm.stepT 64 X a).1 (Dm.stepT 64 Y a).1 w2 := by
  have hs := vlans_step h.x.ok h.y.ok v a h.same (by have := h.len; omega)
  rw [if_pos ha] at hs
  have h1 := step_learned 64 X a
  have h2 := step_learned 64 Y a
  have h3 := step_length 64 h.x.ok.sorted a
  have h4 := h.len
  have h5 := h.nx
  have h6 := h.ny
  exact ⟨x1.kept k2 hS.n1.symm hS.n3.symm hS.n2.symm hS.n4.symm, y2, hs, by omega, by omega, by omega⟩
theorem VTabs.one {v : Int} {ta ma tb mb j S : Nat} {X Y : Tb} {w0 w1 : World} (h : VTabs v ta ma tb mb j X Y w0) (hS : Apart S ta ma tb mb) (a : Ac) (hj : j < 60) (ha : ¬ (a.kind = 3 ∨ a.vlan = v))
    (x1 : IsTab w1 ta ma 64 (Dm.stepT 64 X a).1) (k1 : Kept2 ta ma w0 w1) : VTabs v ta ma tb mb (j + 1) (Dm.stepT 64 X a).1 Y w1 := by
  have hs := vlans_step h.x.ok h.y.ok v a h.same (by have := h.len; omega)
  rw [if_neg ha] at hs
  have h1 := step_learned 64 X a
  have h3 := step_length 64 h.x.ok.sorted a
  have h4 := h.len
  have h5 := h.nx
  have h6 := h.ny
  exact ⟨x1, h.y.kept k1 hS.n1 hS.n2 hS.n3 hS.n4, hs, by omega, by omega, by omega⟩
set_option maxRecDepth 20000 in
set_option maxHeartbeats 8000000 in
theorem vlans_any (a : Option Addr) (cap : Nat) (l : List Ac) (v : Int) (w : World) (h : ARow w a l) :
    Calls Try.prog 5 #[.slice a l.length cap, .int .i64 v] w fun e w' => e = .returned (.bool true) ∧ Below w.heap.size w w' := by
  have hAW := awake_w w
  have hF := fun w1 (hb : Below w.heap.size w w1) => few_w a cap l w1 (h.next hb)
  obtain ⟨n, hn⟩ : ∃ n, l.length = n := ⟨_, rfl⟩
  have HN := Lib.hid hn
  have HA := Lib.hid h
  obtain ⟨F, hFW⟩ : ∃ F, fewB l = F := ⟨_, rfl⟩
  rw [hFW, hn] at hF
  rw [hn]
  have HF := Lib.hid hF
  have HAW := Lib.hid hAW
  have HFW := Lib.hid hFW
  clear hn h hF hAW hFW
  cases F
  · go_enter Try.func5, Try.ntmps5
    go_wp2_with (first
      | (go_at_call 6; (with_reducible refine HAW.out.mono ?_); rintro e w1 ⟨rfl, hb1⟩; have B1 := Lib.hid hb1; clear hb1)
      | (go_at_call 7; (with_reducible refine (HF.out w1 B1.out).mono ?_); rintro e w2 ⟨rfl, rfl⟩))
    go_ret
    exact ⟨rfl, B1.out⟩
  by_cases h60 : 60 < n
  · have h60' : (60 : Int) < n := by omega
    go_enter Try.func5, Try.ntmps5
    go_wp2_with (first
      | (go_at_call 6; (with_reducible refine HAW.out.mono ?_); rintro e w1 ⟨rfl, hb1⟩; have B1 := Lib.hid hb1; clear hb1)
      | (go_at_call 7; (with_reducible refine (HF.out w1 B1.out).mono ?_); rintro e w2 ⟨rfl, rfl⟩))
    go_ret
    exact ⟨rfl, B1.out⟩
  by_cases h1 : v < 1
  · have h60' : (n : Int) ≤ 60 := by omega
    go_enter Try.func5, Try.ntmps5
    go_wp2_with (first
      | (go_at_call 6; (with_reducible refine HAW.out.mono ?_); rintro e w1 ⟨rfl, hb1⟩; have B1 := Lib.hid hb1; clear hb1)
      | (go_at_call 7; (with_reducible refine (HF.out w1 B1.out).mono ?_); rintro e w2 ⟨rfl, rfl⟩))
    go_ret
    exact ⟨rfl, B1.out⟩
  by_cases h2 : 4094 < v
  · have h60' : (n : Int) ≤ 60 := by omega
    go_enter Try.func5, Try.ntmps5
    go_wp2_with (first
      | (go_at_call 6; (with_reducible refine HAW.out.mono ?_); rintro e w1 ⟨rfl, hb1⟩; have B1 := Lib.hid hb1; clear hb1)
      | (go_at_call 7; (with_reducible refine (HF.out w1 B1.out).mono ?_); rintro e w2 ⟨rfl, rfl⟩))
    go_ret
    exact ⟨rfl, B1.out⟩
  have h60' : (n : Int) ≤ 60 := by omega
  have HM : Hid (∀ x ∈ l, x.mac.size ≤ 20) := Lib.hid (few_each HFW.out)
  go_enter Try.func5, Try.ntmps5
  go_wp2_with (first
    | (go_at_call 6; (with_reducible refine HAW.out.mono ?_); rintro e w1 ⟨rfl, hb1⟩; have B1 := Lib.hid hb1; clear hb1)
    | (go_at_call 7; (with_reducible refine (HF.out w1 B1.out).mono ?_); rintro e w2 ⟨rfl, rfl⟩)
    | (go_at_call 8; (with_reducible refine (new64 w1).mono ?_); rintro e w3 ⟨ta, ma, rfl, t3, g1, g2, hb3⟩; have T3 := Lib.hid t3; have G := Lib.hid (And.intro g1 g2); have B3 := Lib.hid (B1.out.trans (hb3.mono B1.out.size)); clear t3 g1 g2 hb3)
    | (go_at_call 8; (with_reducible refine (new64 w3).mono ?_); rintro e w4 ⟨tb, mb, rfl, t4, g3, g4, hb4⟩; have T4 := Lib.hid (T3.out.next hb4); have U4 := Lib.hid t4; have GG := Lib.hid (And.intro g3 g4); have B4 := Lib.hid (B3.out.trans (hb4.mono B3.out.size)); clear t4 g3 g4 hb4))
  have AP : Hid (Apart w.heap.size ta ma tb mb) := by
    have s1 := B1.out.size
    have s3 := B3.out.size
    have l1 := T3.out.blk.lt
    have l2 := T3.out.map.lt
    obtain ⟨g1, g2⟩ := G.out
    obtain ⟨g3, g4⟩ := GG.out
    exact Lib.hid ⟨by omega, by omega, by omega, by omega, by omega, by omega, by omega, by omega⟩
  go_loopw [9] (fun i wr => ∃ j : Nat, j ≤ n ∧ ∃ X Y, i = .int .i64 (j : Nat) ∧ VTabs v ta ma tb mb j X Y wr ∧ Below w.heap.size w wr) (fun i _ => n - (intOf i).toNat)
  case atStart => exact ⟨0, Nat.zero_le _, S0, S0, rfl, ⟨T4.out, U4.out, rfl, Nat.le_refl _, Int.le_refl _, Int.le_refl _⟩, B4.out⟩
  case round =>
    obtain ⟨j, hj, X, Y, rfl, hV, hB⟩ := hrel
    have V := Lib.hid hV
    have B := Lib.hid hB
    clear hV hB
    by_cases hjn : j < n
    · obtain ⟨⟨k, xv, m, p, q, r⟩, hx⟩ := at_some (l := l) (k := j) (by rw [HN.out]; exact hjn)
      have hm : m.size ≤ 20 := HM.out _ (List.mem_of_getElem? hx)
      have hr := HA.out.rng _ (List.mem_of_getElem? hx)
      have HX := Lib.hid hx
      have HR := Lib.hid hr
      clear hx hr
      obtain ⟨g, o, rfl, hgl, hq⟩ := HA.out.at_ j _ HX.out
      have Q := Lib.hid hq
      clear hq
      obtain ⟨q0, q1, q2, q3, q4, q5⟩ := Q.out.below B.out hgl
      simp only at q0 q1 q2 q3 q4 q5
      by_cases k3 : k = 3
      · subst k3
        go_wp2_with (first
          | (go_at_call 9; (with_reducible refine (does64 ta ma X 3 xv m p q r wr V.out.x (by have := V.out.nx; omega) hm HR.out.1 HR.out.2).mono ?_); rintro e w5 ⟨u5, rfl, t5, k5⟩; have T5 := Lib.hid t5; have K5 := Lib.hid k5; have B5 := Lib.hid (k5.under B.out AP.out.a1 AP.out.a2); clear t5 k5 q0 q1 q2 q3 q4 q5; obtain ⟨q0, q1, q2, q3, q4, q5⟩ := Q.out.below B5.out hgl; simp only at q0 q1 q2 q3 q4 q5)
          | (go_at_call 9; (with_reducible refine (does64 tb mb Y 3 xv m p q r w5 (V.out.y.kept K5.out AP.out.n1 AP.out.n2 AP.out.n3 AP.out.n4) (by have := V.out.ny; omega) hm HR.out.1 HR.out.2).mono ?_); rintro e w6 ⟨u6, rfl, t6, k6⟩; have T6 := Lib.hid t6; have K6 := Lib.hid k6; have B6 := Lib.hid (k6.under B5.out AP.out.b1 AP.out.b2); clear t6 k6))
        refine ⟨⟨j + 1, by omega, _, _, by go_num, V.out.both AP.out ⟨3, xv, m, p, q, r⟩ (by omega) (.inl rfl) T5.out K6.out T6.out, B6.out⟩, by simp [intOf]; omega⟩
      by_cases hv : xv = v
      · subst hv
        go_wp2_with (first
          | (go_at_call 9; (with_reducible refine (does64 ta ma X k xv m p q r wr V.out.x (by have := V.out.nx; omega) hm HR.out.1 HR.out.2).mono ?_); rintro e w5 ⟨u5, rfl, t5, k5⟩; have T5 := Lib.hid t5; have K5 := Lib.hid k5; have B5 := Lib.hid (k5.under B.out AP.out.a1 AP.out.a2); clear t5 k5 q0 q1 q2 q3 q4 q5; obtain ⟨q0, q1, q2, q3, q4, q5⟩ := Q.out.below B5.out hgl; simp only at q0 q1 q2 q3 q4 q5)
          | (go_at_call 9; (with_reducible refine (does64 tb mb Y k xv m p q r w5 (V.out.y.kept K5.out AP.out.n1 AP.out.n2 AP.out.n3 AP.out.n4) (by have := V.out.ny; omega) hm HR.out.1 HR.out.2).mono ?_); rintro e w6 ⟨u6, rfl, t6, k6⟩; have T6 := Lib.hid t6; have K6 := Lib.hid k6; have B6 := Lib.hid (k6.under B5.out AP.out.b1 AP.out.b2); clear t6 k6))
        refine ⟨⟨j + 1, by omega, _, _, by go_num, V.out.both AP.out ⟨k, xv, m, p, q, r⟩ (by omega) (.inr rfl) T5.out K6.out T6.out, B6.out⟩, by simp [intOf]; omega⟩
      · have b3 : (k == 3) = false := beq_eq_false_iff_ne.2 k3
        have bv : (xv == v) = false := beq_eq_false_iff_ne.2 hv
        go_wp2_with (go_at_call 9;  (with_reducible refine (does64 ta ma X k xv m p q r wr V.out.x (by have := V.out.nx; omega) hm HR.out.1 HR.out.2).mono ?_); rintro e w5 ⟨u5, rfl, t5, k5⟩; have T5 := Lib.hid t5; have K5 := Lib.hid k5; have B5 := Lib.hid (k5.under B.out AP.out.a1 AP.out.a2); clear t5 k5 q0 q1 q2 q3 q4 q5; obtain ⟨q0, q1, q2, q3, q4, q5⟩ := Q.out.below B5.out hgl; simp only at q0 q1 q2 q3 q4 q5)
        refine ⟨⟨j + 1, by omega, _, _, by go_num, V.out.one AP.out ⟨k, xv, m, p, q, r⟩ (by omega) (fun e => e.elim k3 hv) T5.out K5.out, B5.out⟩, by simp [intOf]; omega⟩
    · obtain rfl : j = n := by omega
      obtain ⟨L, hL⟩ : ∃ L, X.l.length = L := ⟨_, rfl⟩
      obtain ⟨M, hM⟩ : ∃ M, Y.l.length = M := ⟨_, rfl⟩
      have hL64 : L ≤ 64 := by have := V.out.x.ok.room; omega
      have hM64 : M ≤ 64 := by have := V.out.y.ok.room; omega
      have HL := Lib.hid hL
      have HMM := Lib.hid hM
      clear hL hM
      go_wp2_with (first
        | (go_at_call 10; (with_reducible refine (list_n ta ma 64 X L wr V.out.x HL.out).mono ?_); rintro e w5 ⟨a5, cap5, rfl, c5, r5, b5⟩; have R5 := Lib.hid r5; have B5 := Lib.hid (B.out.trans (b5.mono B.out.size)); have Y5 := Lib.hid (V.out.y.next b5); clear r5 b5)
        | (go_at_call 10; (with_reducible refine (list_n tb mb 64 Y M w5 Y5.out HMM.out).mono ?_); rintro e w6 ⟨a6, cap6, rfl, c6, r6, b6⟩; have R6 := Lib.hid r6; have O6 := Lib.hid (R5.out.next b6); have B6 := Lib.hid (B5.out.trans (b6.mono B5.out.size)); clear r6 b6))
      go_loopw [12, 13] (fun c i wr => ∃ j : Nat, j ≤ L ∧ ∃ C : Nat, c = .int .i64 (C : Nat) ∧ Hid (((X.l.take j).filter (inV v)).length = C) ∧ i = .int .i64 (j : Nat) ∧ Grown w6 wr) (fun _ i _ => L - (intOf i).toNat)
      case atStart => exact ⟨0, Nat.zero_le _, 0, rfl, Lib.hid rfl, rfl, Grown.refl _⟩
      case round =>
        obtain ⟨i, hi, C, rfl, HC, rfl, hGr⟩ := hrel
        have HG := Lib.hid hGr
        clear hGr
        by_cases hiL : i < L
        · obtain ⟨⟨xv, xm, xp, xh, xf⟩, hx⟩ := at_some (l := X.l) (k := i) (by rw [HL.out]; exact hiL)
          have HX := Lib.hid hx
          clear hx
          obtain ⟨g, o, rfl, hgl, q0, q1, q2, q3, q4⟩ := (O6.out.next HG.out.below).at_ i _ HX.out
          simp only at q0 q1 q2 q3 q4
          by_cases hv : xv = v
          · subst hv
            have hc := filter_at (p := inV xv) HX.out (by unfold inV; exact decide_eq_true rfl)
            rw [← V.out.same, HC.out] at hc
            have hCM : C < M := by rw [← HMM.out]; exact (List.getElem?_eq_some_iff.1 hc).1
            obtain ⟨g', o', rfl, hgl', p0, p1, p2, p3, p4⟩ := (R6.out.next HG.out.below).at_ C _ hc
            simp only at p0 p1 p2 p3 p4
            clear hc
            have hd : decide ((C : Int) ≥ (M : Int)) = false := decide_eq_false (by omega)
            go_wp2_with fail
            go_quiet (fail)
            go_wp2
            refine ⟨⟨i + 1, by omega, C + 1, by go_num, Lib.hid ?_, by go_num, HG.out.drewN _⟩, by simp [intOf]; omega⟩
            rw [take_filter HX.out, if_pos (by unfold inV; exact decide_eq_true rfl), List.length_append, HC.out]
            rfl
          · go_wp2
            refine ⟨⟨i + 1, by omega, C, rfl, Lib.hid ?_, by go_num, HG.out⟩, by simp [intOf]; omega⟩
            rw [take_filter HX.out, if_neg (by unfold inV; simp; exact hv), HC.out]
        · obtain rfl : i = L := by omega
          obtain rfl : C = M := by rw [← HC.out]; exact same_len V.out.same HL.out HMM.out
          go_wp2
          go_ret
          exact ⟨rfl, B6.out.trans (HG.out.below.mono B6.out.size)⟩
end Go.Proofs.Ytkpfdaomhkcokaa
