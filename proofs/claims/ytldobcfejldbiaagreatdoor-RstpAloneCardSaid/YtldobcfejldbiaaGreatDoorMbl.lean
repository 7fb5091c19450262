/-
  Layer 15: the walk of RstpAlone.
-/
import Derived.Test.YtldobcfejldbiaaGreatDoorMbk
namespace Go.Proofs.YtldobcfejldbiaaGreatDoor
set_option linter.unusedVariables false
set_option linter.unusedSimpArgs false
open Go.RowKit Go.Maps Vm Rm Bm Im

theorem infoA : (Tryz.prog.info? 51).map (·.size) = some 13 := by kernel_rfl
set_option maxRecDepth 100000 in
theorem wpList_act {ops : Array Oper} {rest : List Oper} {op : Oper} {a : Act} {w : World} {Q : Exit → Act → World → Prop} (hgd : op.guard = none) (x : Operand) (ho : op.op = .load 51 x)
    (b o : Nat) (hx : a.eval x = .pointer (some ⟨b, o, none⟩)) (y : A15) (hc : w.rangeAt b o (cellsA y).toList)
    (h : wpList Tryz.prog ops Q rest (a.put op.dst (av y)) w) : wpList Tryz.prog ops Q (op :: rest) a w :=
  wpList_load_mid hgd 51 x ho b o hx (cellsA y).toList _ hc rfl rfl infoA h
theorem al_do {S : List Su} {br : Int} {t : Tm} {x : Rs} {y : A15} (hn : newB t S = true) (h : Al S br t x) (hk : ¬ y.kind = 1) : Al S br t (doX br t x y) := by
  unfold doX
  by_cases h0 : y.kind = 0
  · rw [if_pos h0]
    split
    · exact al_power hn h _ _
    · exact h
  rw [if_neg h0, if_neg hk]
  by_cases h2 : y.kind = 2
  · rw [if_pos h2]; exact al_tick hn h
  rw [if_neg h2]
  by_cases h3 : y.kind = 3
  · rw [if_pos h3]
    split
    · exact al_check hn h _
    · exact h
  rw [if_neg h3]
  by_cases h4 : y.kind = 4
  · rw [if_pos h4]; exact al_send hn h
  rw [if_neg h4]
  by_cases h5 : y.kind = 5
  · rw [if_pos h5]; exact al_forgotten h
  rw [if_neg h5]
  exact h
/-- Where the walk of RstpAlone stands, ahead of an act. -/
def AloInv (S : List Su) (w0 : World) (xb mb m : Nat) (v : Value) (wr : World) : Prop :=
  ∃ (j g cap : Nat) (x : Rs), j ≤ m ∧ v = .int .i64 ((j : Nat) : Int) ∧ XIs w0 wr xb g cap mb 9 U9 (j + 1) x ∧ Al S 9 U9 x
def AloIn (n : Nat) (w3 : World) (v : Value) (wr : World) : Prop := ∃ kk : Nat, kk ≤ n ∧ v = .int .i64 ((kk : Nat) : Int) ∧ Below w3.heap.size w3 wr

set_option maxRecDepth 20000 in
set_option maxHeartbeats 16000000 in
theorem rstpAlone_any (a : Option Addr) (cap : Nat) (S : List Su) (b : Option Addr) (bcap : Nat) (sc : List A15) (w : World) (hT : TRoles w) (hr : SuRow w a S) (hS : ∀ s ∈ S, Vm.u64B s.id ∧ Vm.u64B s.cost) (hA : ARow w b sc) :
    Calls Tryz.prog 5 #[.slice a S.length cap, .slice b sc.length bcap] w fun e w' => e = .returned (.bool true) ∧ Below w.heap.size w w' := by
  obtain ⟨n, hn⟩ : ∃ n, S.length = n := ⟨_, rfl⟩
  obtain ⟨m, hm⟩ : ∃ m, sc.length = m := ⟨_, rfl⟩
  have HN := Lib.hid hn
  have HM := Lib.hid hm
  rw [hn, hm]
  have CW := Lib.hid (awake15_any w hT)
  have CU := Lib.hid (fun w' => usual_w 9 w')
  have CF := Lib.hid (fun w' => few15_w b m bcap w')
  have CN := Lib.hid (fun (w' : World) (hb : Below w.heap.size w w') (hn20 : n ≤ 20) => new15_w 9 U9 a cap S w' (hr.next hb) nine hS (by omega))
  rw [hn] at CN
  have HT := Lib.hid hT
  have HA := Lib.hid hA
  clear hT hr hS hA hn hm
  by_cases hn20 : n ≤ 20
  case neg =>
    have h1 : (20 : Int) < (n : Int) := by omega
    clear CN CF CU HT HA HN HM
    go_enter Tryz.func5, Tryz.ntmps5
    go_wp2_with (go_at_call 6; (with_reducible refine CW.out.mono ?_); rintro e w1 ⟨rfl, hb1⟩; have HB1 := Lib.hid hb1; clear hb1)
    go_ret
    exact ⟨rfl, HB1.out⟩
  have hn20' : ¬ ((20 : Int) < (n : Int)) := by omega
  by_cases hm60 : m ≤ 60
  case neg =>
    rw [decide_eq_false hm60] at CF
    clear CN CU HT HA HN HM
    go_enter Tryz.func5, Tryz.ntmps5
    go_wp2_with (first
      | (go_at_call 6; (with_reducible refine CW.out.mono ?_); rintro e w1 ⟨rfl, hb1⟩; have HB1 := Lib.hid hb1; clear hb1)
      | (go_at_call 7; (with_reducible refine (CF.out _).mono ?_); rintro e w2 ⟨rfl, hw2⟩; obtain rfl : w1 = w2 := hw2.symm))
    go_ret
    exact ⟨rfl, HB1.out⟩
  rw [decide_eq_true hm60] at CF
  cases hN : newB U9 S with
  | false =>
    rw [hN] at CN
    have CNN := Lib.hid (fun (w' : World) (hb : Below w.heap.size w w') => show Calls Tryz.prog 8 #[brv 9 0 20 2 15, .slice a n cap] w' (fun e w'' => e = .returned (.tuple #[.pointer none, .int .i64 2]) ∧ Below w'.heap.size w' w'') from
      (CN.out w' hb hn20).mono fun e w'' hh => by
        rcases hh with ⟨_, h1⟩ | ⟨h1, _⟩
        · exact h1
        · cases h1)
    clear CN HT HA HN HM hN
    go_enter Tryz.func5, Tryz.ntmps5
    go_wp2_with (first
      | (go_at_call 6; (with_reducible refine CW.out.mono ?_); rintro e w1 ⟨rfl, hb1⟩; have HB1 := Lib.hid hb1; clear hb1)
      | (go_at_call 7; (with_reducible refine (CF.out _).mono ?_); rintro e w2 ⟨rfl, hw2⟩; obtain rfl : w1 = w2 := hw2.symm)
      | (go_at_call 25; (with_reducible refine (CU.out _).mono ?_); rintro e w3 ⟨rfl, hb3⟩; have HB3 := Lib.hid (bw_trans HB1.out hb3); clear hb3)
      | (go_at_call 8; (with_reducible refine (CNN.out _ HB3.out).mono ?_); rintro e w4 ⟨rfl, hb4⟩; have HB4 := Lib.hid (bw_trans HB3.out hb4); clear hb4))
    go_ret
    exact ⟨rfl, HB4.out⟩
  | true =>
    rw [hN] at CN
    have HNB := Lib.hid hN
    have CNN := Lib.hid (fun (w' : World) (hb : Below w.heap.size w w') => show Calls Tryz.prog 8 #[brv 9 0 20 2 15, .slice a n cap] w' (fun e w'' => ∃ xb g cap' mb, e = .returned (.tuple #[.pointer (some ⟨xb, 0, none⟩), .int .i64 0]) ∧ w'.heap.size ≤ xb ∧ w'.heap.size ≤ g ∧ w'.heap.size ≤ mb ∧ IsX w'' xb g cap' mb 9 U9 1 (newX 9 U9 S) ∧ Below w'.heap.size w' w'') from
      (CN.out w' hb hn20).mono fun e w'' hh => by
        rcases hh with ⟨h1, _⟩ | ⟨_, h1⟩
        · cases h1
        · exact h1)
    clear CN HN hN hn20
    go_enter Tryz.func5, Tryz.ntmps5
    go_wp2_with (first
      | (go_at_call 6; (with_reducible refine CW.out.mono ?_); rintro e w1 ⟨rfl, hb1⟩; have HB1 := Lib.hid hb1; clear hb1)
      | (go_at_call 7; (with_reducible refine (CF.out _).mono ?_); rintro e w2 ⟨rfl, hw2⟩; obtain rfl : w1 = w2 := hw2.symm)
      | (go_at_call 25; (with_reducible refine (CU.out _).mono ?_); rintro e w3 ⟨rfl, hb3⟩; have HB3 := Lib.hid (bw_trans HB1.out hb3); clear hb3)
      | (go_at_call 8; (with_reducible refine (CNN.out _ HB3.out).mono ?_); rintro e w4 ⟨xb, g, xcap, mb, rfl, hxb, hg, hmb, hx, hb4⟩; have X4 := Lib.hid (show XIs w w4 xb g xcap mb 9 U9 1 (newX 9 U9 S) from ⟨hx, Nat.le_trans HB3.out.size hxb, Nat.le_trans HB3.out.size hmb, Nat.le_trans HB3.out.size hg, bw_trans HB3.out hb4⟩); clear hxb hg hmb hx hb4))
    have HAL := Lib.hid (al_new (S := S) (br := 9) (t := U9) HNB.out)
    have BW := Lib.hid X4.out.below
    go_loopw [7] (fun v wr => AloInv S w xb mb m v wr) (fun v _ => m - (RowKit.intOf v).toNat)
    case atStart => exact ⟨0, g, xcap, _, Nat.zero_le _, rfl, X4.out, HAL.out⟩
    case round =>
      obtain ⟨j, g1, cap1, x, hj, rfl, hx, hal⟩ := hrel
      have X := Lib.hid hx
      have AL := Lib.hid hal
      clear hx hal X4 HAL
      by_cases hjm : j < m
      · obtain ⟨y, hy⟩ := at_some (l := sc) (k := j) (by rw [HM.out]; exact hjm)
        obtain ⟨ab, ao, rfl, habl, hyr⟩ := (HA.out.next X.out.below).at_ j y hy
        have hyk := HA.out.ok y (List.mem_of_getElem? hy)
        have HY := Lib.hid hyr
        have cK : wr.cell? ⟨ab, ao + j * 13, none⟩ = some (.int .i64 y.kind) := hyr 0 (.int .i64 y.kind) rfl
        have hji : ((j : Nat) : Int) < (m : Int) := by omega
        have hj0 : (0 : Int) ≤ ((j : Nat) : Int) := by omega
        clear hyr hy habl
        by_cases h1 : y.kind = 1
        · rw [h1] at cK
          go_wp2_with fail
          exact ⟨⟨j + 1, g1, cap1, x, by omega, by go_num, ⟨X.out.is.more, X.out.hx, X.out.hm, X.out.hg, X.out.below⟩, AL.out⟩, by simp [RowKit.intOf]; omega⟩
        · have h1' := decide_eq_false h1
          obtain ⟨X2, hX2⟩ : ∃ X2, doX 9 U9 x y = X2 := ⟨_, rfl⟩
          have AL2 := Lib.hid (hX2 ▸ al_do HNB.out AL.out h1)
          have CD := Lib.hid (hX2 ▸ does15_w xb g1 cap1 mb (j + 1) 9 U9 x y wr X.out.is (X.out.roles HT.out) nine (by omega) hyk)
          clear hX2 hyk
          go_upto_region 12 with (fail)
          clear cK
          go_upto_region 13 with (first
            | (with_reducible refine wpList_act rfl _ rfl _ _ rfl y HY.out ?_)
            | (go_at_call 27; (with_reducible refine CD.out.mono ?_); rintro e w5 ⟨rfl, ha5⟩; obtain ⟨g5, cap5, hx5, _⟩ := X.out.act ha5; have X5 := Lib.hid hx5; clear hx5 ha5))
          have CPo := Lib.hid (ports15_w xb g5 cap5 mb (j + 1 + 1) 9 U9 X2 w5 X5.out.is)
          clear X CD HY AL
          go_upto_region 14 with (go_at_call 23; (with_reducible refine CPo.out.mono ?_); rintro e w6 ⟨gl, capl, rfl, hcl, hgl, hwl, hb6⟩; have W6 := Lib.hid hwl; have X6 := Lib.hid (X5.out.next hb6); clear hwl hb6 hcl hgl)
          clear X5 CPo
          obtain ⟨q, hq⟩ : ∃ q, X2.l.length = q := ⟨_, rfl⟩
          have HQ := Lib.hid hq
          have hq16 : q ≤ 16 := hq ▸ X6.out.is.len2
          rw [hq]
          clear hq
          go_wp2_with fail
          go_loopw [9] (fun v wr => AloIn q w6 v wr) (fun v _ => q - (RowKit.intOf v).toNat)
          case atStart => exact ⟨0, Nat.zero_le _, rfl, Below.refl _ _⟩
          case round =>
            obtain ⟨kk, hkk, rfl, hbb⟩ := hrel
            have BB := Lib.hid hbb
            by_cases hlt : kk < q
            · obtain ⟨p, hp⟩ := at_some (l := X2.l) (k := kk) (by rw [HQ.out]; exact hlt)
              have hki : ((kk : Nat) : Int) < (q : Int) := by omega
              have hk0 : (0 : Int) ≤ ((kk : Nat) : Int) := by omega
              have HP := Lib.hid (range_next (W6.out.at_ kk p hp) W6.out.lt hbb)
              have AP := Lib.hid (AL2.out.alone kk p hp)
              obtain ⟨V, nb, HV, HNB2, kP, kB, kL⟩ := fillS_is wr p
              have HVW := Lib.hid (show Below wr.heap.size wr V by rw [HNB2.out]; exact kB)
              clear hbb hp kB kL
              go_upto_region 18 with (first
                | (with_reducible refine wpList_mid rfl _ rfl _ _ rfl p HP.out ?_)
                | (refine wpList_ptst rfl _ _ rfl wr.heap.size rfl p zeroP rfl (ptblk_new _ wr zeroP) ?_))
              refine wp_to (W := V) (by exact HV.out.symm) ?_
              rw [HNB2.out]
              clear HP HV HNB2
              have q0 := kP.c_id
              have q2 := kP.c_on
              have q3 := kP.c_admin
              have q5 := kP.c_source
              have q14 := kP.c_offer_root
              have q15 := kP.c_offer_cost
              have q16 := kP.c_offer_bridge
              have q17 := kP.c_offer_port
              have q22 := kP.c_role
              have q28 := kP.c_learning
              have q30 := kP.c_forwarding
              clear kP
              have ap := AP.out
              have BZ := Lib.hid (bw_trans BB.out HVW.out)
              clear AP AL2 W6 BB HVW
              cases ho : p.on with
              | true =>
                obtain ⟨e1, e2, e3⟩ := ap.on ho
                rw [ho] at q2
                rw [e1] at q22
                rw [e2] at q14 q15 q16 q17
                rw [e3] at q5
                simp only [ownO] at q14 q15 q16 q17
                cases hadm : p.admin with
                | true =>
                  have e4 := ap.edge ho hadm
                  rw [hadm] at q3
                  rw [e4] at q30
                  clear ho e1 e2 e3 e4 hadm ap
                  go_wp2_with fail
                  exact ⟨⟨kk + 1, by omega, by go_num, BZ.out⟩, by simp [RowKit.intOf]; omega⟩
                | false =>
                  rw [hadm] at q3
                  clear ho e1 e2 e3 hadm ap
                  go_wp2_with fail
                  exact ⟨⟨kk + 1, by omega, by go_num, BZ.out⟩, by simp [RowKit.intOf]; omega⟩
              | false =>
                obtain ⟨e1, e2, e3⟩ := ap.off ho
                rw [ho] at q2
                rw [e1] at q28
                rw [e2] at q30
                rw [e3] at q22
                clear ho e1 e2 e3 ap
                go_wp2_with fail
                exact ⟨⟨kk + 1, by omega, by go_num, BZ.out⟩, by simp [RowKit.intOf]; omega⟩
            · obtain rfl : kk = q := by omega
              have XZ := Lib.hid (X6.out.next hbb)
              clear BB hbb W6 X6
              go_wp2_with fail
              exact ⟨⟨j + 1, g5, cap5, X2, by omega, by go_num, XZ.out, AL2.out⟩, by simp [RowKit.intOf]; omega⟩
      · obtain rfl : j = m := by omega
        have BX := Lib.hid X.out.below
        clear X AL
        go_wp2_with fail
        go_ret
        exact ⟨rfl, BX.out⟩
end Go.Proofs.YtldobcfejldbiaaGreatDoor
