/-
  Layer 11: Choose, where it may.
-/
import Derived.Test.YtldobcfejldbiaaGreatDoorMao
namespace Go.Proofs.YtldobcfejldbiaaGreatDoor
set_option linter.unusedVariables false
set_option linter.unusedSimpArgs false
open Go.RowKit Vm Rm Bm Im

theorem intOf_nat (k : Nat) : (intOf (Value.int .i64 ((k : Nat) : Int))).toNat = k := by simp [intOf]
def LInv (f : Nat → Pt → Pt) (l : List Pt) (n g : Nat) (wl : World) (i : Value) (wr : World) : Prop :=
  ∃ k : Nat, k ≤ n ∧ i = .int .i64 (k : Nat) ∧ WRow wr g (curL f l k) ∧ Kp g wl wr

set_option maxRecDepth 20000 in
set_option maxHeartbeats 4000000 in
theorem choose_ok_w (i a m h d vr vc vb vp P ga gm gh gd : Int) (ad : Option Addr) (cap : Nat) (l : List Pt) (f : Nat → Pt → Pt) (w : World) (hi : Vm.u64B i) (hr : PRow w ad l) (hok : ∀ p ∈ l, PtOk p) (hl : l.length ≤ 1000) (hb : rightBr ⟨a, m, h, d⟩ = true) (hany : l.any Pt.reselect = true) (hrr : rightR (infosP l) = true)
    (hV : rootV i (infosP l) = ⟨vr, vc, vb, vp⟩) (hP : portI (rootP i (infosP l)) = P) (hG : givenP i ⟨a, m, h, d⟩ l = ⟨ga, gm, gh, gd⟩)
    (hf : ∀ k p, l[k]? = some p → f k p = { choP (roleAt i (infosP l) k (infP p)) ⟨vr, vc, i, p.id⟩ ⟨ga, gm, gh, gd⟩ p with update := mustB (choP (roleAt i (infosP l) k (infP p)) ⟨vr, vc, i, p.id⟩ ⟨ga, gm, gh, gd⟩ p) }) :
    Calls Tryz.prog 30 #[brv i a m h d, .slice ad l.length cap] w fun e w' => Out w w' l.length (l.mapIdx f) true e := by
  have K0 := Lib.hid (show BrBlk (w.alloc (.cells (bcl i a m h d) 26)) w.heap.size i a m h d from heap_alloc_new w _)
  have B0 := Lib.hid (below_box w (.cells (bcl i a m h d) 26))
  have CC := Lib.hid (clone_w ad cap l _ (hr.next B0.out) hl)
  obtain ⟨n, hn⟩ : ∃ n, l.length = n := ⟨_, rfl⟩
  have HR := Lib.hid hr
  have HL := Lib.hid hl
  have CB := Lib.hid (fun w' => brRight_w i a m h d true w' (Lib.hid hb))
  have CA := Lib.hid (fun w' (hp : PRow w' ad l) => containsP_w ad cap l true w' hp HL.out (Lib.hid hany))
  have CK := Lib.hid (fun w' (hp : PRow w' ad l) => known_w ad cap l w' hp hok HL.out)
  have CS := Lib.hid (fun w' (a' : Option Addr) (cap' : Nat) (h : IRow w' a' (infosP l)) (hc : l.length ≤ cap') => by
    have := select_ok i a' cap' (infosP l) vr vc vb vp P w' hi h (by rw [infos_len]; exact hc) (Lib.hid hrr) (Lib.hid hV) (Lib.hid hP)
    rw [infos_len] at this
    exact this)
  have CG := Lib.hid (fun w' (hp : PRow w' ad l) => given_w i a m h d P ad cap l ga gm gh gd w' hp hok hP hG)
  have HF := Lib.hid hf
  have HOF := Lib.hid (fun (k : Nat) (p : Inf) (hp : (infosP l)[k]? = some p) => offers_at (br := i) hp)
  rw [hV] at HOF
  rw [hn] at CC CA CK CS CG ⊢
  have HN := Lib.hid hn
  have hl0 : l ≠ [] := fun e => by rw [e] at hany; cases hany
  clear hr hl hn hok hb hany hrr hV hP hG hf
  unfold brv
  go_enter Tryz.func30, Tryz.ntmps30
  go_wp2_with fail
  (with_reducible refine CC.out.mono ?_)
  rintro e w1 ⟨a', cap', rfl, hcap, hown, hb1⟩
  have B1 := Lib.hid (bw_trans B0.out hb1)
  have K1 := Lib.hid (K0.out.next hb1)
  obtain ⟨g, rfl, hgB, hW⟩ : ∃ g, a' = some ⟨g, 0, none⟩ ∧ (w.alloc (.cells (bcl i a m h d) 26)).heap.size ≤ g ∧ WRow w1 g l := by
    rcases hown with ⟨_, e⟩ | h
    · exact absurd e hl0
    · exact h
  have O1 := Lib.hid hW
  have hgw : w.heap.size < g := by rw [size_box] at hgB; omega
  obtain ⟨k0, k1, k2, k3, k4⟩ := K1.out.cells
  clear hb1 hown hW hgB hl0 CC B0 K0
  go_upto_region 4 with (first
    | (go_at_call 59; (with_reducible refine (CB.out _).mono ?_); rintro e w2 ⟨rfl, hb2⟩; have B2 := Lib.hid (bw_trans B1.out hb2); have K2 := Lib.hid (K1.out.next hb2); have O2 := Lib.hid (O1.out.next hb2); clear hb2 k0 k1 k2 k3 k4)
    | (go_at_call 60; (with_reducible refine (CA.out _ (HR.out.next B2.out)).mono ?_); rintro e U ⟨rfl, hb3⟩; have B3 := Lib.hid (bw_trans B2.out hb3); have K3 := Lib.hid (K2.out.next hb3); have O3 := Lib.hid (O2.out.next hb3); clear hb3 B1 B2 K1 K2 O1 O2 CB CA))
  have HU := Lib.hid (HR.out.next B3.out)
  have b0 := (Below.refl U.heap.size U).drew
  have b0a := fun c => (bw_alloc (Below.refl U.heap.size U) c).drew
  have S0 := (show BrBlk U.drew w.heap.size i a m h d from K3.out).cells.1
  have S0a := fun c => (show BrBlk (U.alloc c).drew w.heap.size i a m h d from (K3.out.next (below_box U c) : BrBlk (U.alloc c) w.heap.size i a m h d)).cells.1
  have hbU : w.heap.size < U.heap.size := K3.out.lt
  go_cut [7, 8] (fun u7 u8 wx => ∃ (rb : Nat) (ra oa : Option Addr) (rcap ocap : Nat), u7 = .pointer (some ⟨rb, 0, none⟩) ∧ u8 = .int .i64 0 ∧ RBlk wx rb vr vc vb vp P (.slice ra n rcap) (.slice oa n ocap) ∧ NRow wx ra (rolesN i (infosP l) n) ∧ VRow wx oa (offersR i (infosP l)) ∧ U.heap.size ≤ rb ∧ (∀ x, ra = some x → U.heap.size ≤ x.block) ∧ (∀ x, oa = some x → U.heap.size ≤ x.block) ∧ Below U.heap.size U wx)
  case first =>
    go_region_held3 (fun V => V.cell? ⟨w.heap.size, 0, none⟩ = some (.int .u64 i)) (first | (with_reducible exact S0) | (with_reducible exact S0a _) | (with_reducible exact S1) | (with_reducible exact S1a _) | (with_reducible exact S2) | (with_reducible exact S2a _) | (with_reducible exact S2p)) (first
      | (go_at_call 63; (with_reducible refine (CK.out ((U.alloc (.cells #[.int .u64 0, .int .u64 0, .int .u64 0, .int .u64 0, .int .i64 0, .slice none 0 0, .slice none 0 0] 132)).drew) (HU.out.next (b0a _))).mono ?_); rintro e y0 ⟨ka, kcap, rfl, hkc, hki, hkb⟩; have E0 := Lib.hid (bw_trans (b0a _) hkb); have hs0 := E0.out.size; have HI := Lib.hid hki; have Q0 := K3.out.next E0.out; have S1 := Q0.cells.1; have S1a := fun c => (Q0.next (below_box y0 c)).cells.1; have ZA := Lib.hid ((show RBlk (U.alloc (.cells #[.int .u64 0, .int .u64 0, .int .u64 0, .int .u64 0, .int .i64 0, .slice none 0 0, .slice none 0 0] 132)).drew U.heap.size 0 0 0 0 0 (.slice none 0 0) (.slice none 0 0) from rblk_new U 0 0 0 0 0 (.slice none 0 0) (.slice none 0 0)).next hkb); have hzA : U.heap.size < y0.heap.size := ZA.out.lt; clear Q0 hki hkb)
      | (go_at_call 63; (with_reducible refine (CK.out (U.drew) (HU.out.next (b0))).mono ?_); rintro e y0 ⟨ka, kcap, rfl, hkc, hki, hkb⟩; have E0 := Lib.hid (bw_trans (b0) hkb); have hs0 := E0.out.size; have HI := Lib.hid hki; have Q0 := K3.out.next E0.out; have S1 := Q0.cells.1; have S1a := fun c => (Q0.next (below_box y0 c)).cells.1; clear Q0 hki hkb)
      | (go_at_call 62; (with_reducible refine (CS.out (y0) ka kcap (HI.out.next (Below.refl y0.heap.size y0)) hkc).mono ?_); rintro e y1 ⟨ra, oa, rcap, ocap, rfl, hn1, hv1, hf1, hf2, hsb⟩; have N1 := Lib.hid hn1; have V1 := Lib.hid hv1; have F1 := Lib.hid hf1; have F2 := Lib.hid hf2; have E1 := Lib.hid (bw_trans (E0.out.trans ((Below.refl y0.heap.size y0).mono E0.out.size)) hsb); have Q1 := K3.out.next E1.out; have S2 := Q1.cells.1; have S2a := fun c => (Q1.next (below_box y1 c)).cells.1; have Z1 := ZA.out.next hsb; obtain ⟨z0, z1, z2, z3, z4, z5, z6⟩ := Z1.cells; have f0 := Z1.free 0; have f1 := Z1.free 1; have f2 := Z1.free 2; have f3 := Z1.free 3; have f4 := Z1.free 4; have f5 := Z1.free 5; have f6 := Z1.free 6; have S2p := ((((((((Q1.other U.heap.size 0 (.int .u64 vr) (by omega)).other U.heap.size 1 (.int .u64 vc) (by omega)).other U.heap.size 2 (.int .u64 vb) (by omega)).other U.heap.size 3 (.int .u64 vp) (by omega)).other U.heap.size 4 (.int .i64 P) (by omega)).other U.heap.size 5 (.slice ra n rcap) (by omega)).other U.heap.size 6 (.slice oa n ocap) (by omega)).cells).1; clear Q1 hn1 hv1 hf1 hf2)
      | (go_at_call 62; (with_reducible refine (CS.out (y0.alloc (.cells #[.int .u64 0, .int .u64 0, .int .u64 0, .int .u64 0, .int .i64 0, .slice none 0 0, .slice none 0 0] 132)) ka kcap (HI.out.next (below_box y0 (.cells #[.int .u64 0, .int .u64 0, .int .u64 0, .int .u64 0, .int .i64 0, .slice none 0 0, .slice none 0 0] 132))) hkc).mono ?_); rintro e y1 ⟨ra, oa, rcap, ocap, rfl, hn1, hv1, hf1, hf2, hsb⟩; have N1 := Lib.hid hn1; have V1 := Lib.hid hv1; have F1 := Lib.hid hf1; have F2 := Lib.hid hf2; have E1 := Lib.hid (bw_trans (E0.out.trans ((below_box y0 (.cells #[.int .u64 0, .int .u64 0, .int .u64 0, .int .u64 0, .int .i64 0, .slice none 0 0, .slice none 0 0] 132)).mono E0.out.size)) hsb); have Q1 := K3.out.next E1.out; have S2 := Q1.cells.1; have S2a := fun c => (Q1.next (below_box y1 c)).cells.1; have Z1 := ((rblk_new y0 0 0 0 0 0 (.slice none 0 0) (.slice none 0 0)).next hsb); obtain ⟨z0, z1, z2, z3, z4, z5, z6⟩ := Z1.cells; have f0 := Z1.free 0; have f1 := Z1.free 1; have f2 := Z1.free 2; have f3 := Z1.free 3; have f4 := Z1.free 4; have f5 := Z1.free 5; have f6 := Z1.free 6; have S2p := ((((((((Q1.other y0.heap.size 0 (.int .u64 vr) (by omega)).other y0.heap.size 1 (.int .u64 vc) (by omega)).other y0.heap.size 2 (.int .u64 vb) (by omega)).other y0.heap.size 3 (.int .u64 vp) (by omega)).other y0.heap.size 4 (.int .i64 P) (by omega)).other y0.heap.size 5 (.slice ra n rcap) (by omega)).other y0.heap.size 6 (.slice oa n ocap) (by omega)).cells).1; clear Q1 hn1 hv1 hf1 hf2)
      | (go_at_call 62; (with_reducible refine (CS.out (y0) ka kcap (HI.out.next (Below.refl y0.heap.size y0)) hkc).mono ?_); rintro e y1 ⟨ra, oa, rcap, ocap, rfl, hn1, hv1, hf1, hf2, hsb⟩; have N1 := Lib.hid hn1; have V1 := Lib.hid hv1; have F1 := Lib.hid hf1; have F2 := Lib.hid hf2; have E1 := Lib.hid (bw_trans (E0.out.trans ((Below.refl y0.heap.size y0).mono E0.out.size)) hsb); have Q1 := K3.out.next E1.out; have S2 := Q1.cells.1; have S2a := fun c => (Q1.next (below_box y1 c)).cells.1; clear Q1 hn1 hv1 hf1 hf2))
    all_goals go_wp2_with fail
    all_goals go_meet
    case rel =>
      exact ⟨y1.heap.size, ra, oa, rcap, ocap, rfl, rfl, rblk_new y1 _ _ _ _ _ _ _, N1.out.next (below_box y1 _), V1.out.next (below_box y1 _), E1.out.size, fun x e => by have := F1.out x e; omega, fun x e => by have := F2.out x e; omega, bw_alloc E1.out _⟩
    case rel =>
      have kp := kp_put7 y1 y0.heap.size vr vc vb vp P (.slice ra n rcap) (.slice oa n ocap)
      have g1 : ∀ x, ra = some x → y0.heap.size < x.block := fun x e => by have := F1.out x e; rw [size_box] at this; omega
      have g2 : ∀ x, oa = some x → y0.heap.size < x.block := fun x e => by have := F2.out x e; rw [size_box] at this; omega
      exact ⟨y0.heap.size, ra, oa, rcap, ocap, rfl, rfl, Z1.set7 _ _ _ _ _ _ _, N1.out.kp kp (fun x e => by have := g1 x e; omega), V1.out.kp kp (fun x e => by have := g2 x e; omega), hs0, fun x e => by have := g1 x e; omega, fun x e => by have := g2 x e; omega, below_put7 E1.out (n := y0.heap.size) (by omega) _ _ _ _ _ _ _⟩
    case rel =>
      have kp := kp_put7 y1 U.heap.size vr vc vb vp P (.slice ra n rcap) (.slice oa n ocap)
      have g1 : ∀ x, ra = some x → U.heap.size < x.block := fun x e => by have := F1.out x e; omega
      have g2 : ∀ x, oa = some x → U.heap.size < x.block := fun x e => by have := F2.out x e; omega
      exact ⟨U.heap.size, ra, oa, rcap, ocap, rfl, rfl, Z1.set7 _ _ _ _ _ _ _, N1.out.kp kp (fun x e => by have := g1 x e; omega), V1.out.kp kp (fun x e => by have := g2 x e; omega), Nat.le_refl _, fun x e => by have := g1 x e; omega, fun x e => by have := g2 x e; omega, below_put7 E1.out (n := U.heap.size) (by omega) _ _ _ _ _ _ _⟩
  case rest =>
    obtain ⟨rb, ra, oa, rcap, ocap, rfl, rfl, hrb, hnr, hvr, hrl, hf1, hf2, hB⟩ := hcut
    have RB := Lib.hid hrb
    have NR := Lib.hid hnr
    have VR := Lib.hid hvr
    have WB := Lib.hid hB
    have HF1 := Lib.hid hf1
    have HF2 := Lib.hid hf2
    have hsw := hB.size
    have hgU : g < U.heap.size := O3.out.lt
    have BW := Lib.hid (bw_trans B3.out WB.out)
    have KW := Lib.hid (K3.out.next WB.out)
    clear hB b0 b0a S0 S0a hrb hnr hvr hf1 hf2 CS CK
    obtain ⟨k0, k1, k2, k3, k4⟩ := KW.out.cells
    have c_P := RB.out.cells.2.2.2.2.1
    go_upto_region 8 with (go_at_call 64; (with_reducible refine (CG.out _ (HR.out.next BW.out)).mono ?_); rintro e z0 ⟨rfl, hb4⟩)
    obtain ⟨WL, hWL⟩ : ∃ W, z0.alloc (.cells #[.int .i64 ga, .int .i64 gm, .int .i64 gh, .int .i64 gd] 24) = W := ⟨_, rfl⟩
    refine wp_to (W := WL) (by exact hWL.symm) ?_
    have BL := Lib.hid (show Below wc.heap.size wc WL from hWL ▸ bw_alloc hb4 _)
    have GB := Lib.hid (show TBk 24 WL z0.heap.size ga gm gh gd from hWL ▸ tbk_new _ z0 ga gm gh gd)
    have hzw := hb4.size
    have hwl := BL.out.size
    have RL := Lib.hid (RB.out.next BL.out)
    have NL := Lib.hid (NR.out.next BL.out)
    have VL := Lib.hid (VR.out.next BL.out)
    have OL := Lib.hid ((O3.out.next WB.out).next BL.out)
    have BWL := Lib.hid (bw_trans BW.out BL.out)
    have hgl := GB.out.lt
    have hrbl := RL.out.lt
    clear hb4 hWL RB NR VR WB BW KW k0 k1 k2 k3 k4 c_P BL CG O3 K3 HU
    obtain ⟨gb, hgb⟩ : ∃ gb, z0.heap.size = gb := ⟨_, rfl⟩
    rw [hgb] at GB hzw hgl ⊢
    clear hgb
    go_wp2_with fail
    go_loopw [41] (fun v wr => LInv f l n g WL v wr) (fun v _ => n - (intOf v).toNat)
    case atStart => exact ⟨0, Nat.zero_le _, rfl, by rw [cur_zero]; exact OL.out, Kp.refl _ _⟩
    case round =>
      obtain ⟨k, hk, rfl, hW, hKp⟩ := hrel
      have HW := Lib.hid hW
      have HKp := Lib.hid hKp
      have hss := hKp.size
      clear hW hKp
      by_cases hkl : k < n
      · obtain ⟨p, hx⟩ := at_some (l := l) (k := k) (by rw [HN.out]; exact hkl)
        have hki : (k : Int) < n := by omega
        have HBr := Lib.hid (HKp.out.below BWL.out (by omega) BWL.out.size)
        obtain ⟨gg, o, rfl, hgr, hcs⟩ := (HR.out.next HBr.out).at_ k _ hx
        have HCS := Lib.hid hcs
        have HX := Lib.hid hx
        clear hx hcs
        have KZ := Lib.hid (ptblk_new 78 wr zeroP)
        go_upto_region 11 with (first
          | (with_reducible refine wpList_mid rfl _ rfl _ _ rfl p HCS.out ?_)
          | (refine wpList_ptst rfl _ _ rfl _ rfl wr.heap.size rfl p zeroP rfl KZ.out ?_)
          | (refine wpList_ptst rfl _ _ rfl wr.heap.size rfl p zeroP rfl KZ.out ?_))
        obtain ⟨pb, hpb⟩ : ∃ pb, wr.heap.size = pb := ⟨_, rfl⟩
        obtain ⟨V, hV⟩ : ∃ V, (wr.alloc (.cells (cellsT zeroP) 78)).setRow wr.heap.size (cellsT p) = V := ⟨_, rfl⟩
        refine wp_to (W := V) (by exact hV.symm) ?_
        have BV := Lib.hid (show Below wr.heap.size wr V from hV ▸ below_row (below_box wr _) (Nat.le_refl _) _)
        have kp := Lib.hid (show PtBlk 78 V wr.heap.size p from hV ▸ KZ.out.row p)
        clear hV KZ HCS
        have hvs := BV.out.size
        have KpV := Lib.hid (HKp.out.grow BV.out)
        have WV := Lib.hid (HW.out.next BV.out)
        have hkn : k < (infosP l).length := by rw [infos_len, HN.out]; exact hkl
        obtain ⟨rg, ro, hra, hrg, c_role⟩ := (NL.out.kp KpV.out (fun x e => by have := HF1.out x e; omega)).at_ k _ (rolesN_at (infos_at HX.out) n (by rw [infos_len, HN.out]; exact Nat.le_refl _) hkl)
        obtain ⟨og, oo, hoa, hog, c_0, c_1, c_2, c_3⟩ := (VL.out.kp KpV.out (fun x e => by have := HF2.out x e; omega)).at_ k _ (HOF.out k _ (infos_at HX.out))
        subst hra hoa
        have hrb := RL.out.kp KpV.out (by omega)
        have htb := GB.out.kp KpV.out (by omega)
        have hne : ¬ g = pb := by omega
        rw [hpb] at kp ⊢
        have hpw : WL.heap.size ≤ pb := by omega
        clear hpb
        obtain ⟨sel, hsel⟩ : ∃ s, roleAt i (infosP l) k (infP p) = s := ⟨_, rfl⟩
        rw [hsel] at c_role
        have C0 : ChW pb rb gb rg ro og oo n k rcap ocap p sel vr vc i p.id ga gm gh gd V := ⟨kp.out, hrb.cells.2.2.2.2.2.1, hrb.cells.2.2.2.2.2.2, c_role, c_0, c_1, c_2, c_3, htb⟩
        have hFX := HF.out k p HX.out
        rw [hsel] at hFX
        obtain ⟨X, hX⟩ : ∃ X, f k p = X := ⟨_, rfl⟩
        have hXc : ({ choP sel ⟨vr, vc, i, p.id⟩ ⟨ga, gm, gh, gd⟩ p with update := mustB (choP sel ⟨vr, vc, i, p.id⟩ ⟨ga, gm, gh, gd⟩ p) } : Pt) = X := hFX.symm.trans hX
        have HXC := Lib.hid hXc
        have HCur := Lib.hid (cur_set (f := f) HX.out)
        rw [hX] at HCur
        have hkc : k < (curL f l k).length := by rw [cur_len, HN.out]; exact hkl
        have hpl := kp.out.lt
        clear hXc hX hFX hsel c_role c_0 c_1 c_2 c_3 hrb htb HW HKp
        have CH := Lib.hid (fun w' => choose_hands_w sel vr vc i p.id ga gm gh gd w')
        have CD := Lib.hid (fun (w' : World) (gx sb ob tb cap : Nat) (T : TypeId) (hrow : w'.heap[gx]? = some (.cells #[.func (.func 108) #[] #[.pointer (some ⟨sb, 0, none⟩), .pointer (some ⟨ob, 0, none⟩), .pointer (some ⟨tb, 0, none⟩)]] T (0, 0))) (a1 : One 3 w' sb (.int .i64 sel)) (a2 : Blk 47 w' ob ⟨vr, vc, i, p.id⟩) (a3 : TBk 24 w' tb ga gm gh gd) =>
          behind1_w _ _ p _ T gx cap w' hrow (does_choose w' sb ob tb p X sel ⟨vr, vc, i, p.id⟩ ⟨ga, gm, gh, gd⟩ a1 a2 a3 HXC))
        unfold vv tv at CH
        have hk0 : (0 : Int) ≤ (k : Int) := by omega

        refine wp_region_held_drew (S := fun V => ChW pb rb gb rg ro og oo n k rcap ocap p sel vr vc i p.id ga gm gh gd V) (by kernel_rfl) (C0.next (Below.refl _ _).drew) (fun hHeld => ?_)
        try simp only [Act.put, List.getElem_toArray, List.getElem_cons_succ, List.getElem_cons_zero, List.setIfInBounds_toArray, List.set_cons_zero, List.set_cons_succ]
        refine wpAnyH_take (i := 0) (v := .slice (some ⟨g, 0, none⟩) n cap') rfl (by kernel_rfl) (by kernel_rfl) (by kernel_rfl) (fun _ _ _ h => h) (yieldsIf_move (by rfl) _ rfl _ rfl) hHeld ?_
        try simp only [Act.put, List.getElem_toArray, List.getElem_cons_succ, List.getElem_cons_zero, List.setIfInBounds_toArray, List.set_cons_zero, List.set_cons_succ]
        refine wpAnyH_take (i := 1) (v := .int .i64 (k : Nat)) rfl (by kernel_rfl) (by kernel_rfl) (by kernel_rfl) (fun _ _ _ h => h) (yieldsIf_move (by rfl) _ rfl _ rfl) hHeld ?_
        try simp only [Act.put, List.getElem_toArray, List.getElem_cons_succ, List.getElem_cons_zero, List.setIfInBounds_toArray, List.set_cons_zero, List.set_cons_succ]
        refine wpAnyH_take (i := 2) (v := .agg (cellsT p)) rfl (by kernel_rfl) (by kernel_rfl) (by kernel_rfl) (fun _ _ _ h => h) (yieldsIf_run (by rfl) 78 _ rfl ⟨pb, 0, none⟩ rfl _ (fun V h => h.pt.loadAt)) hHeld ?_
        try simp only [Act.put, List.getElem_toArray, List.getElem_cons_succ, List.getElem_cons_zero, List.setIfInBounds_toArray, List.set_cons_zero, List.set_cons_succ]
        refine wpAnyH_take (i := 3) (v := .pointer (some ⟨rb, 5, none⟩)) rfl (by kernel_rfl) (by kernel_rfl) (by kernel_rfl) (fun _ _ _ h => h) (Or.inl ⟨by rfl, fun V h => by go_simp⟩) hHeld ?_
        try simp only [Act.put, List.getElem_toArray, List.getElem_cons_succ, List.getElem_cons_zero, List.setIfInBounds_toArray, List.set_cons_zero, List.set_cons_succ]
        refine wpAnyH_take (i := 4) (v := .slice (some ⟨rg, ro, none⟩) n rcap) rfl (by kernel_rfl) (by kernel_rfl) (by kernel_rfl) (fun _ _ _ h => h) (Or.inl ⟨by rfl, fun V h => by have h5 := h.rs; go_simp⟩) hHeld ?_
        try simp only [Act.put, List.getElem_toArray, List.getElem_cons_succ, List.getElem_cons_zero, List.setIfInBounds_toArray, List.set_cons_zero, List.set_cons_succ]
        refine wpAnyH_take (i := 5) (v := .int .i64 (k : Nat)) rfl (by kernel_rfl) (by kernel_rfl) (by kernel_rfl) (fun _ _ _ h => h) (yieldsIf_move (by rfl) _ rfl _ rfl) hHeld ?_
        try simp only [Act.put, List.getElem_toArray, List.getElem_cons_succ, List.getElem_cons_zero, List.setIfInBounds_toArray, List.set_cons_zero, List.set_cons_succ]
        refine wpAnyH_take (i := 6) (v := .pointer (some ⟨rg, ro + k, none⟩)) rfl (by kernel_rfl) (by kernel_rfl) (by kernel_rfl) (fun _ _ _ h => h) (Or.inl ⟨by rfl, fun V h => by go_simp⟩) hHeld ?_
        try simp only [Act.put, List.getElem_toArray, List.getElem_cons_succ, List.getElem_cons_zero, List.setIfInBounds_toArray, List.set_cons_zero, List.set_cons_succ]
        refine wpAnyH_take (i := 7) (v := .int .i64 sel) rfl (by kernel_rfl) (by kernel_rfl) (by kernel_rfl) (fun _ _ _ h => h) (Or.inl ⟨by rfl, fun V h => by have h5 := h.role; go_simp⟩) hHeld ?_
        try simp only [Act.put, List.getElem_toArray, List.getElem_cons_succ, List.getElem_cons_zero, List.setIfInBounds_toArray, List.set_cons_zero, List.set_cons_succ]
        refine wpAnyH_take (i := 8) (v := .pointer (some ⟨rb, 6, none⟩)) rfl (by kernel_rfl) (by kernel_rfl) (by kernel_rfl) (fun _ _ _ h => h) (Or.inl ⟨by rfl, fun V h => by go_simp⟩) hHeld ?_
        try simp only [Act.put, List.getElem_toArray, List.getElem_cons_succ, List.getElem_cons_zero, List.setIfInBounds_toArray, List.set_cons_zero, List.set_cons_succ]
        refine wpAnyH_take (i := 9) (v := .slice (some ⟨og, oo, none⟩) n ocap) rfl (by kernel_rfl) (by kernel_rfl) (by kernel_rfl) (fun _ _ _ h => h) (Or.inl ⟨by rfl, fun V h => by have h5 := h.os; go_simp⟩) hHeld ?_
        try simp only [Act.put, List.getElem_toArray, List.getElem_cons_succ, List.getElem_cons_zero, List.setIfInBounds_toArray, List.set_cons_zero, List.set_cons_succ]
        refine wpAnyH_take (i := 10) (v := .int .i64 (k : Nat)) rfl (by kernel_rfl) (by kernel_rfl) (by kernel_rfl) (fun _ _ _ h => h) (yieldsIf_move (by rfl) _ rfl _ rfl) hHeld ?_
        try simp only [Act.put, List.getElem_toArray, List.getElem_cons_succ, List.getElem_cons_zero, List.setIfInBounds_toArray, List.set_cons_zero, List.set_cons_succ]
        refine wpAnyH_take (i := 11) (v := .pointer (some ⟨og, oo + k * 4, none⟩)) rfl (by kernel_rfl) (by kernel_rfl) (by kernel_rfl) (fun _ _ _ h => h) (Or.inl ⟨by rfl, fun V h => by go_simp⟩) hHeld ?_
        try simp only [Act.put, List.getElem_toArray, List.getElem_cons_succ, List.getElem_cons_zero, List.setIfInBounds_toArray, List.set_cons_zero, List.set_cons_succ]
        refine wpAnyH_take (i := 12) (v := vv vr vc i p.id) rfl (by kernel_rfl) (by kernel_rfl) (by kernel_rfl) (fun _ _ _ h => h) (Or.inl ⟨by rfl, fun V h => by (have h0 := h.v0); (have h1 := h.v1); (have h2 := h.v2); (have h3 := h.v3); go_simp⟩) hHeld ?_
        try simp only [Act.put, List.getElem_toArray, List.getElem_cons_succ, List.getElem_cons_zero, List.setIfInBounds_toArray, List.set_cons_zero, List.set_cons_succ]
        refine wpAnyH_take (i := 13) (v := tv ga gm gh gd) rfl (by kernel_rfl) (by kernel_rfl) (by kernel_rfl) (fun _ _ _ h => h) (yieldsIf_run (by rfl) 24 _ rfl ⟨gb, 0, none⟩ rfl _ (fun V h => h.tm.loadAt)) hHeld ?_
        try simp only [Act.put, List.getElem_toArray, List.getElem_cons_succ, List.getElem_cons_zero, List.setIfInBounds_toArray, List.set_cons_zero, List.set_cons_succ]
        try simp only [Act.put, List.getElem_toArray, List.getElem_cons_succ, List.getElem_cons_zero, List.setIfInBounds_toArray, List.set_cons_zero, List.set_cons_succ]
        unfold vv tv
        refine wpAnyH_ready (rs := [14]) (by kernel_rfl) (by simp) ?_
        refine AllReadyH.cons rfl (fun K hK => ?_) AllReadyH.nil
        go_simp
        (with_reducible refine (CH.out _).mono ?_)
        rintro e y0 ⟨rfl, hs1, ho1, hg1, hb0⟩
        have HS1 := Lib.hid hs1
        have HO1 := Lib.hid ho1
        have HG1 := Lib.hid hg1
        have BY := Lib.hid (show Below V.heap.size V y0 from (Below.refl V.heap.size V).drew.trans hb0)
        clear hHeld hs1 ho1 hg1 hb0
        go_simp
        refine hK.out _ _ (C0.next BY.out) (fun hHeld => ?_)
        clear hK
        try simp only [Act.put, List.getElem_toArray, List.getElem_cons_succ, List.getElem_cons_zero, List.setIfInBounds_toArray, List.set_cons_zero, List.set_cons_succ]
        refine wpAnyH_ready (rs := [15]) (by kernel_rfl) (by simp) ?_
        refine AllReadyH.cons rfl (fun K hK => ?_) AllReadyH.nil
        go_simp
        have Z := fun c => below_box y0 c
        refine hK.out _ _ ((C0.next BY.out).next (Z _)) (fun hHeld => ?_)
        clear hK
        try simp only [Act.put, List.getElem_toArray, List.getElem_cons_succ, List.getElem_cons_zero, List.setIfInBounds_toArray, List.set_cons_zero, List.set_cons_succ]
        refine wpAnyH_ready (rs := [16]) (by kernel_rfl) (by simp) ?_
        refine AllReadyH.cons rfl (fun K hK => ?_) AllReadyH.nil
        go_simp
        refine (CD.out _ _ _ _ _ _ _ (heap_alloc_new y0 _) (HS1.out.next (Z _)) (HO1.out.next (Z _)) (HG1.out.next (Z _))).mono ?_
        rintro e y2 ⟨rfl, hb2⟩
        have BY2 := Lib.hid (bw_trans BY.out (bw_trans (Z _) hb2))
        clear hHeld hb2 Z
        go_simp
        refine hK.out _ _ (C0.next BY2.out) (fun hHeld => ?_)
        clear hK
        try simp only [Act.put, List.getElem_toArray, List.getElem_cons_succ, List.getElem_cons_zero, List.setIfInBounds_toArray, List.set_cons_zero, List.set_cons_succ]
        refine wpAnyH_ready (rs := [17]) (by kernel_rfl) (by simp) ?_
        refine AllReadyH.cons rfl (fun K hK => ?_) AllReadyH.nil
        go_simp
        refine hK.out _ _ (C0.next BY2.out) (fun hHeld => ?_)
        clear hK
        try simp only [Act.put, List.getElem_toArray, List.getElem_cons_succ, List.getElem_cons_zero, List.setIfInBounds_toArray, List.set_cons_zero, List.set_cons_succ]
        refine wpAnyH_ready (rs := [18]) (by kernel_rfl) (by simp) ?_
        refine AllReadyH.cons rfl (fun K hK => ?_) AllReadyH.nil
        have WY := Lib.hid (WV.out.next BY2.out)
        have st := WY.out.stores hkc X
        have szX := cellsT_size X
        have hys := BY2.out.size
        go_simp
        refine hK.out _ _ ((C0.next BY2.out).kp (kp_setCells _ _ _ (Kp.refl g y2)) (by omega) (by omega) ?_ ?_ (by omega)) (fun hHeld => ?_)
        · exact fun e => by have := HF1.out _ rfl; simp only at this; omega
        · exact fun e => by have := HF2.out _ rfl; simp only at this; omega
        refine wpAnyH_done (by kernel_rfl) ?_ _
        have WZ := Lib.hid (HCur.out ▸ WY.out.set hkc X)
        have KZ2 := Lib.hid (kp_setCells (cellsT X).toList (k * 61) _ (KpV.out.grow BY2.out))
        clear hK hHeld st C0
        try simp only [Act.put, List.getElem_toArray, List.getElem_cons_succ, List.getElem_cons_zero, List.setIfInBounds_toArray, List.set_cons_zero, List.set_cons_succ]
        go_wp2_with fail
        have hl1000 : n ≤ 1000 := by rw [← HN.out]; exact HL.out
        have hw1 : wrap64 ((k : Int) + 1) = ((k + 1 : Nat) : Int) := (IntWalk.wrap64_in ((k : Int) + 1) ⟨by omega, by omega⟩).trans (by omega)
        have hk1 : k + 1 ≤ n := hkl
        have hLI : LInv f l n g WL (.int .i64 ((k + 1 : Nat) : Int)) (y2.setCells g (k * 61) (cellsT X).toList) := ⟨k + 1, hk1, rfl, WZ.out, KZ2.out⟩
        have hm1 : (intOf (Value.int .i64 ((k + 1 : Nat) : Int))).toNat = k + 1 := intOf_nat (k + 1)
        have hm2 : (intOf (Value.int .i64 (k : Int))).toNat = k := intOf_nat k
        have hms : n - (k + 1) < n - k := Nat.sub_lt_sub_left hkl (Nat.lt_succ_self k)
        refine ⟨⟨_, _, _, hLI, rfl, rfl, congrArg _ hw1⟩, ?_⟩
        rw [hw1, hm1, hm2]
        exact hms
      · obtain rfl : k = n := by omega
        have HF9 := Lib.hid (HKp.out.below BWL.out (by omega) BWL.out.size)
        have e9 : curL f l k = l.mapIdx f := by rw [← HN.out]; exact cur_all f l
        rw [e9] at HW
        go_wp2
        go_ret2
        exact ⟨_, cap', rfl, hcap, HW.out.row, HF9.out⟩
end Go.Proofs.YtldobcfejldbiaaGreatDoor
