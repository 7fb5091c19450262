/-
  Layer 11: Choose, where layer 8 refuses what it is told.
-/
import Derived.Test.YtojfmnndfophhaaGreatInR
import Derived.Test.YtojfmnndfophhaaGreatRoS
namespace Go.Proofs.YtojfmnndfophhaaGreat
set_option linter.unusedVariables false
set_option linter.unusedSimpArgs false
open Go.RowKit Vm Rm Bm Im

theorem BrBlk.other {w : World} {b : Nat} {i a m h d : Int} (H : BrBlk w b i a m h d) (c j : Nat) (v : Value) (hne : b ≠ c) : BrBlk (w.setCell ⟨c, j, none⟩ v) b i a m h d := (Below.heap_setCell w ⟨c, j, none⟩ v b hne).trans H

set_option maxRecDepth 20000 in
set_option maxHeartbeats 4000000 in
theorem choose_refused_w (i a m h d : Int) (ad : Option Addr) (cap : Nat) (l : List Pt) (w : World) (hr : PRow w ad l) (hok : ∀ p ∈ l, PtOk p) (hl : l.length ≤ 1000) (hb : rightBr ⟨a, m, h, d⟩ = true) (hany : l.any Pt.reselect = true) (hno : rightR (infosP l) = false) :
    Calls Tryz.prog 18 #[brv i a m h d, .slice ad l.length cap] w fun e w' => Out w w' l.length l false e := by
  have K0 := Lib.hid (show BrBlk (w.alloc (.cells (bcl i a m h d) 26)) w.heap.size i a m h d from heap_alloc_new w _)
  have B0 := Lib.hid (below_box w (.cells (bcl i a m h d) 26))
  have CC := Lib.hid (clone_w ad cap l _ (hr.next B0.out) hl)
  obtain ⟨n, hn⟩ : ∃ n, l.length = n := ⟨_, rfl⟩
  have HR := Lib.hid hr
  have HL := Lib.hid hl
  have CB := Lib.hid (fun w' => brRight_w i a m h d true w' (Lib.hid hb))
  have CA := Lib.hid (fun w' (hp : PRow w' ad l) => containsP_w ad cap l true w' hp HL.out (Lib.hid hany))
  have CK := Lib.hid (fun w' (hp : PRow w' ad l) => known_w ad cap l w' hp hok HL.out)
  have CS := Lib.hid (fun w' (a' : Option Addr) (cap' : Nat) (h : IRow w' a' (infosP l)) (hc : l.length ≤ cap') => by
    have := select_bad i a' cap' (infosP l) w' h (by rw [infos_len]; exact HL.out) (by rw [infos_len]; exact hc) (Lib.hid hno)
    rw [infos_len] at this
    exact this)
  rw [hn] at CC CA CK CS ⊢
  clear hr hl hn hok hb hany hno
  unfold brv
  go_enter Tryz.func18, Tryz.ntmps18
  go_wp2_with fail
  (with_reducible refine CC.out.mono ?_)
  rintro e w1 ⟨a', cap', rfl, hcap, hown, hb1⟩
  have B1 := Lib.hid (bw_trans B0.out hb1)
  have K1 := Lib.hid (K0.out.next hb1)
  have O1 := Lib.hid (own_prow hown)
  obtain ⟨k0, k1, k2, k3, k4⟩ := K1.out.cells
  clear hb1 hown CC B0 K0
  go_upto_region 4 with (first
    | (go_at_call 20; (with_reducible refine (CB.out _).mono ?_); rintro e w2 ⟨rfl, hb2⟩; have B2 := Lib.hid (bw_trans B1.out hb2); have K2 := Lib.hid (K1.out.next hb2); have O2 := Lib.hid (O1.out.next hb2); clear hb2 k0 k1 k2 k3 k4)
    | (go_at_call 27; (with_reducible refine (CA.out _ (HR.out.next B2.out)).mono ?_); rintro e U ⟨rfl, hb3⟩; have B3 := Lib.hid (bw_trans B2.out hb3); have K3 := Lib.hid (K2.out.next hb3); have O3 := Lib.hid (O2.out.next hb3); clear hb3 B1 B2 K1 K2 O1 O2 CB CA))
  have HU := Lib.hid (HR.out.next B3.out)
  have b0 := (Below.refl U.heap.size U).drew
  have b0a := fun c => (bw_alloc (Below.refl U.heap.size U) c).drew
  have S0 := (show BrBlk U.drew w.heap.size i a m h d from K3.out).cells.1
  have S0a := fun c => (show BrBlk (U.alloc c).drew w.heap.size i a m h d from (K3.out.next (below_box U c) : BrBlk (U.alloc c) w.heap.size i a m h d)).cells.1
  have hbU : w.heap.size < U.heap.size := K3.out.lt
  go_cut [7, 8] (fun u7 u8 wx => u8 = .int .i64 2 ∧ Below U.heap.size U wx)
  case first =>
    go_region_held3 (fun V => V.cell? ⟨w.heap.size, 0, none⟩ = some (.int .u64 i)) (first | (with_reducible exact S0) | (with_reducible exact S0a _) | (with_reducible exact S1) | (with_reducible exact S1a _) | (with_reducible exact S2) | (with_reducible exact S2a _) | (with_reducible exact S2p)) (first
      | (go_at_call 30; (with_reducible refine (CK.out ((U.alloc (.cells #[.int .u64 0, .int .u64 0, .int .u64 0, .int .u64 0, .int .i64 0, .slice none 0 0, .slice none 0 0] 64)).drew) (HU.out.next (b0a _))).mono ?_); rintro e y0 ⟨ka, kcap, rfl, hkc, hki, hkb⟩; have E0 := Lib.hid (bw_trans (b0a _) hkb); have hs0 := E0.out.size; have HI := Lib.hid hki; have Q0 := K3.out.next E0.out; have S1 := Q0.cells.1; have S1a := fun c => (Q0.next (below_box y0 c)).cells.1; have ZA := Lib.hid ((show RBlk (U.alloc (.cells #[.int .u64 0, .int .u64 0, .int .u64 0, .int .u64 0, .int .i64 0, .slice none 0 0, .slice none 0 0] 64)).drew U.heap.size 0 0 0 0 0 (.slice none 0 0) (.slice none 0 0) from rblk_new U 0 0 0 0 0 (.slice none 0 0) (.slice none 0 0)).next hkb); have hzA : U.heap.size < y0.heap.size := ZA.out.lt; clear Q0 hki hkb)
      | (go_at_call 30; (with_reducible refine (CK.out (U.drew) (HU.out.next (b0))).mono ?_); rintro e y0 ⟨ka, kcap, rfl, hkc, hki, hkb⟩; have E0 := Lib.hid (bw_trans (b0) hkb); have hs0 := E0.out.size; have HI := Lib.hid hki; have Q0 := K3.out.next E0.out; have S1 := Q0.cells.1; have S1a := fun c => (Q0.next (below_box y0 c)).cells.1; clear Q0 hki hkb)
      | (go_at_call 29; (with_reducible refine (CS.out (y0) ka kcap (HI.out.next (Below.refl y0.heap.size y0)) hkc).mono ?_); rintro e y1 ⟨rfl, hsb⟩; have E1 := Lib.hid (bw_trans (E0.out.trans ((Below.refl y0.heap.size y0).mono E0.out.size)) hsb); have Q1 := K3.out.next E1.out; have S2 := Q1.cells.1; have S2a := fun c => (Q1.next (below_box y1 c)).cells.1; have Z1 := ZA.out.next hsb; obtain ⟨z0, z1, z2, z3, z4, z5, z6⟩ := Z1.cells; have f0 := Z1.free 0; have f1 := Z1.free 1; have f2 := Z1.free 2; have f3 := Z1.free 3; have f4 := Z1.free 4; have f5 := Z1.free 5; have f6 := Z1.free 6; have S2p := ((((((((Q1.other U.heap.size 0 (.int .u64 0) (by omega)).other U.heap.size 1 (.int .u64 0) (by omega)).other U.heap.size 2 (.int .u64 0) (by omega)).other U.heap.size 3 (.int .u64 0) (by omega)).other U.heap.size 4 (.int .i64 0) (by omega)).other U.heap.size 5 (.slice none 0 0) (by omega)).other U.heap.size 6 (.slice none 0 0) (by omega)).cells).1; clear Q1)
      | (go_at_call 29; (with_reducible refine (CS.out (y0.alloc (.cells #[.int .u64 0, .int .u64 0, .int .u64 0, .int .u64 0, .int .i64 0, .slice none 0 0, .slice none 0 0] 64)) ka kcap (HI.out.next (below_box y0 (.cells #[.int .u64 0, .int .u64 0, .int .u64 0, .int .u64 0, .int .i64 0, .slice none 0 0, .slice none 0 0] 64))) hkc).mono ?_); rintro e y1 ⟨rfl, hsb⟩; have E1 := Lib.hid (bw_trans (E0.out.trans ((below_box y0 (.cells #[.int .u64 0, .int .u64 0, .int .u64 0, .int .u64 0, .int .i64 0, .slice none 0 0, .slice none 0 0] 64)).mono E0.out.size)) hsb); have Q1 := K3.out.next E1.out; have S2 := Q1.cells.1; have S2a := fun c => (Q1.next (below_box y1 c)).cells.1; have Z1 := ((rblk_new y0 0 0 0 0 0 (.slice none 0 0) (.slice none 0 0)).next hsb); obtain ⟨z0, z1, z2, z3, z4, z5, z6⟩ := Z1.cells; have f0 := Z1.free 0; have f1 := Z1.free 1; have f2 := Z1.free 2; have f3 := Z1.free 3; have f4 := Z1.free 4; have f5 := Z1.free 5; have f6 := Z1.free 6; have S2p := ((((((((Q1.other y0.heap.size 0 (.int .u64 0) (by omega)).other y0.heap.size 1 (.int .u64 0) (by omega)).other y0.heap.size 2 (.int .u64 0) (by omega)).other y0.heap.size 3 (.int .u64 0) (by omega)).other y0.heap.size 4 (.int .i64 0) (by omega)).other y0.heap.size 5 (.slice none 0 0) (by omega)).other y0.heap.size 6 (.slice none 0 0) (by omega)).cells).1; clear Q1)
      | (go_at_call 29; (with_reducible refine (CS.out (y0) ka kcap (HI.out.next (Below.refl y0.heap.size y0)) hkc).mono ?_); rintro e y1 ⟨rfl, hsb⟩; have E1 := Lib.hid (bw_trans (E0.out.trans ((Below.refl y0.heap.size y0).mono E0.out.size)) hsb); have Q1 := K3.out.next E1.out; have S2 := Q1.cells.1; have S2a := fun c => (Q1.next (below_box y1 c)).cells.1; clear Q1))
    all_goals go_wp2_with fail
    all_goals go_meet
    all_goals refine ⟨rfl, ?_⟩
    all_goals first | (with_reducible exact bw_alloc E1.out _) | (with_reducible exact below_put7 E1.out (n := y0.heap.size) (by omega) _ _ _ _ _ _ _) | (with_reducible exact below_put7 E1.out (n := U.heap.size) (by omega) _ _ _ _ _ _ _)
  case rest =>
    obtain ⟨rfl, hB⟩ := hcut
    have HB := Lib.hid hB
    clear hB b0 b0a S0 S0a
    go_wp2
    go_ret2
    exact ⟨a', cap', rfl, hcap, O3.out.next HB.out, bw_trans B3.out HB.out⟩
end Go.Proofs.YtojfmnndfophhaaGreat
