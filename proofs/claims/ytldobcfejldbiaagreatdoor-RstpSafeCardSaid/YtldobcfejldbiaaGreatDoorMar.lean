/-
  Layer 12: the table of 0, 3 and 4.
  Layer 12: moves; moveIn.
  Layer 12: State; Move.
-/
import Derived.Test.YtldobcfejldbiaaGreatDoorMaq
import Derived.Test.YtldobcfejldbiaaGreatDoorMap
import Derived.Laws.EntriesVeiled
namespace Go.Proofs.YtldobcfejldbiaaGreatDoor
set_option linter.unusedVariables false
set_option linter.unusedSimpArgs false
open Go.RowKit Vm Rm Bm Im

theorem first_block (t : Tm) (so : Bool) (p : Pt) (a1 d1 a2 d2 a3 d3 a4 d4 : Fv) :
    firstM [⟨a1, d1, ((p.role != 0) && (stillB p && propB p)), ⟨{ p with proposed := false }, true, false⟩⟩, ⟨a2, d2, ((p.role != 0) && agreesB so p), ⟨{ p with proposed := false, agree := true, newInfo := true }, false, false⟩⟩,
      ⟨a3, d3, (stillB p && (!decide (p.fd = heldI t p) || (p.sync || (p.reroot || !p.synced)))), ⟨{ p with fd := heldI t p, synced := true, rr := 0, sync := false, reroot := false }, false, false⟩⟩, ⟨a4, d4, (decide (p.role = 4) && !decide (p.rb = 2 * t.hello)), ⟨{ p with rb := 2 * t.hello }, false, false⟩⟩] = blockF t so p := by
  unfold blockF
  exact first_if (first_if (first_if (first_if rfl)))
theorem SBk.far {w : World} {b c : Nat} {t : Tm} {g n cap k q : Nat} (h : SBk w b t g n cap k q) (hne : b ≠ c) (v : Value) : SBk (w.setCell ⟨c, 0, none⟩ v) b t g n cap k q := h.same (Below.heap_setCell w ⟨c, 0, none⟩ v b hne)
theorem seatS {w : World} {b : Nat} {t : Tm} {g n cap k q : Nat} (h : SBk w b t g n cap k q) : w.cell? ⟨b, 0, none⟩ = some (.int .i64 t.age) ∧ w.cell? ⟨b, 1, none⟩ = some (.int .i64 t.max) ∧ w.cell? ⟨b, 2, none⟩ = some (.int .i64 t.hello) ∧ w.cell? ⟨b, 3, none⟩ = some (.int .i64 t.delay) ∧ w.cell? ⟨b, 4, none⟩ = some (.slice (some ⟨g, 0, none⟩) n cap) ∧ w.cell? ⟨b, 5, none⟩ = some (.int .i64 ((k : Nat) : Int)) ∧ w.cell? ⟨b, 6, none⟩ = some (.pointer (some ⟨g, q, none⟩)) := h.cells
set_option maxRecDepth 20000 in
set_option maxHeartbeats 1000000 in
theorem ofBlocked_w (t : Tm) (g n cap k q : Nat) (l : List Pt) (p : Pt) (w : World) (hr : WRow w g l) (hn : l.length = n) (hl : n ≤ 1000) (hp : l[k]? = some p) (hq : k * 61 = q) (hh : 0 ≤ t.hello ∧ t.hello ≤ 1000) :
    Calls Tryz.prog 212 #[sv t g n cap k q] w fun e w' => Made w w' g l k (blockF t (othersB syncedO l k) p) e := by
  obtain ⟨W, V, sb, HW, HS, HV, HWs, HVs, k0, hS, hB⟩ := twoS_is t g n cap k q l p w hr hn hl hp hq
  obtain ⟨s0, s1, s2, s3, s4, s5, s6⟩ := k0.cells
  have SS := Lib.hid hS
  have BB := Lib.hid hB
  have HGL := Lib.hid hr.lt
  have c_pb := hS.pk.cell
  have c_role := hS.pat.c_role
  have hm : IntKind.i64.wrap (2 * t.hello) = 2 * t.hello := by rw [IntKind.wrap_i64]; omega
  obtain ⟨H, hH⟩ : ∃ H, (p.role != 0) = H := ⟨_, rfl⟩
  have HH := Lib.hid hH
  clear hr hn hl hp hq k0 hS hB hh
  unfold sv scl
  go_enter Tryz.func212, Tryz.ntmps212
  go_upto_region 1 with (fail)
  refine wp_to (W := W) (by exact HW.out.symm) ?_
  rw [HS.out]
  go_upto_region 2 with (fail)
  refine wp_to (W := V) (by exact HV.out.symm) ?_
  rw [HWs.out]
  go_upto_region 3 with (fail)
  obtain ⟨U, hU⟩ : ∃ U, V.alloc (.cells #[.bool H] 4) = U := ⟨_, rfl⟩
  refine wp_to (W := U) (by exact hU.symm) ?_
  have BU := Lib.hid (show Below V.heap.size V U from hU ▸ below_box V _)
  have KH := Lib.hid (show One 4 U (sb + 2) (.bool H) from by rw [← HVs.out, ← hU]; exact heap_alloc_new V _)
  have hUs : U.heap.size = sb + 3 := by rw [← hU, size_box, HVs.out]
  have SU := Lib.hid (SS.out.next BU.out)
  rw [HVs.out]
  clear hU s0 s1 s2 s3 s4 s5 s6
  obtain ⟨s0, s1, s2, s3, s4, s5, s6⟩ := SU.out.sk.cells
  obtain ⟨N, hN⟩ : ∃ N, heldI t p = N := ⟨_, rfl⟩
  have CH := Lib.hid (fun w' (h : PAt w' g q p) => heldFd_w t g n cap k q p N w' h (Lib.hid hN))
  have HN := Lib.hid hN
  clear hN
  unfold sv scl at CH
  go_cut [5, 6] (fun u5 u6 wx => ∃ hd bu : Nat, u5 = .pointer (some ⟨hd, 0, none⟩) ∧ u6 = .pointer (some ⟨bu, 0, none⟩) ∧ One 3 wx hd (.int .i64 N) ∧ One 3 wx bu (.int .i64 (2 * t.hello)) ∧ sb + 3 ≤ hd ∧ sb + 3 ≤ bu ∧ Below U.heap.size U wx)
  case first =>
    have HUU := Lib.hid (show sb ≠ U.heap.size by omega)
    have HUV := Lib.hid (show sb ≠ U.heap.size + 1 by omega)
    have ES := Lib.hid (fun w' (h : SBk w' sb t g n cap k q) => seatS h)
    have PS := Lib.hid SU.out.pat
    have KS := Lib.hid SU.out.sk
    have HU := Lib.hid hUs
    have bA := fun c => below_box U c
    have bAA := fun c d => bw_alloc (below_box U c) d
    have P0 := Lib.hid (show PAt U.drew g q p from ⟨PS.out.lt, PS.out.at_, PS.out.free⟩)
    have P1 := Lib.hid (fun c => (show PAt (U.alloc c).drew g q p from ⟨(PS.out.next (bA c)).lt, (PS.out.next (bA c)).at_, (PS.out.next (bA c)).free⟩))
    have P2 := Lib.hid (fun c d => (show PAt ((U.alloc c).alloc d).drew g q p from ⟨(PS.out.next (bAA c d)).lt, (PS.out.next (bAA c d)).at_, (PS.out.next (bAA c d)).free⟩))
    have S0 := Lib.hid (ES.out U.drew KS.out)
    have A1 := fun c => KS.out.next (bA c)
    have A2 := fun c d => KS.out.next (bAA c d)
    have S1 := Lib.hid (fun c => ES.out (U.alloc c).drew (A1 c))
    have S2 := Lib.hid (fun c d => ES.out ((U.alloc c).alloc d).drew (A2 c d))
    clear A1 A2
    clear SU PS bA bAA hUs s0 s1 s2 s3 s4 s5 s6 SS BB BU KH HS HV HW HWs c_pb c_role HN HH HGL
    go_region_held3 (fun V => V.cell? ⟨sb, 0, none⟩ = some (.int .i64 t.age) ∧ V.cell? ⟨sb, 1, none⟩ = some (.int .i64 t.max) ∧ V.cell? ⟨sb, 2, none⟩ = some (.int .i64 t.hello) ∧ V.cell? ⟨sb, 3, none⟩ = some (.int .i64 t.delay) ∧ V.cell? ⟨sb, 4, none⟩ = some (.slice (some ⟨g, 0, none⟩) n cap) ∧ V.cell? ⟨sb, 5, none⟩ = some (.int .i64 ((k : Nat) : Int)) ∧ V.cell? ⟨sb, 6, none⟩ = some (.pointer (some ⟨g, q, none⟩))) (first | (with_reducible exact S0.out) | (with_reducible exact S1.out _) | (with_reducible exact S2.out _ _) | (with_reducible exact T0.out) | (with_reducible exact T1.out _) | (with_reducible exact T2.out _ _) | (with_reducible exact T2.out _) | (with_reducible exact T3.out _) | (with_reducible exact T3.out _ _) | (with_reducible exact T4.out _ _) | (with_reducible exact T5.out _ _) | (with_reducible exact T6.out _ _ _) | (with_reducible exact T7.out _ _ _) | (with_reducible exact T8.out _ _)) (first
      | (go_at_call 228; (with_reducible refine (CH.out _ P0.out).mono ?_); rintro e y0 ⟨rfl, hb⟩; have YB := Lib.hid hb; have K1 := (show SBk U.drew sb t g n cap k q from KS.out).next hb; have T0 := Lib.hid (ES.out _ K1); have T1 := Lib.hid (fun c => ES.out _ (K1.next (below_box y0 c))); have T2 := Lib.hid (fun c d => ES.out _ (K1.next (bw_alloc (below_box y0 c) d))); clear K1 hb)
      | (go_at_call 228; (with_reducible refine (CH.out _ (P1.out _)).mono ?_); rintro e y0 ⟨rfl, hb⟩; have YB := Lib.hid hb; have K1 := (show SBk (U.alloc (.cells #[.int .i64 0] 3)).drew sb t g n cap k q from (KS.out.next (below_box U _) : SBk (U.alloc (.cells #[.int .i64 0] 3)) sb t g n cap k q)).next hb; have Z1 := (show One 3 (U.alloc (.cells #[.int .i64 0] 3)).drew U.heap.size (.int .i64 0) from heap_alloc_new U _).next hb; have c_z := Z1.cell; have f_z := Z1.free; have c_z2 := fun c => (Z1.next (below_box y0 c)).cell; have f_z2 := fun c => (Z1.next (below_box y0 c)).free; have n_z : ¬ U.heap.size = y0.heap.size := Nat.ne_of_lt Z1.lt; have n_z2 : ¬ y0.heap.size = U.heap.size := Nat.ne_of_gt Z1.lt; have ZZ := Lib.hid Z1; have T0 := Lib.hid (ES.out _ K1); have T1 := Lib.hid (fun c => ES.out _ (K1.next (below_box y0 c))); have T2 := Lib.hid (fun c d => ES.out _ (K1.next (bw_alloc (below_box y0 c) d))); have T3 := Lib.hid (fun x => ES.out _ (K1.far HUU.out x)); have T4 := Lib.hid (fun x c => ES.out _ ((K1.far HUU.out x).next (below_box (y0.setCell ⟨U.heap.size, 0, none⟩ x) c))); have T5 := Lib.hid (fun x c => ES.out _ ((K1.next (below_box y0 c)).far HUU.out x)); have NY := Lib.hid (show sb ≠ y0.heap.size from Nat.ne_of_lt K1.lt); have T6 := Lib.hid (fun x y c => ES.out _ (((K1.next (below_box y0 c)).far HUU.out x).far NY.out y)); have T7 := Lib.hid (fun x y c => ES.out _ (((K1.next (below_box y0 c)).far NY.out x).far HUU.out y)); have T8 := Lib.hid (fun x c => ES.out _ ((K1.next (below_box y0 c)).far NY.out x)); clear K1 Z1 hb)
      | (go_at_call 228; (with_reducible refine (CH.out _ (P2.out _ _)).mono ?_); rintro e y0 ⟨rfl, hb⟩; have YB := Lib.hid hb; have K1 := (show SBk ((U.alloc (.cells #[.int .i64 0] 3)).alloc (.cells #[.int .i64 0] 3)).drew sb t g n cap k q from (KS.out.next (bw_alloc (below_box U _) _) : SBk ((U.alloc (.cells #[.int .i64 0] 3)).alloc (.cells #[.int .i64 0] 3)) sb t g n cap k q)).next hb; have Z1 := (show One 3 ((U.alloc (.cells #[.int .i64 0] 3)).alloc (.cells #[.int .i64 0] 3)).drew U.heap.size (.int .i64 0) from heap_alloc2_old U _ _).next hb; have Z2 := (show One 3 ((U.alloc (.cells #[.int .i64 0] 3)).alloc (.cells #[.int .i64 0] 3)).drew (U.heap.size + 1) (.int .i64 0) from heap_alloc2_new U _ _).next hb; have c_z := Z1.cell; have f_z := Z1.free; have c_y := Z2.cell; have f_y := Z2.free; have ZZ := Lib.hid Z1; have ZY := Lib.hid Z2; have T0 := Lib.hid (ES.out _ K1); have T1 := Lib.hid (fun x => ES.out _ (K1.far HUU.out x)); have T2 := Lib.hid (fun x => ES.out _ (K1.far HUV.out x)); have T3 := Lib.hid (fun x y => ES.out _ ((K1.far HUU.out x).far HUV.out y)); have T4 := Lib.hid (fun x y => ES.out _ ((K1.far HUV.out x).far HUU.out y)); have T5 := Lib.hid True.intro; clear K1 Z1 Z2 hb))
    all_goals go_wp2_with fail
    all_goals go_meet
    case rel =>
      have h0 := one_new 3 y0 (.int .i64 N)
      have b1 := below_box (y0.alloc (.cells #[.int .i64 N] 3)) (.cells #[.int .i64 (2 * t.hello)] 3)
      have h1 := one_new 3 (y0.alloc (.cells #[.int .i64 N] 3)) (.int .i64 (2 * t.hello))
      rw [size_box] at h1
      have hy := YB.out.size
      have hu := HU.out
      have e0 : U.drew.heap.size = U.heap.size := rfl
      exact ⟨_, _, rfl, rfl, h0.next b1, h1, by omega, by omega, bw_alloc (bw_alloc ((Below.refl U.heap.size U).drew.trans YB.out) _) _⟩
    case rel =>
      have h0 := one_new 3 y0 (.int .i64 (2 * t.hello))
      have b1 := below_box (y0.alloc (.cells #[.int .i64 (2 * t.hello)] 3)) (.cells #[.int .i64 N] 3)
      have h1 := one_new 3 (y0.alloc (.cells #[.int .i64 (2 * t.hello)] 3)) (.int .i64 N)
      rw [size_box] at h1
      have hy := YB.out.size
      have hu := HU.out
      have e0 : U.drew.heap.size = U.heap.size := rfl
      exact ⟨_, _, rfl, rfl, h1, h0.next b1, by omega, by omega, bw_alloc (bw_alloc ((Below.refl U.heap.size U).drew.trans YB.out) _) _⟩
    case rel =>
      have hB := (bw_alloc (Below.refl U.heap.size U) (.cells #[.int .i64 0] 3)).drew.trans (YB.out.mono (by show _ ≤ (U.alloc (.cells #[.int .i64 0] 3)).heap.size; rw [size_box]; omega))
      have hz := ZZ.out.next (below_box y0 (.cells #[.int .i64 0] 3))
      have hn := one_new 3 y0 (.int .i64 0)
      have hlt := ZZ.out.lt
      have hu := HU.out
      exact ⟨_, _, rfl, rfl, (hz.put (.int .i64 N)).other 0 _ (by omega), (hn.other 0 _ (by omega)).put _, by omega, by omega, ((bw_alloc hB _).setCell (Nat.le_refl _) _).setCell (by show _ ≤ y0.heap.size; omega) _⟩
    case rel =>
      have hB := (bw_alloc (bw_alloc (Below.refl U.heap.size U) (.cells #[.int .i64 0] 3)) (.cells #[.int .i64 0] 3)).drew.trans (YB.out.mono (by show _ ≤ ((U.alloc (.cells #[.int .i64 0] 3)).alloc (.cells #[.int .i64 0] 3)).heap.size; rw [size_box, size_box]; omega))
      have hu := HU.out
      exact ⟨_, _, rfl, rfl, (ZZ.out.put (.int .i64 N)).other 0 _ (by omega), (ZY.out.other 0 _ (by omega)).put _, by omega, by omega, (hB.setCell (Nat.le_refl _) _).setCell (by show _ ≤ U.heap.size + 1; omega) _⟩
    case rel =>
      have hB := (bw_alloc (Below.refl U.heap.size U) (.cells #[.int .i64 0] 3)).drew.trans (YB.out.mono (by show _ ≤ (U.alloc (.cells #[.int .i64 0] 3)).heap.size; rw [size_box]; omega))
      have hz := ZZ.out.next (below_box y0 (.cells #[.int .i64 N] 3))
      have hn := one_new 3 y0 (.int .i64 N)
      have hlt := ZZ.out.lt
      have hu := HU.out
      exact ⟨_, _, rfl, rfl, hn.other 0 _ (by omega), hz.put _, by omega, by omega, (bw_alloc hB _).setCell (Nat.le_refl _) _⟩
    case rel =>
      have hB := (bw_alloc (bw_alloc (Below.refl U.heap.size U) (.cells #[.int .i64 0] 3)) (.cells #[.int .i64 0] 3)).drew.trans (YB.out.mono (by show _ ≤ ((U.alloc (.cells #[.int .i64 0] 3)).alloc (.cells #[.int .i64 0] 3)).heap.size; rw [size_box, size_box]; omega))
      have hu := HU.out
      exact ⟨_, _, rfl, rfl, (ZY.out.put (.int .i64 N)).other 0 _ (by omega), (ZZ.out.other 0 _ (by omega)).put _, by omega, by omega, (hB.setCell (by show _ ≤ U.heap.size + 1; omega) _).setCell (Nat.le_refl _) _⟩
  case rest =>
    obtain ⟨hd, bu, rfl, rfl, hhd, hbu, hd3, hb3, hB⟩ := hcut
    have S3 := Lib.hid (SU.out.next hB)
    have B3 := Lib.hid (bw_trans (bw_trans BB.out BU.out) hB)
    have K1 := Lib.hid (KH.out.next hB)
    have K2 := Lib.hid hhd
    have K3 := Lib.hid hbu
    have HX := Lib.hid (show hd ≠ g ∧ bu ≠ g ∧ sb + 2 ≠ g by
      have h0 := HGL.out
      have h1 := HS.out
      omega)
    clear hhd hbu hB SU SS BB BU KH s0 s1 s2 s3 s4 s5 s6 CH
    obtain ⟨s0, s1, s2, s3, s4, s5, s6⟩ := S3.out.sk.cells
    go_wp2
    go_ret
    have hb := below_box wc (.cells #[.func (.func 229) #[] #[pv (sb + 2) 0, pv (sb + 1) 0], .func (.func 232) #[sv t g n cap k q] #[], .func (.func 233) #[] #[pv (sb + 2) 0, pv sb 0], .func (.func 235) #[sv t g n cap k q] #[], .func (.func 236) #[] #[pv (sb + 1) 0, pv hd 0], .func (.func 237) #[] #[pv hd 0, pv (sb + 1) 0], .func (.func 238) #[] #[pv (sb + 1) 0, pv bu 0], .func (.func 239) #[] #[pv bu 0, pv (sb + 1) 0]] 235)
    have S4 := S3.out.next hb
    have J1 := K1.out.next hb
    have J2 := K2.out.next hb
    have J3 := K3.out.next hb
    have hx := HX.out
    refine ⟨some ⟨wc.heap.size, 0, none⟩, [⟨⟨229, #[], #[pv (sb + 2) 0, pv (sb + 1) 0]⟩, ⟨232, #[sv t g n cap k q], #[]⟩, (H && (stillB p && propB p)), ⟨{ p with proposed := false }, true, false⟩⟩,
      ⟨⟨233, #[], #[pv (sb + 2) 0, pv sb 0]⟩, ⟨235, #[sv t g n cap k q], #[]⟩, (H && agreesB (othersB syncedO l k) p), ⟨{ p with proposed := false, agree := true, newInfo := true }, false, false⟩⟩,
      ⟨⟨236, #[], #[pv (sb + 1) 0, pv hd 0]⟩, ⟨237, #[], #[pv hd 0, pv (sb + 1) 0]⟩, (stillB p && (!decide (p.fd = N) || (p.sync || (p.reroot || !p.synced)))), ⟨{ p with fd := N, synced := true, rr := 0, sync := false, reroot := false }, false, false⟩⟩,
      ⟨⟨238, #[], #[pv (sb + 1) 0, pv bu 0]⟩, ⟨239, #[], #[pv bu 0, pv (sb + 1) 0]⟩, (decide (p.role = 4) && !decide (p.rb = 2 * t.hello)), ⟨{ p with rb := 2 * t.hello }, false, false⟩⟩], rfl, Nat.le_of_ble_eq_true rfl, tab_of ?_ ?_, ?_, bw_trans B3.out hb⟩
    · exact heap_alloc_new wc _
    · intro r hr
      simp only [List.mem_cons, List.not_mem_nil, or_false] at hr
      rcases hr with rfl | rfl | rfl | rfl
      · exact ⟨t_block1 S4 H (sb + 2) J1, u_sync S4⟩
      · exact ⟨t_block2 S4 H (sb + 2) J1, u_agree S4⟩
      · exact ⟨t_block3 S4 N hd J2, u_block3 S4 N hd J2 hx.1⟩
      · exact ⟨t_block4 S4 (2 * t.hello) bu J3, u_block4 S4 (2 * t.hello) bu J3 hx.2.1⟩
    · rw [← HN.out, ← HH.out]
      exact first_block t _ p _ _ _ _ _ _ _ _
end Go.Proofs.YtldobcfejldbiaaGreatDoor

namespace Go.Proofs.YtldobcfejldbiaaGreatDoor
set_option linter.unusedVariables false
set_option linter.unusedSimpArgs false
open Go.RowKit Vm Rm Bm Im

theorem Made.behind {w a w' : World} {g k : Nat} {l : List Pt} {M : Option Mv} {e : Ending} (h : Made a w' g l k M e) (hb : Below w.heap.size w a) : Made w w' g l k M e := by
  obtain ⟨ta, rows, h1, h2, h3, h4, h5⟩ := h
  exact ⟨ta, rows, h1, h2, h3, h4, bw_trans hb h5⟩
theorem made_none {w w' : World} {g k : Nat} {l : List Pt} (hb : Below w.heap.size w w') : Made w w' g l k none (.returned (.slice none 0 0)) :=
  ⟨none, [], rfl, Nat.zero_le _, fun i r h => by simp at h, rfl, hb⟩

set_option maxRecDepth 20000 in
set_option maxHeartbeats 1000000 in
theorem moves_w (t : Tm) (g n cap k q : Nat) (l : List Pt) (p : Pt) (w : World) (hr : WRow w g l) (hn : l.length = n) (hl : n ≤ 1000) (hp : l[k]? = some p) (hq : k * 61 = q) (hh : 0 ≤ t.hello ∧ t.hello ≤ 1000) :
    Calls Tryz.prog 190 #[sv t g n cap k q] w fun e w' => Made w w' g l k (moveF t (othersB syncedO l k) (othersB rerootedO l k) p) e := by
  obtain ⟨W, sb, HW, HS, k0, kB, kL⟩ := oneS_is t g n cap k q w
  have B0 := Lib.hid (HS.out ▸ kB : Below w.heap.size w W)
  have hrW := hr.next B0.out
  have C1 := Lib.hid (fun w' (hb : Below W.heap.size W w') => toRole_w t g n cap k q l p w' (hrW.next hb) hn hl hp hq)
  have C2 := Lib.hid (fun w' (hb : Below W.heap.size W w') => ofBlocked_w t g n cap k q l p w' (hrW.next hb) hn hl hp hq hh)
  have C3 := Lib.hid (fun w' (hb : Below W.heap.size W w') => ofRoot_w t g n cap k q l p w' (hrW.next hb) hn hl hp hq)
  have C4 := Lib.hid (fun w' (hb : Below W.heap.size W w') => ofDesignated_w t g n cap k q l p w' (hrW.next hb) hn hl hp hq)
  have PA := hq ▸ hrW.pat hp
  have c_ready := PA.c_ready
  have c_update := PA.c_update
  have c_role := PA.c_role
  have c_selected := PA.c_selected
  obtain ⟨s0, s1, s2, s3, s4, s5, s6⟩ := k0.cells
  clear k0 kB kL PA hr hn hl hp hq hh hrW
  unfold sv scl at *
  unfold moveF
  obtain ⟨x, hx⟩ : ∃ x, p.ready = x := ⟨_, rfl⟩
  rw [hx] at c_ready ⊢
  obtain ⟨y, hy⟩ : ∃ y, p.update = y := ⟨_, rfl⟩
  rw [hy] at c_update ⊢
  clear hx hy
  cases x with
  | false =>
    rw [if_pos (by rfl)]
    clear C1 C2 C3 C4
    go_enter Tryz.func190, Tryz.ntmps190
    go_upto_region 1 with (fail)
    refine wp_to (W := W) (by exact HW.out.symm) ?_
    rw [HS.out]
    go_wp2
    go_ret
    exact made_none B0.out
  | true =>
    cases y with
    | true =>
      rw [if_pos (by rfl)]
      clear C1 C2 C3 C4
      go_enter Tryz.func190, Tryz.ntmps190
      go_upto_region 1 with (fail)
      refine wp_to (W := W) (by exact HW.out.symm) ?_
      rw [HS.out]
      go_wp2
      go_ret
      exact made_none B0.out
    | false =>
      rw [if_neg (by decide)]
      by_cases hs : p.selected = p.role
      · rw [if_neg (by simpa using hs)]
        have d : (p.selected != p.role) = false := by simp [hs]
        obtain ⟨I, hI⟩ : ∃ I, decide (p.role = 0 ∨ p.role = 3 ∨ p.role = 4) = I := ⟨_, rfl⟩
        have CI := Lib.hid (fun w' => isBlocked_w p.role I w' (Lib.hid hI))
        cases I with
        | true =>
          rw [if_pos (by simpa using hI)]
          clear hI hs C1 C3 C4
          go_enter Tryz.func190, Tryz.ntmps190
          go_upto_region 1 with (fail)
          refine wp_to (W := W) (by exact HW.out.symm) ?_
          rw [HS.out]
          go_wp2_with fail
          go_quiet (fail)
          go_wp2_with (first
            | (go_at_call 211; (with_reducible refine (CI.out _).mono ?_); rintro e w1 ⟨rfl, rfl⟩)
            | (go_at_call 212; (with_reducible refine (C2.out _ (below_drewN (Below.refl _ _) _)).mono ?_); rintro e w1 ⟨ta, rows, rfl, hm1, hm2, hm3, hm4⟩))
          go_ret
          exact ⟨ta, rows, rfl, hm1, hm2, hm3, bw_trans (below_drewN B0.out _) hm4⟩
        | false =>
          rw [if_neg (by simpa using hI)]
          by_cases h1 : p.role = 1
          · rw [if_pos h1]
            have d1 : (p.role == 1) = true := by rw [h1]; rfl
            clear hI hs C1 C2 C4 h1
            go_enter Tryz.func190, Tryz.ntmps190
            go_upto_region 1 with (fail)
            refine wp_to (W := W) (by exact HW.out.symm) ?_
            rw [HS.out]
            go_wp2_with fail
            go_quiet (fail)
            go_wp2_with (first
              | (go_at_call 211; (with_reducible refine (CI.out _).mono ?_); rintro e w1 ⟨rfl, rfl⟩)
              | (go_at_call 213; (with_reducible refine (C3.out _ (below_drewN (Below.refl _ _) _)).mono ?_); rintro e w1 ⟨ta, rows, rfl, hm1, hm2, hm3, hm4⟩))
            go_ret
            exact ⟨ta, rows, rfl, hm1, hm2, hm3, bw_trans (below_drewN B0.out _) hm4⟩
          · rw [if_neg h1]
            have d1 : (p.role == 1) = false := beq_eq_false_iff_ne.2 h1
            by_cases h2 : p.role = 2
            · rw [if_pos h2]
              have d2 : (p.role == 2) = true := by rw [h2]; rfl
              clear hI hs C1 C2 C3 h1 h2
              go_enter Tryz.func190, Tryz.ntmps190
              go_upto_region 1 with (fail)
              refine wp_to (W := W) (by exact HW.out.symm) ?_
              rw [HS.out]
              go_wp2_with fail
              go_quiet (fail)
              go_wp2_with (first
                | (go_at_call 211; (with_reducible refine (CI.out _).mono ?_); rintro e w1 ⟨rfl, rfl⟩)
                | (go_at_call 214; (with_reducible refine (C4.out _ (below_drewN (Below.refl _ _) _)).mono ?_); rintro e w1 ⟨ta, rows, rfl, hm1, hm2, hm3, hm4⟩))
              go_ret
              exact ⟨ta, rows, rfl, hm1, hm2, hm3, bw_trans (below_drewN B0.out _) hm4⟩
            · rw [if_neg h2]
              have d2 : (p.role == 2) = false := beq_eq_false_iff_ne.2 h2
              clear hI hs C1 C2 C3 C4 h1 h2
              go_enter Tryz.func190, Tryz.ntmps190
              go_upto_region 1 with (fail)
              refine wp_to (W := W) (by exact HW.out.symm) ?_
              rw [HS.out]
              go_wp2_with fail
              go_quiet (fail)
              go_wp2_with (go_at_call 211; (with_reducible refine (CI.out _).mono ?_); rintro e w1 ⟨rfl, rfl⟩)
              go_ret
              exact made_none (below_drewN B0.out _)
      · rw [if_pos (by simpa using hs)]
        have d : (p.selected != p.role) = true := by simpa using hs
        clear hs C2 C3 C4
        go_enter Tryz.func190, Tryz.ntmps190
        go_upto_region 1 with (fail)
        refine wp_to (W := W) (by exact HW.out.symm) ?_
        rw [HS.out]
        go_wp2_with fail
        go_quiet (fail)
        go_wp2_with (first
          | (go_at_call 210; (with_reducible refine (C1.out _ (below_drewN (Below.refl _ _) _)).mono ?_); rintro e w1 ⟨ta, rows, rfl, hm1, hm2, hm3, hm4⟩))
        go_ret
        exact ⟨ta, rows, rfl, hm1, hm2, hm3, bw_trans (below_drewN B0.out _) hm4⟩

/-- What a move makes, with its ways. -/
theorem moveP_yes {t : Tm} {l : List Pt} {k : Nat} {p : Pt} {m : Mv} (hb : rightBr t = true) (hp : l[k]? = some p) (hm : moveF t (othersB syncedO l k) (othersB rerootedO l k) p = some m) : moveP t l k = (l.mapIdx (spreadAt m k), true) := by
  unfold moveP moveAtP
  rw [if_pos hb, hp]
  simp only [hm, Option.map_some]
theorem moveP_no {t : Tm} {l : List Pt} {k : Nat} {p : Pt} (hp : l[k]? = some p) (hm : moveF t (othersB syncedO l k) (othersB rerootedO l k) p = none) : moveP t l k = (l, false) := by
  unfold moveP moveAtP
  by_cases hb : rightBr t = true
  · rw [if_pos hb, hp]
    simp only [hm, Option.map_none]
  · rw [if_neg hb]
theorem moveP_wrong {t : Tm} {l : List Pt} {k : Nat} (hb : rightBr t = false) : moveP t l k = (l, false) := by
  unfold moveP moveAtP
  rw [if_neg (by rw [hb]; decide)]
theorem right_hello {t : Tm} (h : rightBr t = true) : 0 ≤ t.hello ∧ t.hello ≤ 1000 := by
  unfold rightBr at h
  simp only [Bool.and_eq_true, decide_eq_true_eq] at h
  omega
def MIv (rows : List Mvr) (N : Nat) (W : World) (v : Value) (wr : World) : Prop :=
  ∃ j : Nat, j ≤ N ∧ v = .int .i64 (j : Nat) ∧ (∀ i r, i < j → rows[i]? = some r → r.R = false) ∧ Below W.heap.size W wr

set_option maxRecDepth 20000 in
set_option maxHeartbeats 2000000 in
theorem moveIn_w (i : Int) (t : Tm) (g cap k : Nat) (l L : List Pt) (B : Bool) (w : World) (hr : WRow w g l) (hl : l.length ≤ 1000) (hk : k < l.length) (hX : moveP t l k = (L, B)) :
    Calls Tryz.prog 153 #[brv i t.age t.max t.hello t.delay, .slice (some ⟨g, 0, none⟩) l.length cap, .int .i64 ((k : Nat) : Int)] w fun e w' => e = .returned (.bool B) ∧ WRow w' g L ∧ Kp g w w' := by
  obtain ⟨n, hn⟩ : ∃ n, l.length = n := ⟨_, rfl⟩
  rw [hn] at hl hk ⊢
  have K0 := Lib.hid (show BrBlk (w.alloc (.cells (bcl i t.age t.max t.hello t.delay) 26)) w.heap.size i t.age t.max t.hello t.delay from heap_alloc_new w _)
  have B0 := Lib.hid (below_box w (.cells (bcl i t.age t.max t.hello t.delay) 26))
  have HR := Lib.hid hr
  obtain ⟨RB, hRB⟩ : ∃ R, rightBr ⟨t.age, t.max, t.hello, t.delay⟩ = R := ⟨_, rfl⟩
  have CB := Lib.hid (fun w' => brRight_w i t.age t.max t.hello t.delay RB w' (Lib.hid hRB))
  obtain ⟨p, hp⟩ := at_some (l := l) (k := k) (by rw [hn]; exact hk)
  obtain ⟨k0, k1, k2, k3, k4⟩ := K0.out.cells
  clear hr
  unfold brv
  unfold bcl at *
  cases RB with
  | false =>
    have e := moveP_wrong (l := l) (k := k) (show rightBr t = false from hRB)
    rw [hX] at e
    cases e
    clear hX hRB hp
    go_enter Tryz.func153, Tryz.ntmps153
    go_wp2_with (go_at_call 59; (with_reducible refine (CB.out _).mono ?_); rintro e w2 ⟨rfl, hb2⟩)
    go_ret
    exact ⟨rfl, (HR.out.next B0.out).next hb2, Kp.of (bw_trans B0.out hb2)⟩
  | true =>
    have hh := right_hello (t := t) hRB
    have hb := show rightBr t = true from hRB
    have CM := Lib.hid (fun w' (h : WRow w' g l) => moves_w t g n cap k (k * 61) l p w' h hn hl hp rfl hh)
    have HB := Lib.hid hb
    have HP := Lib.hid hp
    have HX := Lib.hid hX
    have hki : (k : Int) < n := by omega
    have hk0 : (0 : Int) ≤ k := by omega
    clear hh hb hp hX hRB
    go_enter Tryz.func153, Tryz.ntmps153
    go_upto_region 3 with (go_at_call 59; (with_reducible refine (CB.out _).mono ?_); rintro e w2 ⟨rfl, hb2⟩; have B2 := Lib.hid (bw_trans B0.out hb2); have K2 := Lib.hid (K0.out.next hb2); have hb2' := hb2; clear hb2 k0 k1 k2 k3 k4)
    obtain ⟨k0, k1, k2, k3, k4⟩ := K2.out.cells
    have WR := Lib.hid ((HR.out.next B0.out).next (show Below _ _ w2 from hb2'))
    have kA1 := fun c => (K2.out.next (below_box w2 c)).cells.2.1
    have kA2 := fun c => (K2.out.next (below_box w2 c)).cells.2.2.1
    have kA3 := fun c => (K2.out.next (below_box w2 c)).cells.2.2.2.1
    have kA4 := fun c => (K2.out.next (below_box w2 c)).cells.2.2.2.2
    obtain ⟨X, hXX⟩ : ∃ X, (w2.alloc (.cells #[.int .i64 t.age, .int .i64 t.max, .int .i64 t.hello, .int .i64 t.delay, .slice (some ⟨g, 0, none⟩) n cap, .int .i64 ((k : Nat) : Int), .pointer (some ⟨g, k * 61, none⟩)] 231)).drew = X := ⟨_, rfl⟩
    go_region
    have BX := Lib.hid (show Below w2.heap.size w2 X from hXX ▸ (below_box w2 _).drew)
    have SX := Lib.hid (show SBk X w2.heap.size t g n cap k (k * 61) from hXX ▸ (sbk_new w2 : SBk (w2.alloc _) _ _ _ _ _ _ _))
    clear hXX k0 k1 k2 k3 k4 kA1 kA2 kA3 kA4 K2 K0
    obtain ⟨ub, hub⟩ : ∃ ub, w2.heap.size = ub := ⟨_, rfl⟩
    rw [hub] at BX SX ⊢
    obtain ⟨s0, s1, s2, s3, s4, s5, s6⟩ := SX.out.cells
    have CMX := Lib.hid (CM.out X (WR.out.next (hub.symm ▸ BX.out)))
    have BW := Lib.hid (bw_trans B2.out (hub.symm ▸ BX.out))
    clear CM CB B0 BX hb2' hub
    unfold sv scl at CMX
    go_wp2_with (first
      | (go_at_call 190; (with_reducible refine CMX.out.mono ?_); rintro e W ⟨ta, rows, rfl, hr7, hT, hM, hb3⟩; have HT := Lib.hid hT; have HM := Lib.hid hM; have HB3 := Lib.hid (bw_trans BW.out hb3); clear hT hM hb3 s0 s1 s2 s3 s4 s5 s6 CMX BW SX)
      | fail)
    obtain ⟨N, hN⟩ : ∃ N, rows.length = N := ⟨_, rfl⟩
    have HN := Lib.hid hN
    have HWR := Lib.hid (HR.out.next HB3.out)
    rw [hN] at hr7 ⊢
    clear hN
    go_loopw [24] (fun v wr => MIv rows N W v wr) (fun v _ => N - (intOf v).toNat)
    case atStart => exact ⟨0, Nat.zero_le _, rfl, fun i r h => absurd h (by omega), Below.refl _ _⟩
    case round =>
      obtain ⟨j, hj, rfl, hno, hG⟩ := hrel
      have HG := Lib.hid hG
      have HNO := Lib.hid hno
      clear hG hno
      by_cases hjl : j < N
      · obtain ⟨r, hx⟩ := at_some (l := rows) (k := j) (by rw [HN.out]; exact hjl)
        obtain ⟨tb, rfl, htl, c_a, c_d, hA, hD⟩ := HT.out j r hx
        have HX2 := Lib.hid hx
        have hji : (j : Int) < N := by omega
        have c_a1 : wr.cell? ⟨tb, j * 2, none⟩ = some (.func (.func r.a.f) r.a.b r.a.c) := (HG.out.cell (p := ⟨tb, j * 2, none⟩) htl).trans c_a
        have c_d1 : wr.cell? ⟨tb, j * 2 + 1, none⟩ = some (.func (.func r.d.f) r.d.b r.d.c) := (HG.out.cell (p := ⟨tb, j * 2 + 1, none⟩) htl).trans c_d
        have HA := Lib.hid hA
        have HD := Lib.hid hD
        have HTL := Lib.hid htl
        clear hx c_a c_d hA hD htl
        obtain ⟨V, hV⟩ : ∃ V, wr.alloc (.cells #[.func (.func r.a.f) r.a.b r.a.c, .func (.func r.d.f) r.d.b r.d.c] 235) = V := ⟨_, rfl⟩
        have hvb : Below wr.heap.size wr V := hV ▸ below_box wr _
        have hvm : V.heap[wr.heap.size]? = some (.cells #[.func (.func r.a.f) r.a.b r.a.c, .func (.func r.d.f) r.d.b r.d.c] 235 (0, 0)) := hV ▸ heap_alloc_new wr _
        have hm0 : V.cell? ⟨wr.heap.size, 0, none⟩ = some (.func (.func r.a.f) r.a.b r.a.c) := (cell_of_row V _ 0 _ _ _ hvm).trans rfl
        have hm1 : V.cell? ⟨wr.heap.size, 1, none⟩ = some (.func (.func r.d.f) r.d.b r.d.c) := (cell_of_row V _ 1 _ _ _ hvm).trans rfl
        have hml := (Array.getElem?_eq_some_iff.1 hvm).1
        have HV := Lib.hid hV
        have HVB := Lib.hid (bw_trans HG.out hvb)
        have HM1 := Lib.hid hm1
        have HML := Lib.hid hml
        clear hV hvb hvm
        go_upto_region 7 with (fail)
        refine wp_to (W := V) (by exact HV.out.symm) ?_
        clear HV c_a1 c_d1
        obtain ⟨mb, hmb⟩ : ∃ mb, wr.heap.size = mb := ⟨_, rfl⟩
        rw [hmb] at hm0 hm1 HM1 HML hml ⊢
        clear hmb hml
        have hent := HA.out.1
        have hcall := HA.out.2 V HVB.out
        obtain ⟨D, hDD⟩ : ∃ D, r.R = D := ⟨_, rfl⟩
        rw [hDD] at hcall
        cases D with
        | false =>
          have HDD := Lib.hid hDD
          clear hDD hm1
          go_wp2_with (refine hcall.mono ?_; clear hcall hent; rintro e w4 ⟨rfl, hG1⟩)
          exact ⟨⟨j + 1, by omega, by go_num, fun i r' hi hr' => by
            by_cases e : i = j
            · subst e
              rw [HX2.out] at hr'
              cases hr'
              exact HDD.out
            · exact HNO.out i r' (by omega) hr', bw_trans HVB.out hG1⟩, by simp [intOf]; omega⟩
        | true =>
          have e := moveP_yes HB.out HP.out (HM.out.symm.trans (firstM_yes HNO.out HX2.out hDD))
          have e2 := HX.out.symm.trans e
          cases e2
          clear hDD e hm1
          have hent2 := HD.out.1
          go_wp2_with (refine hcall.mono ?_; clear hcall hent; rintro e w4 ⟨rfl, hG1⟩; have HG1 := Lib.hid (bw_trans HVB.out hG1); have hm1 := (hG1.cell (p := ⟨mb, 1, none⟩) HML.out).trans HM1.out; have hcall2 := HD.out.2 w4 HG1.out; clear hG1; go_wp2_with (refine hcall2.mono ?_; clear hcall2 hent2; rintro e w5 ⟨rfl, hw5, hk5⟩))
          go_ret
          exact ⟨rfl, hw5, ((Kp.of HB3.out).grow HG1.out).trans' hk5⟩
      · obtain rfl : j = N := by omega
        have e := moveP_no HP.out ((HM.out.symm.trans (firstM_no (rows := rows) (by rw [HN.out]; exact HNO.out))))
        have e2 := HX.out.symm.trans e
        cases e2
        go_wp2
        go_ret
        exact ⟨rfl, HWR.out.next HG.out, (Kp.of HB3.out).grow HG.out⟩
end Go.Proofs.YtldobcfejldbiaaGreatDoor

namespace Go.Proofs.YtldobcfejldbiaaGreatDoor
set_option linter.unusedVariables false
set_option linter.unusedSimpArgs false
open Go.RowKit Vm Rm Bm Im

/-- A port's block turned into Y, behind a world V; its copy's block is as it was. -/
theorem state_end (p Y : Pt) (nb : Nat) (w V : World) (K : PtBlk 78 V (nb + 1) zeroP) (hB : Below nb w V) : PtBlk 78 (V.setRow (nb + 1) (cellsT Y)) (nb + 1) Y ∧ Below nb w (V.setRow (nb + 1) (cellsT Y)) :=
  ⟨K.row Y, below_row hB (by omega) (cellsT Y)⟩

set_option maxRecDepth 20000 in
set_option maxHeartbeats 2000000 in
theorem state_w (p X : Pt) (w : World) (hX : Hid (stateP p = X)) :
    Calls Tryz.prog 154 #[.agg (cellsT p)] w fun e w' => e = .returned (.agg (cellsT X)) ∧ Below w.heap.size w w' := by
  obtain ⟨W, nb, HW, HN, k0, k1, kB⟩ := twoP_is 78 w p
  have K0 := Lib.hid k0
  have K1 := Lib.hid k1
  have KB := Lib.hid kB
  have f := k0.free
  have c_1 := k0.c_learn
  have c_2 := k0.c_learning
  have c_3 := k0.c_forward
  have c_4 := k0.c_forwarding
  have hne : nb + 1 ≠ nb := by omega
  clear k0 k1 kB
  by_cases h1 : p.learn = false
  · have HX := Lib.hid (show ({ p with learning := false, forwarding := false } : Pt) = X by rw [← hX.out]; unfold stateP; rw [if_pos h1])
    rw [h1] at c_1
    clear hX h1
    obtain ⟨V, hV⟩ : ∃ V, (W.setCell ⟨nb, 28, none⟩ (.bool false)).setCell ⟨nb, 30, none⟩ (.bool false) = V := ⟨_, rfl⟩
    have KV := Lib.hid (show PtBlk 78 V nb X from by rw [← hV, ← HX.out]; exact (K0.out.s_learning false).s_forwarding false)
    have KZ := Lib.hid (show PtBlk 78 V (nb + 1) zeroP from by rw [← hV]; exact (K1.out.far 28 _ hne).far 30 _ hne)
    have BV := Lib.hid (show Below nb w V from by rw [← hV]; exact (KB.out.setCell (Nat.le_refl _) _).setCell (Nat.le_refl _) _)
    have HV := Lib.hid hV
    clear hV HX
    go_enter Tryz.func154, Tryz.ntmps154
    go_upto_region 1 with (fail)
    refine wp_to (W := W) (by exact HW.out.symm) ?_
    rw [HN.out]
    go_upto_region 3 with (fail)
    refine wp_to (W := V) (by exact HV.out.symm) ?_
    go_wp2_with (first
      | (with_reducible refine wpList_pt rfl _ rfl _ rfl X KV.out ?_)
      | (with_reducible refine wpList_ptst rfl _ _ rfl _ rfl X zeroP rfl KZ.out ?_))
    have E := state_end p X nb w V KZ.out BV.out
    exact bodyPost_ret (v := .agg (cellsT X)) (results_cell_row rfl _ _ (nb + 1) 78 (cellsT X) (0, 0) _ rfl E.1 rfl rfl infoSP) rfl ⟨rfl, HN.out ▸ E.2⟩
  · have h1' : p.learn = true := by cases hl : p.learn; exact absurd hl h1; rfl
    rw [h1'] at c_1
    obtain ⟨F, hF⟩ : ∃ F, (p.forwarding && p.forward) = F := ⟨_, rfl⟩
    by_cases h2 : p.learning = false
    · have HX := Lib.hid (show ({ p with forwarding := F, learning := true } : Pt) = X by rw [← hX.out]; unfold stateP; rw [if_neg h1, if_pos h2, hF])
      rw [h2] at c_2
      clear hX h1 h1' h2
      obtain ⟨V, hV⟩ : ∃ V, (W.setCell ⟨nb, 30, none⟩ (.bool F)).setCell ⟨nb, 28, none⟩ (.bool true) = V := ⟨_, rfl⟩
      have KV := Lib.hid (show PtBlk 78 V nb X from by rw [← hV, ← HX.out]; exact (K0.out.s_forwarding F).s_learning true)
      have KZ := Lib.hid (show PtBlk 78 V (nb + 1) zeroP from by rw [← hV]; exact (K1.out.far 30 _ hne).far 28 _ hne)
      have BV := Lib.hid (show Below nb w V from by rw [← hV]; exact (KB.out.setCell (Nat.le_refl _) _).setCell (Nat.le_refl _) _)
      have HV := Lib.hid hV
      clear hV HX
      obtain ⟨a, ha⟩ : ∃ a, p.forwarding = a := ⟨_, rfl⟩
      rw [ha] at c_4 hF
      clear ha
      cases a with
      | false =>
        obtain rfl : F = false := by rw [← hF]; rfl
        clear hF
        go_enter Tryz.func154, Tryz.ntmps154
        go_upto_region 1 with (fail)
        refine wp_to (W := W) (by exact HW.out.symm) ?_
        rw [HN.out]
        go_upto_region 7 with (fail)
        refine wp_to (W := V) (by exact HV.out.symm) ?_
        go_wp2_with (first
          | (with_reducible refine wpList_pt rfl _ rfl _ rfl X KV.out ?_)
          | (with_reducible refine wpList_ptst rfl _ _ rfl _ rfl X zeroP rfl KZ.out ?_))
        have E := state_end p X nb w V KZ.out BV.out
        exact bodyPost_ret (v := .agg (cellsT X)) (results_cell_row rfl _ _ (nb + 1) 78 (cellsT X) (0, 0) _ rfl E.1 rfl rfl infoSP) rfl ⟨rfl, HN.out ▸ E.2⟩
      | true =>
        obtain rfl : F = p.forward := by rw [← hF]; rfl
        clear hF
        go_enter Tryz.func154, Tryz.ntmps154
        go_upto_region 1 with (fail)
        refine wp_to (W := W) (by exact HW.out.symm) ?_
        rw [HN.out]
        go_upto_region 7 with (fail)
        refine wp_to (W := V) (by exact HV.out.symm) ?_
        go_wp2_with (first
          | (with_reducible refine wpList_pt rfl _ rfl _ rfl X KV.out ?_)
          | (with_reducible refine wpList_ptst rfl _ _ rfl _ rfl X zeroP rfl KZ.out ?_))
        have E := state_end p X nb w V KZ.out BV.out
        exact bodyPost_ret (v := .agg (cellsT X)) (results_cell_row rfl _ _ (nb + 1) 78 (cellsT X) (0, 0) _ rfl E.1 rfl rfl infoSP) rfl ⟨rfl, HN.out ▸ E.2⟩
    · have h2' : p.learning = true := by cases hl : p.learning; exact absurd hl h2; rfl
      have HX := Lib.hid (show ({ p with forwarding := p.forward } : Pt) = X by rw [← hX.out]; unfold stateP; rw [if_neg h1, if_neg h2])
      rw [h2'] at c_2
      clear hX h1 h1' h2 h2'
      obtain ⟨V, hV⟩ : ∃ V, (W.setCell ⟨nb, 30, none⟩ (.bool F)).setCell ⟨nb, 30, none⟩ (.bool p.forward) = V := ⟨_, rfl⟩
      have KV := Lib.hid (show PtBlk 78 V nb X from by rw [← hV, ← HX.out]; exact (K0.out.s_forwarding F).s_forwarding p.forward)
      have KZ := Lib.hid (show PtBlk 78 V (nb + 1) zeroP from by rw [← hV]; exact (K1.out.far 30 _ hne).far 30 _ hne)
      have BV := Lib.hid (show Below nb w V from by rw [← hV]; exact (KB.out.setCell (Nat.le_refl _) _).setCell (Nat.le_refl _) _)
      have HV := Lib.hid hV
      clear hV HX
      obtain ⟨a, ha⟩ : ∃ a, p.forwarding = a := ⟨_, rfl⟩
      rw [ha] at c_4 hF
      clear ha
      cases a with
      | false =>
        obtain rfl : F = false := by rw [← hF]; rfl
        clear hF
        go_enter Tryz.func154, Tryz.ntmps154
        go_upto_region 1 with (fail)
        refine wp_to (W := W) (by exact HW.out.symm) ?_
        rw [HN.out]
        go_upto_region 9 with (fail)
        refine wp_to (W := V) (by exact HV.out.symm) ?_
        go_wp2_with (first
          | (with_reducible refine wpList_pt rfl _ rfl _ rfl X KV.out ?_)
          | (with_reducible refine wpList_ptst rfl _ _ rfl _ rfl X zeroP rfl KZ.out ?_))
        have E := state_end p X nb w V KZ.out BV.out
        exact bodyPost_ret (v := .agg (cellsT X)) (results_cell_row rfl _ _ (nb + 1) 78 (cellsT X) (0, 0) _ rfl E.1 rfl rfl infoSP) rfl ⟨rfl, HN.out ▸ E.2⟩
      | true =>
        obtain rfl : F = p.forward := by rw [← hF]; rfl
        clear hF
        go_enter Tryz.func154, Tryz.ntmps154
        go_upto_region 1 with (fail)
        refine wp_to (W := W) (by exact HW.out.symm) ?_
        rw [HN.out]
        go_upto_region 9 with (fail)
        refine wp_to (W := V) (by exact HV.out.symm) ?_
        go_wp2_with (first
          | (with_reducible refine wpList_pt rfl _ rfl _ rfl X KV.out ?_)
          | (with_reducible refine wpList_ptst rfl _ _ rfl _ rfl X zeroP rfl KZ.out ?_))
        have E := state_end p X nb w V KZ.out BV.out
        exact bodyPost_ret (v := .agg (cellsT X)) (results_cell_row rfl _ _ (nb + 1) 78 (cellsT X) (0, 0) _ rfl E.1 rfl rfl infoSP) rfl ⟨rfl, HN.out ▸ E.2⟩
end Go.Proofs.YtldobcfejldbiaaGreatDoor
