/-
  Layer 12: what is asked of a seat, and by the closures of a table of moves.
  Layer 12: the closures of a table of moves that ask.
-/
import Derived.Test.YtojfmnndfophhaaGreatTr1
import Derived.Test.YtojfmnndfophhaaGreatRoF
namespace Go.Proofs.YtojfmnndfophhaaGreat
set_option linter.unusedVariables false
set_option linter.unusedSimpArgs false
open Go.RowKit Vm Rm Bm Im

abbrev pv (g q : Nat) : Value := .pointer (some ⟨g, q, none⟩)
/-- Of 0 what is waited for is Max, of all others Delay. -/
def heldI (t : Tm) (p : Pt) : Int := if p.role = 0 then t.max else t.delay

set_option maxHeartbeats 1000000 in
theorem heldFd_w (t : Tm) (g n cap k q : Nat) (p : Pt) (R : Int) (w : World) (h : PAt w g q p) (hR : Hid (heldI t p = R)) :
    Calls Tryz.prog 51 #[sv t g n cap k q] w fun e w' => e = .returned (.int .i64 R) ∧ Below w.heap.size w w' := by
  obtain ⟨W, sb, HW, HS, k0, kB, kL⟩ := oneS_is t g n cap k q w
  have B0 := Lib.hid kB
  have PA := h.next (HS.out ▸ kB)
  have c_role := PA.c_role
  obtain ⟨c0, c1, c2, c3, c4, c5, c6⟩ := k0.cells
  clear h k0 kB kL PA
  rw [← hR.out]
  clear hR
  unfold heldI
  unfold sv scl
  go_enter Tryz.func51, Tryz.ntmps51
  go_upto_region 1 with (fail)
  refine wp_to (W := W) (by exact HW.out.symm) ?_
  rw [HS.out]
  go_wp2
  all_goals go_ret
  all_goals (refine ⟨?_, HS.out ▸ B0.out⟩; refine ret_val ?_; have e : ∀ k : Int, (p.role == k) = decide (p.role = k) := fun _ => rfl; simp_all)

set_option maxHeartbeats 1000000 in
theorem mayAgree_w (t : Tm) (g n cap k q : Nat) (l : List Pt) (p : Pt) (R : Bool) (w : World) (hr : WRow w g l) (hn : l.length = n) (hl : n ≤ 1000) (hp : l[k]? = some p) (hq : k * 61 = q) (hR : Hid (agreesB (othersB syncedO l k) p = R)) :
    Calls Tryz.prog 57 #[sv t g n cap k q] w fun e w' => e = .returned (.bool R) ∧ Below w.heap.size w w' := by
  obtain ⟨W, sb, HW, HS, k0, kB, kL⟩ := oneS_is t g n cap k q w
  have B0 := Lib.hid (HS.out ▸ kB : Below w.heap.size w W)
  have S0 := Lib.hid k0
  have hrW := hr.next B0.out
  have HR := Lib.hid hrW
  have PA := Lib.hid (hq ▸ hrW.pat hp : PAt W g q p)
  obtain ⟨O, hO⟩ : ∃ O, othersB syncedO l k = O := ⟨_, rfl⟩
  have CO := Lib.hid (othersSynced_w t g n cap k q l O W hrW hn hl (Lib.hid hO))
  rw [← hR.out, hO]
  clear hR hO hrW hr hn hl hp hq kB kL
  unfold agreesB
  have c_agree := PA.out.c_agree
  have c_proposed := PA.out.c_proposed
  obtain ⟨c0, c1, c2, c3, c4, c5, c6⟩ := k0.cells
  clear k0
  obtain ⟨x, e_x⟩ : ∃ x, p.agree = x := ⟨_, rfl⟩
  rw [e_x] at c_agree ⊢
  obtain ⟨y, e_y⟩ : ∃ y, p.proposed = y := ⟨_, rfl⟩
  rw [e_y] at c_proposed ⊢
  have CPA := Lib.hid (fun w' (hb : Below W.heap.size W w') => e_x ▸ (PA.out.next hb).c_agree)
  have CPP := Lib.hid (fun w' (hb : Below W.heap.size W w') => e_y ▸ (PA.out.next hb).c_proposed)
  clear e_x e_y PA
  unfold sv scl at *
  cases x <;> cases O
  all_goals
    go_enter Tryz.func57, Tryz.ntmps57
    go_upto_region 1 with (fail)
    refine wp_to (W := W) (by exact HW.out.symm) ?_
    rw [HS.out]
    go_wp2_with (go_at_call 97; (with_reducible refine CO.out.mono ?_); rintro e w1 ⟨rfl, hb1⟩; have c_a1 := CPA.out _ hb1; have c_p1 := CPP.out _ hb1)
    all_goals go_ret
    all_goals refine ⟨(by refine ret_val ?_; simp_all), ?_⟩
    all_goals first | exact B0.out | exact bw_trans B0.out hb1

def rootMayB (ro : Bool) (p : Pt) : Bool := decide (p.fd = 0) || (decide (p.rb = 0) && (p.sendRstp && ro))
set_option maxHeartbeats 1000000 in
theorem rootMayOpen_w (t : Tm) (g n cap k q : Nat) (l : List Pt) (p : Pt) (R : Bool) (w : World) (hr : WRow w g l) (hn : l.length = n) (hl : n ≤ 1000) (hp : l[k]? = some p) (hq : k * 61 = q) (hR : Hid (rootMayB (othersB rerootedO l k) p = R)) :
    Calls Tryz.prog 74 #[sv t g n cap k q] w fun e w' => e = .returned (.bool R) ∧ Below w.heap.size w w' := by
  obtain ⟨W, sb, HW, HS, k0, kB, kL⟩ := oneS_is t g n cap k q w
  have B0 := Lib.hid (HS.out ▸ kB : Below w.heap.size w W)
  have S0 := Lib.hid k0
  have hrW := hr.next B0.out
  have HR := Lib.hid hrW
  have PA := Lib.hid (hq ▸ hrW.pat hp : PAt W g q p)
  obtain ⟨O, hO⟩ : ∃ O, othersB rerootedO l k = O := ⟨_, rfl⟩
  have CO := Lib.hid (othersRerooted_w t g n cap k q l O W hrW hn hl (Lib.hid hO))
  rw [← hR.out, hO]
  clear hR hO hrW hr hn hl hp hq kB kL
  unfold rootMayB
  have c_fd := PA.out.c_fd
  obtain ⟨c0, c1, c2, c3, c4, c5, c6⟩ := k0.cells
  clear k0
  obtain ⟨x, e_x⟩ : ∃ x, decide (p.fd = 0) = x := ⟨_, rfl⟩
  have d_x : (p.fd == 0) = x := by rw [← e_x]; rfl
  rw [e_x]
  obtain ⟨y, e_y⟩ : ∃ y, decide (p.rb = 0) = y := ⟨_, rfl⟩
  have d_y : (p.rb == 0) = y := by rw [← e_y]; rfl
  rw [e_y]
  obtain ⟨z, e_z⟩ : ∃ z, p.sendRstp = z := ⟨_, rfl⟩
  rw [e_z]
  have CPA := Lib.hid (fun w' (hb : Below W.heap.size W w') => (PA.out.next hb).c_rb)
  have CPP := Lib.hid (fun w' (hb : Below W.heap.size W w') => e_z ▸ (PA.out.next hb).c_sendRstp)
  clear e_x e_y e_z PA
  unfold sv scl at *
  cases x <;> cases O <;> cases y <;> cases z
  all_goals
    go_enter Tryz.func74, Tryz.ntmps74
    go_upto_region 1 with (fail)
    refine wp_to (W := W) (by exact HW.out.symm) ?_
    rw [HS.out]
    go_wp2_with (go_at_call 98; (with_reducible refine CO.out.mono ?_); rintro e w1 ⟨rfl, hb1⟩; have c_a1 := CPA.out _ hb1; have c_p1 := CPP.out _ hb1)
    all_goals go_ret
    all_goals refine ⟨(by refine ret_val ?_; simp_all), ?_⟩
    all_goals first | exact B0.out | exact bw_trans B0.out hb1
end Go.Proofs.YtojfmnndfophhaaGreat

namespace Go.Proofs.YtojfmnndfophhaaGreat
set_option linter.unusedVariables false
set_option linter.unusedSimpArgs false
open Go.RowKit Vm Rm Bm Im

set_option maxRecDepth 20000 in
set_option maxHeartbeats 1000000 in
theorem ask_role1 (pb g q : Nat) (p : Pt) (R : Bool) (w : World) (hpb : One 50 w pb (pv g q)) (h : PAt w g q p) (hR : Hid (decide (p.selected = 0 ∨ p.selected = 3 ∨ p.selected = 4) = R)) :
    Calls Tryz.prog 47 #[.pointer (some ⟨pb, 0, none⟩)] w fun e w' => e = .returned (.bool R) ∧ Below w.heap.size w w' := by
  rw [← hR.out]
  clear hR
  have c_pb := hpb.cell
  obtain ⟨I, hI⟩ : ∃ x, decide (p.selected = 0 ∨ p.selected = 3 ∨ p.selected = 4) = x := ⟨_, rfl⟩
  try rw [hI]
  have CI := Lib.hid (fun w' => isBlocked_w p.selected I w' (Lib.hid hI))
  have c_selected := h.c_selected
  have PA := Lib.hid h
  have Kpb := Lib.hid hpb
  clear hpb
  clear h
  go_enter Tryz.func47, Tryz.ntmps47
  go_wp2_with (first
    | (go_at_call 36; (with_reducible refine (CI.out _).mono ?_); rintro e w1 ⟨rfl, rfl⟩))
  all_goals go_ret
  all_goals refine ⟨(by refine ret_val ?_; first | rfl | (simp_all; done)), ?_⟩
  all_goals first | exact Below.refl _ _ | exact hb1 | exact (Below.refl _ _).drew | exact below_drewN (Below.refl _ _) _

set_option maxRecDepth 20000 in
set_option maxHeartbeats 1000000 in
theorem ask_role2 (pb g q : Nat) (p : Pt) (R : Bool) (w : World) (hpb : One 50 w pb (pv g q)) (h : PAt w g q p) (hR : Hid ((decide (p.selected = 1) || decide (p.selected = 2)) = R)) :
    Calls Tryz.prog 49 #[.pointer (some ⟨pb, 0, none⟩)] w fun e w' => e = .returned (.bool R) ∧ Below w.heap.size w w' := by
  rw [← hR.out]
  clear hR
  have c_pb := hpb.cell
  have c_selected := h.c_selected
  obtain ⟨z_selected1, e_selected1⟩ : ∃ z, decide (p.selected = 1) = z := ⟨_, rfl⟩
  have d_selected1 : (p.selected == 1) = z_selected1 := by rw [← e_selected1]; rfl
  have n_selected1 : (p.selected != 1) = !z_selected1 := by rw [← d_selected1]; rfl
  try rw [e_selected1]
  clear e_selected1
  obtain ⟨z_selected2, e_selected2⟩ : ∃ z, decide (p.selected = 2) = z := ⟨_, rfl⟩
  have d_selected2 : (p.selected == 2) = z_selected2 := by rw [← e_selected2]; rfl
  have n_selected2 : (p.selected != 2) = !z_selected2 := by rw [← d_selected2]; rfl
  try rw [e_selected2]
  clear e_selected2
  have PA := Lib.hid h
  have Kpb := Lib.hid hpb
  clear hpb
  clear h
  cases z_selected1
  all_goals
    go_enter Tryz.func49, Tryz.ntmps49
    go_wp2
    all_goals go_ret
    all_goals refine ⟨(by refine ret_val ?_; first | rfl | (simp_all; done)), ?_⟩
    all_goals first | exact Below.refl _ _ | exact hb1 | exact (Below.refl _ _).drew | exact below_drewN (Below.refl _ _) _

set_option maxRecDepth 20000 in
set_option maxHeartbeats 1000000 in
theorem ask_block1 (hb pb g q : Nat) (H : Bool) (p : Pt) (R : Bool) (w : World) (hhb : One 4 w hb (.bool H)) (hpb : One 50 w pb (pv g q)) (h : PAt w g q p) (hR : Hid ((H && (stillB p && propB p)) = R)) :
    Calls Tryz.prog 52 #[.pointer (some ⟨hb, 0, none⟩), .pointer (some ⟨pb, 0, none⟩)] w fun e w' => e = .returned (.bool R) ∧ Below w.heap.size w w' := by
  rw [← hR.out]
  clear hR
  have c_hb := hhb.cell
  have c_pb := hpb.cell
  obtain ⟨D, hD⟩ : ∃ x, stillB p = x := ⟨_, rfl⟩
  try rw [hD]
  have CD := Lib.hid (fun w' (h : PAt w' g q p) => discards_w g q p D w' h (Lib.hid hD))
  obtain ⟨P, hP⟩ : ∃ x, propB p = x := ⟨_, rfl⟩
  try rw [hP]
  have CP := Lib.hid (fun w' (h : PAt w' g q p) => isProposed_w g q p P w' h (Lib.hid hP))
  have PA := Lib.hid h
  have Khb := Lib.hid hhb
  clear hhb
  have Kpb := Lib.hid hpb
  clear hpb
  clear h
  cases H <;> cases D
  all_goals
    go_enter Tryz.func52, Tryz.ntmps52
    go_wp2_with (first
    | (go_at_call 53; (with_reducible first | refine (CD.out _ PA.out).mono ?_ | refine (CD.out _ PA1.out).mono ?_); rintro e w1 ⟨rfl, rfl⟩)
    | (go_at_call 54; (with_reducible first | refine (CP.out _ PA.out).mono ?_ | refine (CP.out _ PA1.out).mono ?_); rintro e w1 ⟨rfl, rfl⟩))
    all_goals go_ret
    all_goals refine ⟨(by refine ret_val ?_; first | rfl | (simp_all; done)), ?_⟩
    all_goals first | exact Below.refl _ _ | exact hb1 | exact (Below.refl _ _).drew | exact below_drewN (Below.refl _ _) _

set_option maxRecDepth 20000 in
set_option maxHeartbeats 1000000 in
theorem ask_block2 (hb sb g q : Nat) (H : Bool) (t : Tm) (n cap k : Nat) (l : List Pt) (p : Pt) (R : Bool) (w : World) (hhb : One 4 w hb (.bool H)) (hsb : SBk w sb t g n cap k q) (hr : WRow w g l) (hn : l.length = n) (hl : n ≤ 1000) (hp : l[k]? = some p) (hq : k * 61 = q) (h : PAt w g q p) (hR : Hid ((H && agreesB (othersB syncedO l k) p) = R)) :
    Calls Tryz.prog 56 #[.pointer (some ⟨hb, 0, none⟩), .pointer (some ⟨sb, 0, none⟩)] w fun e w' => e = .returned (.bool R) ∧ Below w.heap.size w w' := by
  rw [← hR.out]
  clear hR
  have c_hb := hhb.cell
  obtain ⟨s0, s1, s2, s3, s4, s5, s6⟩ := hsb.cells
  obtain ⟨A, hA⟩ : ∃ x, agreesB (othersB syncedO l k) p = x := ⟨_, rfl⟩
  try rw [hA]
  have CA := Lib.hid (fun w' (hr : WRow w' g l) => mayAgree_w t g n cap k q l p A w' hr hn hl hp hq (Lib.hid hA))
  have PA := Lib.hid h
  have HR := Lib.hid hr
  clear hr
  have Khb := Lib.hid hhb
  clear hhb
  have Ksb := Lib.hid hsb
  clear hsb
  clear h
  unfold sv scl at *
  cases H
  all_goals
    go_enter Tryz.func56, Tryz.ntmps56
    go_wp2_with (first
    | (go_at_call 57; (with_reducible refine (CA.out _ HR.out).mono ?_); rintro e w1 ⟨rfl, hb1⟩; have PA1 := Lib.hid (PA.out.next hb1)))
    all_goals go_ret
    all_goals refine ⟨(by refine ret_val ?_; first | rfl | (simp_all; done)), ?_⟩
    all_goals first | exact Below.refl _ _ | exact hb1 | exact (Below.refl _ _).drew | exact below_drewN (Below.refl _ _) _

set_option maxRecDepth 20000 in
set_option maxHeartbeats 1000000 in
theorem ask_block4 (pb nb g q : Nat) (N : Int) (p : Pt) (R : Bool) (w : World) (hpb : One 50 w pb (pv g q)) (hnb : One 3 w nb (.int .i64 N)) (h : PAt w g q p) (hR : Hid ((decide (p.role = 4) && !decide (p.rb = N)) = R)) :
    Calls Tryz.prog 61 #[.pointer (some ⟨pb, 0, none⟩), .pointer (some ⟨nb, 0, none⟩)] w fun e w' => e = .returned (.bool R) ∧ Below w.heap.size w w' := by
  rw [← hR.out]
  clear hR
  have c_pb := hpb.cell
  have c_nb := hnb.cell
  have c_role := h.c_role
  obtain ⟨z_role4, e_role4⟩ : ∃ z, decide (p.role = 4) = z := ⟨_, rfl⟩
  have d_role4 : (p.role == 4) = z_role4 := by rw [← e_role4]; rfl
  have n_role4 : (p.role != 4) = !z_role4 := by rw [← d_role4]; rfl
  try rw [e_role4]
  clear e_role4
  have c_rb := h.c_rb
  obtain ⟨z_rbN, e_rbN⟩ : ∃ z, decide (p.rb = N) = z := ⟨_, rfl⟩
  have d_rbN : (p.rb == N) = z_rbN := by rw [← e_rbN]; rfl
  have n_rbN : (p.rb != N) = !z_rbN := by rw [← d_rbN]; rfl
  try rw [e_rbN]
  clear e_rbN
  have PA := Lib.hid h
  have Kpb := Lib.hid hpb
  clear hpb
  have Knb := Lib.hid hnb
  clear hnb
  clear h
  cases z_role4 <;> cases z_rbN
  all_goals
    go_enter Tryz.func61, Tryz.ntmps61
    go_wp2_with fail
    go_quiet (fail)
    go_wp2
    all_goals go_ret
    all_goals refine ⟨(by refine ret_val ?_; first | rfl | (simp_all; done)), ?_⟩
    all_goals first | exact Below.refl _ _ | exact hb1 | exact (Below.refl _ _).drew | exact below_drewN (Below.refl _ _) _

set_option maxRecDepth 20000 in
set_option maxHeartbeats 1000000 in
theorem ask_root1 (pb g q : Nat) (p : Pt) (R : Bool) (w : World) (hpb : One 50 w pb (pv g q)) (h : PAt w g q p) (hR : Hid (propB p = R)) :
    Calls Tryz.prog 63 #[.pointer (some ⟨pb, 0, none⟩)] w fun e w' => e = .returned (.bool R) ∧ Below w.heap.size w w' := by
  rw [← hR.out]
  clear hR
  have c_pb := hpb.cell
  obtain ⟨P, hP⟩ : ∃ x, propB p = x := ⟨_, rfl⟩
  try rw [hP]
  have CP := Lib.hid (fun w' (h : PAt w' g q p) => isProposed_w g q p P w' h (Lib.hid hP))
  have PA := Lib.hid h
  have Kpb := Lib.hid hpb
  clear hpb
  clear h
  go_enter Tryz.func63, Tryz.ntmps63
  go_wp2_with (first
    | (go_at_call 54; (with_reducible first | refine (CP.out _ PA.out).mono ?_ | refine (CP.out _ PA1.out).mono ?_); rintro e w1 ⟨rfl, rfl⟩))
  all_goals go_ret
  all_goals refine ⟨(by refine ret_val ?_; first | rfl | (simp_all; done)), ?_⟩
  all_goals first | exact Below.refl _ _ | exact hb1 | exact (Below.refl _ _).drew | exact below_drewN (Below.refl _ _) _

set_option maxRecDepth 20000 in
set_option maxHeartbeats 1000000 in
theorem ask_root3 (pb g q : Nat) (p : Pt) (R : Bool) (w : World) (hpb : One 50 w pb (pv g q)) (h : PAt w g q p) (hR : Hid (((p.agreed && !p.synced) || (p.sync && p.synced)) = R)) :
    Calls Tryz.prog 65 #[.pointer (some ⟨pb, 0, none⟩)] w fun e w' => e = .returned (.bool R) ∧ Below w.heap.size w w' := by
  rw [← hR.out]
  clear hR
  have c_pb := hpb.cell
  have c_agreed := h.c_agreed
  obtain ⟨x_agreed, e_agreed⟩ : ∃ x, p.agreed = x := ⟨_, rfl⟩
  rw [e_agreed] at c_agreed
  try simp only [e_agreed]
  clear e_agreed
  have c_synced := h.c_synced
  obtain ⟨x_synced, e_synced⟩ : ∃ x, p.synced = x := ⟨_, rfl⟩
  rw [e_synced] at c_synced
  try simp only [e_synced]
  clear e_synced
  have c_sync := h.c_sync
  obtain ⟨x_sync, e_sync⟩ : ∃ x, p.sync = x := ⟨_, rfl⟩
  rw [e_sync] at c_sync
  try simp only [e_sync]
  clear e_sync
  have PA := Lib.hid h
  have Kpb := Lib.hid hpb
  clear hpb
  clear h
  cases x_agreed <;> cases x_sync
  all_goals
    go_enter Tryz.func65, Tryz.ntmps65
    go_wp2
    all_goals go_ret
    all_goals refine ⟨(by refine ret_val ?_; first | rfl | (simp_all; done)), ?_⟩
    all_goals first | exact Below.refl _ _ | exact hb1 | exact (Below.refl _ _).drew | exact below_drewN (Below.refl _ _) _

set_option maxRecDepth 20000 in
set_option maxHeartbeats 1000000 in
theorem ask_root4 (pb g q : Nat) (p : Pt) (R : Bool) (w : World) (hpb : One 50 w pb (pv g q)) (h : PAt w g q p) (hR : Hid ((!p.forward && !p.reroot) = R)) :
    Calls Tryz.prog 67 #[.pointer (some ⟨pb, 0, none⟩)] w fun e w' => e = .returned (.bool R) ∧ Below w.heap.size w w' := by
  rw [← hR.out]
  clear hR
  have c_pb := hpb.cell
  have c_forward := h.c_forward
  obtain ⟨x_forward, e_forward⟩ : ∃ x, p.forward = x := ⟨_, rfl⟩
  rw [e_forward] at c_forward
  try simp only [e_forward]
  clear e_forward
  have c_reroot := h.c_reroot
  obtain ⟨x_reroot, e_reroot⟩ : ∃ x, p.reroot = x := ⟨_, rfl⟩
  rw [e_reroot] at c_reroot
  try simp only [e_reroot]
  clear e_reroot
  have PA := Lib.hid h
  have Kpb := Lib.hid hpb
  clear hpb
  clear h
  cases x_forward
  all_goals
    go_enter Tryz.func67, Tryz.ntmps67
    go_wp2
    all_goals go_ret
    all_goals refine ⟨(by refine ret_val ?_; first | rfl | (simp_all; done)), ?_⟩
    all_goals first | exact Below.refl _ _ | exact hb1 | exact (Below.refl _ _).drew | exact below_drewN (Below.refl _ _) _

set_option maxRecDepth 20000 in
set_option maxHeartbeats 1000000 in
theorem ask_root5 (pb sb g q : Nat) (t : Tm) (n cap k : Nat) (p : Pt) (R : Bool) (w : World) (hpb : One 50 w pb (pv g q)) (hsb : SBk w sb t g n cap k q) (h : PAt w g q p) (hR : Hid ((!decide (p.rr = t.delay)) = R)) :
    Calls Tryz.prog 69 #[.pointer (some ⟨pb, 0, none⟩), .pointer (some ⟨sb, 0, none⟩)] w fun e w' => e = .returned (.bool R) ∧ Below w.heap.size w w' := by
  rw [← hR.out]
  clear hR
  have c_pb := hpb.cell
  obtain ⟨s0, s1, s2, s3, s4, s5, s6⟩ := hsb.cells
  have c_rr := h.c_rr
  obtain ⟨z_rrtdelay, e_rrtdelay⟩ : ∃ z, decide (p.rr = t.delay) = z := ⟨_, rfl⟩
  have d_rrtdelay : (p.rr == t.delay) = z_rrtdelay := by rw [← e_rrtdelay]; rfl
  have n_rrtdelay : (p.rr != t.delay) = !z_rrtdelay := by rw [← d_rrtdelay]; rfl
  try rw [e_rrtdelay]
  clear e_rrtdelay
  have PA := Lib.hid h
  have Kpb := Lib.hid hpb
  clear hpb
  have Ksb := Lib.hid hsb
  clear hsb
  clear h
  go_enter Tryz.func69, Tryz.ntmps69
  go_wp2_with fail
  go_quiet (fail)
  go_wp2
  all_goals go_ret
  all_goals refine ⟨(by refine ret_val ?_; first | rfl | (simp_all; done)), ?_⟩
  all_goals first | exact Below.refl _ _ | exact hb1 | exact (Below.refl _ _).drew | exact below_drewN (Below.refl _ _) _

set_option maxRecDepth 20000 in
set_option maxHeartbeats 1000000 in
theorem ask_root6 (pb g q : Nat) (p : Pt) (R : Bool) (w : World) (hpb : One 50 w pb (pv g q)) (h : PAt w g q p) (hR : Hid ((p.reroot && p.forward) = R)) :
    Calls Tryz.prog 71 #[.pointer (some ⟨pb, 0, none⟩)] w fun e w' => e = .returned (.bool R) ∧ Below w.heap.size w w' := by
  rw [← hR.out]
  clear hR
  have c_pb := hpb.cell
  have c_forward := h.c_forward
  obtain ⟨x_forward, e_forward⟩ : ∃ x, p.forward = x := ⟨_, rfl⟩
  rw [e_forward] at c_forward
  try simp only [e_forward]
  clear e_forward
  have c_reroot := h.c_reroot
  obtain ⟨x_reroot, e_reroot⟩ : ∃ x, p.reroot = x := ⟨_, rfl⟩
  rw [e_reroot] at c_reroot
  try simp only [e_reroot]
  clear e_reroot
  have PA := Lib.hid h
  have Kpb := Lib.hid hpb
  clear hpb
  clear h
  cases x_reroot
  all_goals
    go_enter Tryz.func71, Tryz.ntmps71
    go_wp2
    all_goals go_ret
    all_goals refine ⟨(by refine ret_val ?_; first | rfl | (simp_all; done)), ?_⟩
    all_goals first | exact Below.refl _ _ | exact hb1 | exact (Below.refl _ _).drew | exact below_drewN (Below.refl _ _) _

set_option maxRecDepth 20000 in
set_option maxHeartbeats 1000000 in
theorem ask_root7 (sb pb g q : Nat) (t : Tm) (n cap k : Nat) (l : List Pt) (p : Pt) (R : Bool) (w : World) (hsb : SBk w sb t g n cap k q) (hpb : One 50 w pb (pv g q)) (hr : WRow w g l) (hn : l.length = n) (hl : n ≤ 1000) (hp : l[k]? = some p) (hq : k * 61 = q) (h : PAt w g q p) (hR : Hid ((rootMayB (othersB rerootedO l k) p && closedB p) = R)) :
    Calls Tryz.prog 73 #[.pointer (some ⟨sb, 0, none⟩), .pointer (some ⟨pb, 0, none⟩)] w fun e w' => e = .returned (.bool R) ∧ Below w.heap.size w w' := by
  rw [← hR.out]
  clear hR
  obtain ⟨s0, s1, s2, s3, s4, s5, s6⟩ := hsb.cells
  have c_pb := hpb.cell
  obtain ⟨A, hA⟩ : ∃ x, rootMayB (othersB rerootedO l k) p = x := ⟨_, rfl⟩
  try rw [hA]
  have CA := Lib.hid (fun w' (hr : WRow w' g l) => rootMayOpen_w t g n cap k q l p A w' hr hn hl hp hq (Lib.hid hA))
  obtain ⟨C, hC⟩ : ∃ x, closedB p = x := ⟨_, rfl⟩
  try rw [hC]
  have CC := Lib.hid (fun w' (h : PAt w' g q p) => isClosed_w g q p C w' h (Lib.hid hC))
  have PA := Lib.hid h
  have HR := Lib.hid hr
  clear hr
  have Ksb := Lib.hid hsb
  clear hsb
  have Kpb := Lib.hid hpb
  clear hpb
  clear h
  unfold sv scl at *
  cases A
  all_goals
    go_enter Tryz.func73, Tryz.ntmps73
    go_wp2_with (first
    | (go_at_call 74; (with_reducible refine (CA.out _ HR.out).mono ?_); rintro e w1 ⟨rfl, hb1⟩; have PA1 := Lib.hid (PA.out.next hb1); have c_pb1 := (Kpb.out.next hb1).cell)
    | (go_at_call 75; (with_reducible first | refine (CC.out _ PA.out).mono ?_ | refine (CC.out _ PA1.out).mono ?_); rintro e w1 ⟨rfl, rfl⟩))
    all_goals go_ret
    all_goals refine ⟨(by refine ret_val ?_; first | rfl | (simp_all; done)), ?_⟩
    all_goals first | exact Below.refl _ _ | exact hb1 | exact (Below.refl _ _).drew | exact below_drewN (Below.refl _ _) _

set_option maxRecDepth 20000 in
set_option maxHeartbeats 1000000 in
theorem ask_des1 (pb g q : Nat) (p : Pt) (R : Bool) (w : World) (hpb : One 50 w pb (pv g q)) (h : PAt w g q p) (hR : Hid ((!p.forward && (!p.agreed && (!p.proposing && (!p.oper && p.sendRstp)))) = R)) :
    Calls Tryz.prog 77 #[.pointer (some ⟨pb, 0, none⟩)] w fun e w' => e = .returned (.bool R) ∧ Below w.heap.size w w' := by
  rw [← hR.out]
  clear hR
  have c_pb := hpb.cell
  have c_forward := h.c_forward
  obtain ⟨x_forward, e_forward⟩ : ∃ x, p.forward = x := ⟨_, rfl⟩
  rw [e_forward] at c_forward
  try simp only [e_forward]
  clear e_forward
  have c_agreed := h.c_agreed
  obtain ⟨x_agreed, e_agreed⟩ : ∃ x, p.agreed = x := ⟨_, rfl⟩
  rw [e_agreed] at c_agreed
  try simp only [e_agreed]
  clear e_agreed
  have c_proposing := h.c_proposing
  obtain ⟨x_proposing, e_proposing⟩ : ∃ x, p.proposing = x := ⟨_, rfl⟩
  rw [e_proposing] at c_proposing
  try simp only [e_proposing]
  clear e_proposing
  have c_oper := h.c_oper
  obtain ⟨x_oper, e_oper⟩ : ∃ x, p.oper = x := ⟨_, rfl⟩
  rw [e_oper] at c_oper
  try simp only [e_oper]
  clear e_oper
  have c_sendRstp := h.c_sendRstp
  obtain ⟨x_sendRstp, e_sendRstp⟩ : ∃ x, p.sendRstp = x := ⟨_, rfl⟩
  rw [e_sendRstp] at c_sendRstp
  try simp only [e_sendRstp]
  clear e_sendRstp
  have PA := Lib.hid h
  have Kpb := Lib.hid hpb
  clear hpb
  clear h
  go_enter Tryz.func77, Tryz.ntmps77
  go_wp2
  all_goals go_ret
  all_goals refine ⟨(by refine ret_val ?_; first | rfl | (simp_all; done)), ?_⟩
  all_goals first | exact Below.refl _ _ | exact hb1 | exact (Below.refl _ _).drew | exact below_drewN (Below.refl _ _) _

set_option maxRecDepth 20000 in
set_option maxHeartbeats 1000000 in
theorem ask_des2 (pb g q : Nat) (p : Pt) (R : Bool) (w : World) (hpb : One 50 w pb (pv g q)) (h : PAt w g q p) (hR : Hid (((!p.synced && (stillB p || (p.agreed || p.oper))) || (p.sync && p.synced)) = R)) :
    Calls Tryz.prog 79 #[.pointer (some ⟨pb, 0, none⟩)] w fun e w' => e = .returned (.bool R) ∧ Below w.heap.size w w' := by
  rw [← hR.out]
  clear hR
  have c_pb := hpb.cell
  obtain ⟨D, hD⟩ : ∃ x, stillB p = x := ⟨_, rfl⟩
  try rw [hD]
  have CD := Lib.hid (fun w' (h : PAt w' g q p) => discards_w g q p D w' h (Lib.hid hD))
  have c_synced := h.c_synced
  obtain ⟨x_synced, e_synced⟩ : ∃ x, p.synced = x := ⟨_, rfl⟩
  rw [e_synced] at c_synced
  try simp only [e_synced]
  clear e_synced
  have c_agreed := h.c_agreed
  obtain ⟨x_agreed, e_agreed⟩ : ∃ x, p.agreed = x := ⟨_, rfl⟩
  rw [e_agreed] at c_agreed
  try simp only [e_agreed]
  clear e_agreed
  have c_oper := h.c_oper
  obtain ⟨x_oper, e_oper⟩ : ∃ x, p.oper = x := ⟨_, rfl⟩
  rw [e_oper] at c_oper
  try simp only [e_oper]
  clear e_oper
  have c_sync := h.c_sync
  obtain ⟨x_sync, e_sync⟩ : ∃ x, p.sync = x := ⟨_, rfl⟩
  rw [e_sync] at c_sync
  try simp only [e_sync]
  clear e_sync
  have PA := Lib.hid h
  have Kpb := Lib.hid hpb
  clear hpb
  clear h
  cases x_synced <;> cases D
  all_goals
    go_enter Tryz.func79, Tryz.ntmps79
    go_wp2_with (first
    | (go_at_call 53; (with_reducible first | refine (CD.out _ PA.out).mono ?_ | refine (CD.out _ PA1.out).mono ?_); rintro e w1 ⟨rfl, rfl⟩))
    all_goals go_ret
    all_goals refine ⟨(by refine ret_val ?_; first | rfl | (simp_all; done)), ?_⟩
    all_goals first | exact Below.refl _ _ | exact hb1 | exact (Below.refl _ _).drew | exact below_drewN (Below.refl _ _) _

set_option maxRecDepth 20000 in
set_option maxHeartbeats 1000000 in
theorem ask_des3 (pb g q : Nat) (p : Pt) (R : Bool) (w : World) (hpb : One 50 w pb (pv g q)) (h : PAt w g q p) (hR : Hid ((decide (p.rr = 0) && p.reroot) = R)) :
    Calls Tryz.prog 81 #[.pointer (some ⟨pb, 0, none⟩)] w fun e w' => e = .returned (.bool R) ∧ Below w.heap.size w w' := by
  rw [← hR.out]
  clear hR
  have c_pb := hpb.cell
  have c_reroot := h.c_reroot
  obtain ⟨x_reroot, e_reroot⟩ : ∃ x, p.reroot = x := ⟨_, rfl⟩
  rw [e_reroot] at c_reroot
  try simp only [e_reroot]
  clear e_reroot
  have c_rr := h.c_rr
  obtain ⟨z_rr0, e_rr0⟩ : ∃ z, decide (p.rr = 0) = z := ⟨_, rfl⟩
  have d_rr0 : (p.rr == 0) = z_rr0 := by rw [← e_rr0]; rfl
  have n_rr0 : (p.rr != 0) = !z_rr0 := by rw [← d_rr0]; rfl
  try rw [e_rr0]
  clear e_rr0
  have PA := Lib.hid h
  have Kpb := Lib.hid hpb
  clear hpb
  clear h
  cases z_rr0
  all_goals
    go_enter Tryz.func81, Tryz.ntmps81
    go_wp2
    all_goals go_ret
    all_goals refine ⟨(by refine ret_val ?_; first | rfl | (simp_all; done)), ?_⟩
    all_goals first | exact Below.refl _ _ | exact hb1 | exact (Below.refl _ _).drew | exact below_drewN (Below.refl _ _) _

set_option maxRecDepth 20000 in
set_option maxHeartbeats 1000000 in
theorem ask_des4 (pb g q : Nat) (p : Pt) (R : Bool) (w : World) (hpb : One 50 w pb (pv g q)) (h : PAt w g q p) (hR : Hid ((desStops p && (!p.oper && (p.learn || p.forward))) = R)) :
    Calls Tryz.prog 83 #[.pointer (some ⟨pb, 0, none⟩)] w fun e w' => e = .returned (.bool R) ∧ Below w.heap.size w w' := by
  rw [← hR.out]
  clear hR
  have c_pb := hpb.cell
  obtain ⟨M, hM⟩ : ∃ x, desStops p = x := ⟨_, rfl⟩
  try rw [hM]
  have CM := Lib.hid (fun w' (h : PAt w' g q p) => mustClose_w g q p M w' h (Lib.hid hM))
  have c_oper := h.c_oper
  obtain ⟨x_oper, e_oper⟩ : ∃ x, p.oper = x := ⟨_, rfl⟩
  rw [e_oper] at c_oper
  try simp only [e_oper]
  clear e_oper
  have c_learn := h.c_learn
  obtain ⟨x_learn, e_learn⟩ : ∃ x, p.learn = x := ⟨_, rfl⟩
  rw [e_learn] at c_learn
  try simp only [e_learn]
  clear e_learn
  have c_forward := h.c_forward
  obtain ⟨x_forward, e_forward⟩ : ∃ x, p.forward = x := ⟨_, rfl⟩
  rw [e_forward] at c_forward
  try simp only [e_forward]
  clear e_forward
  have PA := Lib.hid h
  have Kpb := Lib.hid hpb
  clear hpb
  clear h
  cases M <;> cases x_oper <;> cases x_learn
  all_goals
    go_enter Tryz.func83, Tryz.ntmps83
    go_wp2_with (first
    | (go_at_call 84; (with_reducible first | refine (CM.out _ PA.out).mono ?_ | refine (CM.out _ PA1.out).mono ?_); rintro e w1 ⟨rfl, rfl⟩))
    all_goals go_ret
    all_goals refine ⟨(by refine ret_val ?_; first | rfl | (simp_all; done)), ?_⟩
    all_goals first | exact Below.refl _ _ | exact hb1 | exact (Below.refl _ _).drew | exact below_drewN (Below.refl _ _) _

set_option maxRecDepth 20000 in
set_option maxHeartbeats 1000000 in
theorem ask_des5 (pb g q : Nat) (p : Pt) (R : Bool) (w : World) (hpb : One 50 w pb (pv g q)) (h : PAt w g q p) (hR : Hid ((desMay p && closedB p) = R)) :
    Calls Tryz.prog 86 #[.pointer (some ⟨pb, 0, none⟩)] w fun e w' => e = .returned (.bool R) ∧ Below w.heap.size w w' := by
  rw [← hR.out]
  clear hR
  have c_pb := hpb.cell
  obtain ⟨M, hM⟩ : ∃ x, desMay p = x := ⟨_, rfl⟩
  try rw [hM]
  have CM := Lib.hid (fun w' (h : PAt w' g q p) => desMay_w g q p M w' h (Lib.hid hM))
  obtain ⟨C, hC⟩ : ∃ x, closedB p = x := ⟨_, rfl⟩
  try rw [hC]
  have CC := Lib.hid (fun w' (h : PAt w' g q p) => isClosed_w g q p C w' h (Lib.hid hC))
  have PA := Lib.hid h
  have Kpb := Lib.hid hpb
  clear hpb
  clear h
  cases M
  all_goals
    go_enter Tryz.func86, Tryz.ntmps86
    go_wp2_with (first
    | (go_at_call 87; (with_reducible first | refine (CM.out _ PA.out).mono ?_ | refine (CM.out _ PA1.out).mono ?_); rintro e w1 ⟨rfl, rfl⟩)
    | (go_at_call 75; (with_reducible first | refine (CC.out _ PA.out).mono ?_ | refine (CC.out _ PA1.out).mono ?_); rintro e w1 ⟨rfl, rfl⟩))
    all_goals go_ret
    all_goals refine ⟨(by refine ret_val ?_; first | rfl | (simp_all; done)), ?_⟩
    all_goals first | exact Below.refl _ _ | exact hb1 | exact (Below.refl _ _).drew | exact below_drewN (Below.refl _ _) _

set_option maxRecDepth 20000 in
set_option maxHeartbeats 2000000 in
theorem ask_block3 (pb nb g q : Nat) (N : Int) (p : Pt) (R : Bool) (w : World) (hpb : One 50 w pb (pv g q)) (hnb : One 3 w nb (.int .i64 N)) (h : PAt w g q p) (hR : Hid ((stillB p && (!decide (p.fd = N) || (p.sync || (p.reroot || !p.synced)))) = R)) :
    Calls Tryz.prog 59 #[.pointer (some ⟨pb, 0, none⟩), .pointer (some ⟨nb, 0, none⟩)] w fun e w' => e = .returned (.bool R) ∧ Below w.heap.size w w' := by
  rw [← hR.out]
  clear hR
  have c_pb := hpb.cell
  have c_nb := hnb.cell
  obtain ⟨D, hD⟩ : ∃ x, stillB p = x := ⟨_, rfl⟩
  rw [hD]
  have CD := Lib.hid (fun w' (h : PAt w' g q p) => discards_w g q p D w' h (Lib.hid hD))
  have c_fd := h.c_fd
  obtain ⟨z_fd, e_fd⟩ : ∃ z, decide (p.fd = N) = z := ⟨_, rfl⟩
  have d_fd : (p.fd == N) = z_fd := by rw [← e_fd]; rfl
  have n_fd : (p.fd != N) = !z_fd := by rw [← d_fd]; rfl
  rw [e_fd]
  have c_sync := h.c_sync
  obtain ⟨x_sync, e_1⟩ : ∃ x, p.sync = x := ⟨_, rfl⟩
  rw [e_1] at c_sync ⊢
  have c_reroot := h.c_reroot
  obtain ⟨x_reroot, e_2⟩ : ∃ x, p.reroot = x := ⟨_, rfl⟩
  rw [e_2] at c_reroot ⊢
  have c_synced := h.c_synced
  obtain ⟨x_synced, e_3⟩ : ∃ x, p.synced = x := ⟨_, rfl⟩
  rw [e_3] at c_synced ⊢
  have PA := Lib.hid h
  have CQ := Lib.hid (fun (n : Nat) => (CD.out (w.drewN n) ⟨h.lt, h.at_, h.free⟩).mono (fun e w' (he : e = .returned (.bool D) ∧ w.drewN n = w') => (⟨he.1, he.2.symm⟩ : e = .returned (.bool D) ∧ w' = w.drewN n)))
  clear h hpb hnb hD e_fd e_1 e_2 e_3
  cases D with
  | false =>
    go_enter Tryz.func59, Tryz.ntmps59
    go_wp2_with fail
    go_quiet ((go_at_call 53; exact Calls.quiet_of_same (CQ.out _)))
    all_goals go_wp2
    all_goals go_ret
    all_goals refine ⟨(by refine ret_val ?_; first | rfl | (simp_all; done)), ?_⟩
    all_goals first | exact Below.refl _ _ | exact (Below.refl _ _).drew | exact below_drewN (Below.refl _ _) _
  | true =>
    cases z_fd with
    | false =>
      go_enter Tryz.func59, Tryz.ntmps59
      go_wp2_with fail
      go_quiet ((go_at_call 53; exact Calls.quiet_of_same (CQ.out _)))
      all_goals go_wp2
      all_goals go_ret
      all_goals refine ⟨(by refine ret_val ?_; first | rfl | (simp_all; done)), ?_⟩
      all_goals first | exact Below.refl _ _ | exact (Below.refl _ _).drew | exact below_drewN (Below.refl _ _) _
    | true =>
      cases x_sync with
      | false =>
        cases x_reroot with
        | false =>
          cases x_synced with
          | false =>
            go_enter Tryz.func59, Tryz.ntmps59
            go_wp2_with fail
            go_quiet ((go_at_call 53; exact Calls.quiet_of_same (CQ.out _)))
            all_goals go_wp2
            all_goals go_ret
            all_goals refine ⟨(by refine ret_val ?_; first | rfl | (simp_all; done)), ?_⟩
            all_goals first | exact Below.refl _ _ | exact (Below.refl _ _).drew | exact below_drewN (Below.refl _ _) _
          | true =>
            go_enter Tryz.func59, Tryz.ntmps59
            go_wp2_with fail
            go_quiet ((go_at_call 53; exact Calls.quiet_of_same (CQ.out _)))
            all_goals go_wp2
            all_goals go_ret
            all_goals refine ⟨(by refine ret_val ?_; first | rfl | (simp_all; done)), ?_⟩
            all_goals first | exact Below.refl _ _ | exact (Below.refl _ _).drew | exact below_drewN (Below.refl _ _) _
        | true =>
          go_enter Tryz.func59, Tryz.ntmps59
          go_wp2_with fail
          go_quiet ((go_at_call 53; exact Calls.quiet_of_same (CQ.out _)))
          all_goals go_wp2
          all_goals go_ret
          all_goals refine ⟨(by refine ret_val ?_; first | rfl | (simp_all; done)), ?_⟩
          all_goals first | exact Below.refl _ _ | exact (Below.refl _ _).drew | exact below_drewN (Below.refl _ _) _
      | true =>
        go_enter Tryz.func59, Tryz.ntmps59
        go_wp2_with fail
        go_quiet ((go_at_call 53; exact Calls.quiet_of_same (CQ.out _)))
        all_goals go_wp2
        all_goals go_ret
        all_goals refine ⟨(by refine ret_val ?_; first | rfl | (simp_all; done)), ?_⟩
        all_goals first | exact Below.refl _ _ | exact (Below.refl _ _).drew | exact below_drewN (Below.refl _ _) _
end Go.Proofs.YtojfmnndfophhaaGreat
