/-
  Layer 12: the closures of a table of moves that ask.
  Layer 12: the closures of a table of moves that do: what turns in a port.
  Layer 12: agree, open; the closures that do more than one thing.
-/
import Derived.Test.YtldobcfejldbiaaGreatDoorMak
namespace Go.Proofs.YtldobcfejldbiaaGreatDoor
set_option linter.unusedVariables false
set_option linter.unusedSimpArgs false
open Go.RowKit Vm Rm Bm Im

set_option maxRecDepth 20000 in
set_option maxHeartbeats 1000000 in
theorem ask_role1 (pb g q : Nat) (p : Pt) (R : Bool) (w : World) (hpb : One 149 w pb (pv g q)) (h : PAt w g q p) (hR : Hid (decide (p.selected = 0 ∨ p.selected = 3 ∨ p.selected = 4) = R)) :
    Calls Tryz.prog 224 #[.pointer (some ⟨pb, 0, none⟩)] w fun e w' => e = .returned (.bool R) ∧ Below w.heap.size w w' := by
  rw [← hR.out]
  clear hR
  have c_pb := hpb.cell
  obtain ⟨I, hI⟩ : ∃ x, decide (p.selected = 0 ∨ p.selected = 3 ∨ p.selected = 4) = x := ⟨_, rfl⟩
  try rw [hI]
  have CI := Lib.hid (fun w' => isBlocked_w p.selected I w' (Lib.hid hI))
  have c_selected := h.c_selected
  have PA := Lib.hid h
  have Kpb := Lib.hid hpb
  clear hpb
  clear h
  go_enter Tryz.func224, Tryz.ntmps224
  go_wp2_with (first
    | (go_at_call 211; (with_reducible refine (CI.out _).mono ?_); rintro e w1 ⟨rfl, rfl⟩))
  all_goals go_ret
  all_goals refine ⟨(by refine ret_val ?_; first | rfl | (simp_all; done)), ?_⟩
  all_goals first | exact Below.refl _ _ | exact hb1 | exact (Below.refl _ _).drew | exact below_drewN (Below.refl _ _) _

set_option maxRecDepth 20000 in
set_option maxHeartbeats 1000000 in
theorem ask_role2 (pb g q : Nat) (p : Pt) (R : Bool) (w : World) (hpb : One 149 w pb (pv g q)) (h : PAt w g q p) (hR : Hid ((decide (p.selected = 1) || decide (p.selected = 2)) = R)) :
    Calls Tryz.prog 226 #[.pointer (some ⟨pb, 0, none⟩)] w fun e w' => e = .returned (.bool R) ∧ Below w.heap.size w w' := by
  rw [← hR.out]
  clear hR
  have c_pb := hpb.cell
  have c_selected := h.c_selected
  obtain ⟨z_selected1, e_selected1⟩ : ∃ z, decide (p.selected = 1) = z := ⟨_, rfl⟩
  have d_selected1 : (p.selected == 1) = z_selected1 := by rw [← e_selected1]; rfl
  have n_selected1 : (p.selected != 1) = !z_selected1 := by rw [← d_selected1]; rfl
  try rw [e_selected1]
  clear e_selected1
  obtain ⟨z_selected2, e_selected2⟩ : ∃ z, decide (p.selected = 2) = z := ⟨_, rfl⟩
  have d_selected2 : (p.selected == 2) = z_selected2 := by rw [← e_selected2]; rfl
  have n_selected2 : (p.selected != 2) = !z_selected2 := by rw [← d_selected2]; rfl
  try rw [e_selected2]
  clear e_selected2
  have PA := Lib.hid h
  have Kpb := Lib.hid hpb
  clear hpb
  clear h
  cases z_selected1
  all_goals
    go_enter Tryz.func226, Tryz.ntmps226
    go_wp2
    all_goals go_ret
    all_goals refine ⟨(by refine ret_val ?_; first | rfl | (simp_all; done)), ?_⟩
    all_goals first | exact Below.refl _ _ | exact hb1 | exact (Below.refl _ _).drew | exact below_drewN (Below.refl _ _) _

set_option maxRecDepth 20000 in
set_option maxHeartbeats 1000000 in
theorem ask_block1 (hb pb g q : Nat) (H : Bool) (p : Pt) (R : Bool) (w : World) (hhb : One 4 w hb (.bool H)) (hpb : One 149 w pb (pv g q)) (h : PAt w g q p) (hR : Hid ((H && (stillB p && propB p)) = R)) :
    Calls Tryz.prog 229 #[.pointer (some ⟨hb, 0, none⟩), .pointer (some ⟨pb, 0, none⟩)] w fun e w' => e = .returned (.bool R) ∧ Below w.heap.size w w' := by
  rw [← hR.out]
  clear hR
  have c_hb := hhb.cell
  have c_pb := hpb.cell
  obtain ⟨D, hD⟩ : ∃ x, stillB p = x := ⟨_, rfl⟩
  try rw [hD]
  have CD := Lib.hid (fun w' (h : PAt w' g q p) => discards_w g q p D w' h (Lib.hid hD))
  obtain ⟨P, hP⟩ : ∃ x, propB p = x := ⟨_, rfl⟩
  try rw [hP]
  have CP := Lib.hid (fun w' (h : PAt w' g q p) => isProposed_w g q p P w' h (Lib.hid hP))
  have PA := Lib.hid h
  have Khb := Lib.hid hhb
  clear hhb
  have Kpb := Lib.hid hpb
  clear hpb
  clear h
  cases H <;> cases D
  all_goals
    go_enter Tryz.func229, Tryz.ntmps229
    go_wp2_with (first
    | (go_at_call 230; (with_reducible first | refine (CD.out _ PA.out).mono ?_ | refine (CD.out _ PA1.out).mono ?_); rintro e w1 ⟨rfl, rfl⟩)
    | (go_at_call 231; (with_reducible first | refine (CP.out _ PA.out).mono ?_ | refine (CP.out _ PA1.out).mono ?_); rintro e w1 ⟨rfl, rfl⟩))
    all_goals go_ret
    all_goals refine ⟨(by refine ret_val ?_; first | rfl | (simp_all; done)), ?_⟩
    all_goals first | exact Below.refl _ _ | exact hb1 | exact (Below.refl _ _).drew | exact below_drewN (Below.refl _ _) _

set_option maxRecDepth 20000 in
set_option maxHeartbeats 1000000 in
theorem ask_block2 (hb sb g q : Nat) (H : Bool) (t : Tm) (n cap k : Nat) (l : List Pt) (p : Pt) (R : Bool) (w : World) (hhb : One 4 w hb (.bool H)) (hsb : SBk w sb t g n cap k q) (hr : WRow w g l) (hn : l.length = n) (hl : n ≤ 1000) (hp : l[k]? = some p) (hq : k * 61 = q) (h : PAt w g q p) (hR : Hid ((H && agreesB (othersB syncedO l k) p) = R)) :
    Calls Tryz.prog 233 #[.pointer (some ⟨hb, 0, none⟩), .pointer (some ⟨sb, 0, none⟩)] w fun e w' => e = .returned (.bool R) ∧ Below w.heap.size w w' := by
  rw [← hR.out]
  clear hR
  have c_hb := hhb.cell
  obtain ⟨s0, s1, s2, s3, s4, s5, s6⟩ := hsb.cells
  obtain ⟨A, hA⟩ : ∃ x, agreesB (othersB syncedO l k) p = x := ⟨_, rfl⟩
  try rw [hA]
  have CA := Lib.hid (fun w' (hr : WRow w' g l) => mayAgree_w t g n cap k q l p A w' hr hn hl hp hq (Lib.hid hA))
  have PA := Lib.hid h
  have HR := Lib.hid hr
  clear hr
  have Khb := Lib.hid hhb
  clear hhb
  have Ksb := Lib.hid hsb
  clear hsb
  clear h
  unfold sv scl at *
  cases H
  all_goals
    go_enter Tryz.func233, Tryz.ntmps233
    go_wp2_with (first
    | (go_at_call 234; (with_reducible refine (CA.out _ HR.out).mono ?_); rintro e w1 ⟨rfl, hb1⟩; have PA1 := Lib.hid (PA.out.next hb1)))
    all_goals go_ret
    all_goals refine ⟨(by refine ret_val ?_; first | rfl | (simp_all; done)), ?_⟩
    all_goals first | exact Below.refl _ _ | exact hb1 | exact (Below.refl _ _).drew | exact below_drewN (Below.refl _ _) _

set_option maxRecDepth 20000 in
set_option maxHeartbeats 1000000 in
theorem ask_block4 (pb nb g q : Nat) (N : Int) (p : Pt) (R : Bool) (w : World) (hpb : One 149 w pb (pv g q)) (hnb : One 3 w nb (.int .i64 N)) (h : PAt w g q p) (hR : Hid ((decide (p.role = 4) && !decide (p.rb = N)) = R)) :
    Calls Tryz.prog 238 #[.pointer (some ⟨pb, 0, none⟩), .pointer (some ⟨nb, 0, none⟩)] w fun e w' => e = .returned (.bool R) ∧ Below w.heap.size w w' := by
  rw [← hR.out]
  clear hR
  have c_pb := hpb.cell
  have c_nb := hnb.cell
  have c_role := h.c_role
  obtain ⟨z_role4, e_role4⟩ : ∃ z, decide (p.role = 4) = z := ⟨_, rfl⟩
  have d_role4 : (p.role == 4) = z_role4 := by rw [← e_role4]; rfl
  have n_role4 : (p.role != 4) = !z_role4 := by rw [← d_role4]; rfl
  try rw [e_role4]
  clear e_role4
  have c_rb := h.c_rb
  obtain ⟨z_rbN, e_rbN⟩ : ∃ z, decide (p.rb = N) = z := ⟨_, rfl⟩
  have d_rbN : (p.rb == N) = z_rbN := by rw [← e_rbN]; rfl
  have n_rbN : (p.rb != N) = !z_rbN := by rw [← d_rbN]; rfl
  try rw [e_rbN]
  clear e_rbN
  have PA := Lib.hid h
  have Kpb := Lib.hid hpb
  clear hpb
  have Knb := Lib.hid hnb
  clear hnb
  clear h
  cases z_role4 <;> cases z_rbN
  all_goals
    go_enter Tryz.func238, Tryz.ntmps238
    go_wp2_with fail
    go_quiet (fail)
    go_wp2
    all_goals go_ret
    all_goals refine ⟨(by refine ret_val ?_; first | rfl | (simp_all; done)), ?_⟩
    all_goals first | exact Below.refl _ _ | exact hb1 | exact (Below.refl _ _).drew | exact below_drewN (Below.refl _ _) _

set_option maxRecDepth 20000 in
set_option maxHeartbeats 1000000 in
theorem ask_root1 (pb g q : Nat) (p : Pt) (R : Bool) (w : World) (hpb : One 149 w pb (pv g q)) (h : PAt w g q p) (hR : Hid (propB p = R)) :
    Calls Tryz.prog 240 #[.pointer (some ⟨pb, 0, none⟩)] w fun e w' => e = .returned (.bool R) ∧ Below w.heap.size w w' := by
  rw [← hR.out]
  clear hR
  have c_pb := hpb.cell
  obtain ⟨P, hP⟩ : ∃ x, propB p = x := ⟨_, rfl⟩
  try rw [hP]
  have CP := Lib.hid (fun w' (h : PAt w' g q p) => isProposed_w g q p P w' h (Lib.hid hP))
  have PA := Lib.hid h
  have Kpb := Lib.hid hpb
  clear hpb
  clear h
  go_enter Tryz.func240, Tryz.ntmps240
  go_wp2_with (first
    | (go_at_call 231; (with_reducible first | refine (CP.out _ PA.out).mono ?_ | refine (CP.out _ PA1.out).mono ?_); rintro e w1 ⟨rfl, rfl⟩))
  all_goals go_ret
  all_goals refine ⟨(by refine ret_val ?_; first | rfl | (simp_all; done)), ?_⟩
  all_goals first | exact Below.refl _ _ | exact hb1 | exact (Below.refl _ _).drew | exact below_drewN (Below.refl _ _) _

set_option maxRecDepth 20000 in
set_option maxHeartbeats 1000000 in
theorem ask_root3 (pb g q : Nat) (p : Pt) (R : Bool) (w : World) (hpb : One 149 w pb (pv g q)) (h : PAt w g q p) (hR : Hid (((p.agreed && !p.synced) || (p.sync && p.synced)) = R)) :
    Calls Tryz.prog 242 #[.pointer (some ⟨pb, 0, none⟩)] w fun e w' => e = .returned (.bool R) ∧ Below w.heap.size w w' := by
  rw [← hR.out]
  clear hR
  have c_pb := hpb.cell
  have c_agreed := h.c_agreed
  obtain ⟨x_agreed, e_agreed⟩ : ∃ x, p.agreed = x := ⟨_, rfl⟩
  rw [e_agreed] at c_agreed
  try simp only [e_agreed]
  clear e_agreed
  have c_synced := h.c_synced
  obtain ⟨x_synced, e_synced⟩ : ∃ x, p.synced = x := ⟨_, rfl⟩
  rw [e_synced] at c_synced
  try simp only [e_synced]
  clear e_synced
  have c_sync := h.c_sync
  obtain ⟨x_sync, e_sync⟩ : ∃ x, p.sync = x := ⟨_, rfl⟩
  rw [e_sync] at c_sync
  try simp only [e_sync]
  clear e_sync
  have PA := Lib.hid h
  have Kpb := Lib.hid hpb
  clear hpb
  clear h
  cases x_agreed <;> cases x_sync
  all_goals
    go_enter Tryz.func242, Tryz.ntmps242
    go_wp2
    all_goals go_ret
    all_goals refine ⟨(by refine ret_val ?_; first | rfl | (simp_all; done)), ?_⟩
    all_goals first | exact Below.refl _ _ | exact hb1 | exact (Below.refl _ _).drew | exact below_drewN (Below.refl _ _) _

set_option maxRecDepth 20000 in
set_option maxHeartbeats 1000000 in
theorem ask_root4 (pb g q : Nat) (p : Pt) (R : Bool) (w : World) (hpb : One 149 w pb (pv g q)) (h : PAt w g q p) (hR : Hid ((!p.forward && !p.reroot) = R)) :
    Calls Tryz.prog 244 #[.pointer (some ⟨pb, 0, none⟩)] w fun e w' => e = .returned (.bool R) ∧ Below w.heap.size w w' := by
  rw [← hR.out]
  clear hR
  have c_pb := hpb.cell
  have c_forward := h.c_forward
  obtain ⟨x_forward, e_forward⟩ : ∃ x, p.forward = x := ⟨_, rfl⟩
  rw [e_forward] at c_forward
  try simp only [e_forward]
  clear e_forward
  have c_reroot := h.c_reroot
  obtain ⟨x_reroot, e_reroot⟩ : ∃ x, p.reroot = x := ⟨_, rfl⟩
  rw [e_reroot] at c_reroot
  try simp only [e_reroot]
  clear e_reroot
  have PA := Lib.hid h
  have Kpb := Lib.hid hpb
  clear hpb
  clear h
  cases x_forward
  all_goals
    go_enter Tryz.func244, Tryz.ntmps244
    go_wp2
    all_goals go_ret
    all_goals refine ⟨(by refine ret_val ?_; first | rfl | (simp_all; done)), ?_⟩
    all_goals first | exact Below.refl _ _ | exact hb1 | exact (Below.refl _ _).drew | exact below_drewN (Below.refl _ _) _

set_option maxRecDepth 20000 in
set_option maxHeartbeats 1000000 in
theorem ask_root5 (pb sb g q : Nat) (t : Tm) (n cap k : Nat) (p : Pt) (R : Bool) (w : World) (hpb : One 149 w pb (pv g q)) (hsb : SBk w sb t g n cap k q) (h : PAt w g q p) (hR : Hid ((!decide (p.rr = t.delay)) = R)) :
    Calls Tryz.prog 246 #[.pointer (some ⟨pb, 0, none⟩), .pointer (some ⟨sb, 0, none⟩)] w fun e w' => e = .returned (.bool R) ∧ Below w.heap.size w w' := by
  rw [← hR.out]
  clear hR
  have c_pb := hpb.cell
  obtain ⟨s0, s1, s2, s3, s4, s5, s6⟩ := hsb.cells
  have c_rr := h.c_rr
  obtain ⟨z_rrtdelay, e_rrtdelay⟩ : ∃ z, decide (p.rr = t.delay) = z := ⟨_, rfl⟩
  have d_rrtdelay : (p.rr == t.delay) = z_rrtdelay := by rw [← e_rrtdelay]; rfl
  have n_rrtdelay : (p.rr != t.delay) = !z_rrtdelay := by rw [← d_rrtdelay]; rfl
  try rw [e_rrtdelay]
  clear e_rrtdelay
  have PA := Lib.hid h
  have Kpb := Lib.hid hpb
  clear hpb
  have Ksb := Lib.hid hsb
  clear hsb
  clear h
  go_enter Tryz.func246, Tryz.ntmps246
  go_wp2_with fail
  go_quiet (fail)
  go_wp2
  all_goals go_ret
  all_goals refine ⟨(by refine ret_val ?_; first | rfl | (simp_all; done)), ?_⟩
  all_goals first | exact Below.refl _ _ | exact hb1 | exact (Below.refl _ _).drew | exact below_drewN (Below.refl _ _) _

set_option maxRecDepth 20000 in
set_option maxHeartbeats 1000000 in
theorem ask_root6 (pb g q : Nat) (p : Pt) (R : Bool) (w : World) (hpb : One 149 w pb (pv g q)) (h : PAt w g q p) (hR : Hid ((p.reroot && p.forward) = R)) :
    Calls Tryz.prog 248 #[.pointer (some ⟨pb, 0, none⟩)] w fun e w' => e = .returned (.bool R) ∧ Below w.heap.size w w' := by
  rw [← hR.out]
  clear hR
  have c_pb := hpb.cell
  have c_forward := h.c_forward
  obtain ⟨x_forward, e_forward⟩ : ∃ x, p.forward = x := ⟨_, rfl⟩
  rw [e_forward] at c_forward
  try simp only [e_forward]
  clear e_forward
  have c_reroot := h.c_reroot
  obtain ⟨x_reroot, e_reroot⟩ : ∃ x, p.reroot = x := ⟨_, rfl⟩
  rw [e_reroot] at c_reroot
  try simp only [e_reroot]
  clear e_reroot
  have PA := Lib.hid h
  have Kpb := Lib.hid hpb
  clear hpb
  clear h
  cases x_reroot
  all_goals
    go_enter Tryz.func248, Tryz.ntmps248
    go_wp2
    all_goals go_ret
    all_goals refine ⟨(by refine ret_val ?_; first | rfl | (simp_all; done)), ?_⟩
    all_goals first | exact Below.refl _ _ | exact hb1 | exact (Below.refl _ _).drew | exact below_drewN (Below.refl _ _) _

set_option maxRecDepth 20000 in
set_option maxHeartbeats 1000000 in
theorem ask_root7 (sb pb g q : Nat) (t : Tm) (n cap k : Nat) (l : List Pt) (p : Pt) (R : Bool) (w : World) (hsb : SBk w sb t g n cap k q) (hpb : One 149 w pb (pv g q)) (hr : WRow w g l) (hn : l.length = n) (hl : n ≤ 1000) (hp : l[k]? = some p) (hq : k * 61 = q) (h : PAt w g q p) (hR : Hid ((rootMayB (othersB rerootedO l k) p && closedB p) = R)) :
    Calls Tryz.prog 250 #[.pointer (some ⟨sb, 0, none⟩), .pointer (some ⟨pb, 0, none⟩)] w fun e w' => e = .returned (.bool R) ∧ Below w.heap.size w w' := by
  rw [← hR.out]
  clear hR
  obtain ⟨s0, s1, s2, s3, s4, s5, s6⟩ := hsb.cells
  have c_pb := hpb.cell
  obtain ⟨A, hA⟩ : ∃ x, rootMayB (othersB rerootedO l k) p = x := ⟨_, rfl⟩
  try rw [hA]
  have CA := Lib.hid (fun w' (hr : WRow w' g l) => rootMayOpen_w t g n cap k q l p A w' hr hn hl hp hq (Lib.hid hA))
  obtain ⟨C, hC⟩ : ∃ x, closedB p = x := ⟨_, rfl⟩
  try rw [hC]
  have CC := Lib.hid (fun w' (h : PAt w' g q p) => isClosed_w g q p C w' h (Lib.hid hC))
  have PA := Lib.hid h
  have HR := Lib.hid hr
  clear hr
  have Ksb := Lib.hid hsb
  clear hsb
  have Kpb := Lib.hid hpb
  clear hpb
  clear h
  unfold sv scl at *
  cases A
  all_goals
    go_enter Tryz.func250, Tryz.ntmps250
    go_wp2_with (first
    | (go_at_call 251; (with_reducible refine (CA.out _ HR.out).mono ?_); rintro e w1 ⟨rfl, hb1⟩; have PA1 := Lib.hid (PA.out.next hb1); have c_pb1 := (Kpb.out.next hb1).cell)
    | (go_at_call 252; (with_reducible first | refine (CC.out _ PA.out).mono ?_ | refine (CC.out _ PA1.out).mono ?_); rintro e w1 ⟨rfl, rfl⟩))
    all_goals go_ret
    all_goals refine ⟨(by refine ret_val ?_; first | rfl | (simp_all; done)), ?_⟩
    all_goals first | exact Below.refl _ _ | exact hb1 | exact (Below.refl _ _).drew | exact below_drewN (Below.refl _ _) _

set_option maxRecDepth 20000 in
set_option maxHeartbeats 1000000 in
theorem ask_des1 (pb g q : Nat) (p : Pt) (R : Bool) (w : World) (hpb : One 149 w pb (pv g q)) (h : PAt w g q p) (hR : Hid ((!p.forward && (!p.agreed && (!p.proposing && (!p.oper && p.sendRstp)))) = R)) :
    Calls Tryz.prog 254 #[.pointer (some ⟨pb, 0, none⟩)] w fun e w' => e = .returned (.bool R) ∧ Below w.heap.size w w' := by
  rw [← hR.out]
  clear hR
  have c_pb := hpb.cell
  have c_forward := h.c_forward
  obtain ⟨x_forward, e_forward⟩ : ∃ x, p.forward = x := ⟨_, rfl⟩
  rw [e_forward] at c_forward
  try simp only [e_forward]
  clear e_forward
  have c_agreed := h.c_agreed
  obtain ⟨x_agreed, e_agreed⟩ : ∃ x, p.agreed = x := ⟨_, rfl⟩
  rw [e_agreed] at c_agreed
  try simp only [e_agreed]
  clear e_agreed
  have c_proposing := h.c_proposing
  obtain ⟨x_proposing, e_proposing⟩ : ∃ x, p.proposing = x := ⟨_, rfl⟩
  rw [e_proposing] at c_proposing
  try simp only [e_proposing]
  clear e_proposing
  have c_oper := h.c_oper
  obtain ⟨x_oper, e_oper⟩ : ∃ x, p.oper = x := ⟨_, rfl⟩
  rw [e_oper] at c_oper
  try simp only [e_oper]
  clear e_oper
  have c_sendRstp := h.c_sendRstp
  obtain ⟨x_sendRstp, e_sendRstp⟩ : ∃ x, p.sendRstp = x := ⟨_, rfl⟩
  rw [e_sendRstp] at c_sendRstp
  try simp only [e_sendRstp]
  clear e_sendRstp
  have PA := Lib.hid h
  have Kpb := Lib.hid hpb
  clear hpb
  clear h
  go_enter Tryz.func254, Tryz.ntmps254
  go_wp2
  all_goals go_ret
  all_goals refine ⟨(by refine ret_val ?_; first | rfl | (simp_all; done)), ?_⟩
  all_goals first | exact Below.refl _ _ | exact hb1 | exact (Below.refl _ _).drew | exact below_drewN (Below.refl _ _) _

set_option maxRecDepth 20000 in
set_option maxHeartbeats 1000000 in
theorem ask_des2 (pb g q : Nat) (p : Pt) (R : Bool) (w : World) (hpb : One 149 w pb (pv g q)) (h : PAt w g q p) (hR : Hid (((!p.synced && (stillB p || (p.agreed || p.oper))) || (p.sync && p.synced)) = R)) :
    Calls Tryz.prog 256 #[.pointer (some ⟨pb, 0, none⟩)] w fun e w' => e = .returned (.bool R) ∧ Below w.heap.size w w' := by
  rw [← hR.out]
  clear hR
  have c_pb := hpb.cell
  obtain ⟨D, hD⟩ : ∃ x, stillB p = x := ⟨_, rfl⟩
  try rw [hD]
  have CD := Lib.hid (fun w' (h : PAt w' g q p) => discards_w g q p D w' h (Lib.hid hD))
  have c_synced := h.c_synced
  obtain ⟨x_synced, e_synced⟩ : ∃ x, p.synced = x := ⟨_, rfl⟩
  rw [e_synced] at c_synced
  try simp only [e_synced]
  clear e_synced
  have c_agreed := h.c_agreed
  obtain ⟨x_agreed, e_agreed⟩ : ∃ x, p.agreed = x := ⟨_, rfl⟩
  rw [e_agreed] at c_agreed
  try simp only [e_agreed]
  clear e_agreed
  have c_oper := h.c_oper
  obtain ⟨x_oper, e_oper⟩ : ∃ x, p.oper = x := ⟨_, rfl⟩
  rw [e_oper] at c_oper
  try simp only [e_oper]
  clear e_oper
  have c_sync := h.c_sync
  obtain ⟨x_sync, e_sync⟩ : ∃ x, p.sync = x := ⟨_, rfl⟩
  rw [e_sync] at c_sync
  try simp only [e_sync]
  clear e_sync
  have PA := Lib.hid h
  have Kpb := Lib.hid hpb
  clear hpb
  clear h
  cases x_synced <;> cases D
  all_goals
    go_enter Tryz.func256, Tryz.ntmps256
    go_wp2_with (first
    | (go_at_call 230; (with_reducible first | refine (CD.out _ PA.out).mono ?_ | refine (CD.out _ PA1.out).mono ?_); rintro e w1 ⟨rfl, rfl⟩))
    all_goals go_ret
    all_goals refine ⟨(by refine ret_val ?_; first | rfl | (simp_all; done)), ?_⟩
    all_goals first | exact Below.refl _ _ | exact hb1 | exact (Below.refl _ _).drew | exact below_drewN (Below.refl _ _) _

set_option maxRecDepth 20000 in
set_option maxHeartbeats 1000000 in
theorem ask_des3 (pb g q : Nat) (p : Pt) (R : Bool) (w : World) (hpb : One 149 w pb (pv g q)) (h : PAt w g q p) (hR : Hid ((decide (p.rr = 0) && p.reroot) = R)) :
    Calls Tryz.prog 258 #[.pointer (some ⟨pb, 0, none⟩)] w fun e w' => e = .returned (.bool R) ∧ Below w.heap.size w w' := by
  rw [← hR.out]
  clear hR
  have c_pb := hpb.cell
  have c_reroot := h.c_reroot
  obtain ⟨x_reroot, e_reroot⟩ : ∃ x, p.reroot = x := ⟨_, rfl⟩
  rw [e_reroot] at c_reroot
  try simp only [e_reroot]
  clear e_reroot
  have c_rr := h.c_rr
  obtain ⟨z_rr0, e_rr0⟩ : ∃ z, decide (p.rr = 0) = z := ⟨_, rfl⟩
  have d_rr0 : (p.rr == 0) = z_rr0 := by rw [← e_rr0]; rfl
  have n_rr0 : (p.rr != 0) = !z_rr0 := by rw [← d_rr0]; rfl
  try rw [e_rr0]
  clear e_rr0
  have PA := Lib.hid h
  have Kpb := Lib.hid hpb
  clear hpb
  clear h
  cases z_rr0
  all_goals
    go_enter Tryz.func258, Tryz.ntmps258
    go_wp2
    all_goals go_ret
    all_goals refine ⟨(by refine ret_val ?_; first | rfl | (simp_all; done)), ?_⟩
    all_goals first | exact Below.refl _ _ | exact hb1 | exact (Below.refl _ _).drew | exact below_drewN (Below.refl _ _) _

set_option maxRecDepth 20000 in
set_option maxHeartbeats 1000000 in
theorem ask_des4 (pb g q : Nat) (p : Pt) (R : Bool) (w : World) (hpb : One 149 w pb (pv g q)) (h : PAt w g q p) (hR : Hid ((desStops p && (!p.oper && (p.learn || p.forward))) = R)) :
    Calls Tryz.prog 260 #[.pointer (some ⟨pb, 0, none⟩)] w fun e w' => e = .returned (.bool R) ∧ Below w.heap.size w w' := by
  rw [← hR.out]
  clear hR
  have c_pb := hpb.cell
  obtain ⟨M, hM⟩ : ∃ x, desStops p = x := ⟨_, rfl⟩
  try rw [hM]
  have CM := Lib.hid (fun w' (h : PAt w' g q p) => mustClose_w g q p M w' h (Lib.hid hM))
  have c_oper := h.c_oper
  obtain ⟨x_oper, e_oper⟩ : ∃ x, p.oper = x := ⟨_, rfl⟩
  rw [e_oper] at c_oper
  try simp only [e_oper]
  clear e_oper
  have c_learn := h.c_learn
  obtain ⟨x_learn, e_learn⟩ : ∃ x, p.learn = x := ⟨_, rfl⟩
  rw [e_learn] at c_learn
  try simp only [e_learn]
  clear e_learn
  have c_forward := h.c_forward
  obtain ⟨x_forward, e_forward⟩ : ∃ x, p.forward = x := ⟨_, rfl⟩
  rw [e_forward] at c_forward
  try simp only [e_forward]
  clear e_forward
  have PA := Lib.hid h
  have Kpb := Lib.hid hpb
  clear hpb
  clear h
  cases M <;> cases x_oper <;> cases x_learn
  all_goals
    go_enter Tryz.func260, Tryz.ntmps260
    go_wp2_with (first
    | (go_at_call 261; (with_reducible first | refine (CM.out _ PA.out).mono ?_ | refine (CM.out _ PA1.out).mono ?_); rintro e w1 ⟨rfl, rfl⟩))
    all_goals go_ret
    all_goals refine ⟨(by refine ret_val ?_; first | rfl | (simp_all; done)), ?_⟩
    all_goals first | exact Below.refl _ _ | exact hb1 | exact (Below.refl _ _).drew | exact below_drewN (Below.refl _ _) _

set_option maxRecDepth 20000 in
set_option maxHeartbeats 1000000 in
theorem ask_des5 (pb g q : Nat) (p : Pt) (R : Bool) (w : World) (hpb : One 149 w pb (pv g q)) (h : PAt w g q p) (hR : Hid ((desMay p && closedB p) = R)) :
    Calls Tryz.prog 263 #[.pointer (some ⟨pb, 0, none⟩)] w fun e w' => e = .returned (.bool R) ∧ Below w.heap.size w w' := by
  rw [← hR.out]
  clear hR
  have c_pb := hpb.cell
  obtain ⟨M, hM⟩ : ∃ x, desMay p = x := ⟨_, rfl⟩
  try rw [hM]
  have CM := Lib.hid (fun w' (h : PAt w' g q p) => desMay_w g q p M w' h (Lib.hid hM))
  obtain ⟨C, hC⟩ : ∃ x, closedB p = x := ⟨_, rfl⟩
  try rw [hC]
  have CC := Lib.hid (fun w' (h : PAt w' g q p) => isClosed_w g q p C w' h (Lib.hid hC))
  have PA := Lib.hid h
  have Kpb := Lib.hid hpb
  clear hpb
  clear h
  cases M
  all_goals
    go_enter Tryz.func263, Tryz.ntmps263
    go_wp2_with (first
    | (go_at_call 264; (with_reducible first | refine (CM.out _ PA.out).mono ?_ | refine (CM.out _ PA1.out).mono ?_); rintro e w1 ⟨rfl, rfl⟩)
    | (go_at_call 252; (with_reducible first | refine (CC.out _ PA.out).mono ?_ | refine (CC.out _ PA1.out).mono ?_); rintro e w1 ⟨rfl, rfl⟩))
    all_goals go_ret
    all_goals refine ⟨(by refine ret_val ?_; first | rfl | (simp_all; done)), ?_⟩
    all_goals first | exact Below.refl _ _ | exact hb1 | exact (Below.refl _ _).drew | exact below_drewN (Below.refl _ _) _

set_option maxRecDepth 20000 in
set_option maxHeartbeats 2000000 in
theorem ask_block3 (pb nb g q : Nat) (N : Int) (p : Pt) (R : Bool) (w : World) (hpb : One 149 w pb (pv g q)) (hnb : One 3 w nb (.int .i64 N)) (h : PAt w g q p) (hR : Hid ((stillB p && (!decide (p.fd = N) || (p.sync || (p.reroot || !p.synced)))) = R)) :
    Calls Tryz.prog 236 #[.pointer (some ⟨pb, 0, none⟩), .pointer (some ⟨nb, 0, none⟩)] w fun e w' => e = .returned (.bool R) ∧ Below w.heap.size w w' := by
  rw [← hR.out]
  clear hR
  have c_pb := hpb.cell
  have c_nb := hnb.cell
  obtain ⟨D, hD⟩ : ∃ x, stillB p = x := ⟨_, rfl⟩
  rw [hD]
  have CD := Lib.hid (fun w' (h : PAt w' g q p) => discards_w g q p D w' h (Lib.hid hD))
  have c_fd := h.c_fd
  obtain ⟨z_fd, e_fd⟩ : ∃ z, decide (p.fd = N) = z := ⟨_, rfl⟩
  have d_fd : (p.fd == N) = z_fd := by rw [← e_fd]; rfl
  have n_fd : (p.fd != N) = !z_fd := by rw [← d_fd]; rfl
  rw [e_fd]
  have c_sync := h.c_sync
  obtain ⟨x_sync, e_1⟩ : ∃ x, p.sync = x := ⟨_, rfl⟩
  rw [e_1] at c_sync ⊢
  have c_reroot := h.c_reroot
  obtain ⟨x_reroot, e_2⟩ : ∃ x, p.reroot = x := ⟨_, rfl⟩
  rw [e_2] at c_reroot ⊢
  have c_synced := h.c_synced
  obtain ⟨x_synced, e_3⟩ : ∃ x, p.synced = x := ⟨_, rfl⟩
  rw [e_3] at c_synced ⊢
  have PA := Lib.hid h
  have CQ := Lib.hid (fun (n : Nat) => (CD.out (w.drewN n) ⟨h.lt, h.at_, h.free⟩).mono (fun e w' (he : e = .returned (.bool D) ∧ w.drewN n = w') => (⟨he.1, he.2.symm⟩ : e = .returned (.bool D) ∧ w' = w.drewN n)))
  clear h hpb hnb hD e_fd e_1 e_2 e_3
  cases D with
  | false =>
    go_enter Tryz.func236, Tryz.ntmps236
    go_wp2_with fail
    go_quiet ((go_at_call 230; exact Calls.quiet_of_same (CQ.out _)))
    all_goals go_wp2
    all_goals go_ret
    all_goals refine ⟨(by refine ret_val ?_; first | rfl | (simp_all; done)), ?_⟩
    all_goals first | exact Below.refl _ _ | exact (Below.refl _ _).drew | exact below_drewN (Below.refl _ _) _
  | true =>
    cases z_fd with
    | false =>
      go_enter Tryz.func236, Tryz.ntmps236
      go_wp2_with fail
      go_quiet ((go_at_call 230; exact Calls.quiet_of_same (CQ.out _)))
      all_goals go_wp2
      all_goals go_ret
      all_goals refine ⟨(by refine ret_val ?_; first | rfl | (simp_all; done)), ?_⟩
      all_goals first | exact Below.refl _ _ | exact (Below.refl _ _).drew | exact below_drewN (Below.refl _ _) _
    | true =>
      cases x_sync with
      | false =>
        cases x_reroot with
        | false =>
          cases x_synced with
          | false =>
            go_enter Tryz.func236, Tryz.ntmps236
            go_wp2_with fail
            go_quiet ((go_at_call 230; exact Calls.quiet_of_same (CQ.out _)))
            all_goals go_wp2
            all_goals go_ret
            all_goals refine ⟨(by refine ret_val ?_; first | rfl | (simp_all; done)), ?_⟩
            all_goals first | exact Below.refl _ _ | exact (Below.refl _ _).drew | exact below_drewN (Below.refl _ _) _
          | true =>
            go_enter Tryz.func236, Tryz.ntmps236
            go_wp2_with fail
            go_quiet ((go_at_call 230; exact Calls.quiet_of_same (CQ.out _)))
            all_goals go_wp2
            all_goals go_ret
            all_goals refine ⟨(by refine ret_val ?_; first | rfl | (simp_all; done)), ?_⟩
            all_goals first | exact Below.refl _ _ | exact (Below.refl _ _).drew | exact below_drewN (Below.refl _ _) _
        | true =>
          go_enter Tryz.func236, Tryz.ntmps236
          go_wp2_with fail
          go_quiet ((go_at_call 230; exact Calls.quiet_of_same (CQ.out _)))
          all_goals go_wp2
          all_goals go_ret
          all_goals refine ⟨(by refine ret_val ?_; first | rfl | (simp_all; done)), ?_⟩
          all_goals first | exact Below.refl _ _ | exact (Below.refl _ _).drew | exact below_drewN (Below.refl _ _) _
      | true =>
        go_enter Tryz.func236, Tryz.ntmps236
        go_wp2_with fail
        go_quiet ((go_at_call 230; exact Calls.quiet_of_same (CQ.out _)))
        all_goals go_wp2
        all_goals go_ret
        all_goals refine ⟨(by refine ret_val ?_; first | rfl | (simp_all; done)), ?_⟩
        all_goals first | exact Below.refl _ _ | exact (Below.refl _ _).drew | exact below_drewN (Below.refl _ _) _
end Go.Proofs.YtldobcfejldbiaaGreatDoor

namespace Go.Proofs.YtldobcfejldbiaaGreatDoor
set_option linter.unusedVariables false
set_option linter.unusedSimpArgs false
open Go.RowKit Vm Rm Bm Im

set_option maxRecDepth 20000 in
set_option maxHeartbeats 1000000 in
theorem does_role1 (pb g q : Nat) (p X : Pt) (w : World) (hpb : One 149 w pb (pv g q)) (h1 : pb ≠ g) (h : PAt w g q p) (hX : Hid (({ p with role := p.selected, learn := false, forward := false } : Pt) = X)) :
    Calls Tryz.prog 225 #[.pointer (some ⟨pb, 0, none⟩)] w fun e w' => e = .returned (.tuple #[]) ∧ Ta g q X w w' := by
  have c_pb := hpb.cell
  have h1a : ¬ pb = g := h1
  have h1b : ¬ g = pb := fun e => h1 e.symm
  have c_selected := h.c_selected
  have c_role := h.c_role
  have f_role := h.f_role
  have c_learn := h.c_learn
  have f_learn := h.f_learn
  have c_forward := h.c_forward
  have f_forward := h.f_forward
  have T := Lib.hid (((((Ta.refl h).s_role (p.selected)).s_learn (false)).s_forward (false)).as hX.out)
  clear hX h hpb
  go_enter Tryz.func225, Tryz.ntmps225
  go_wp2_with fail
  all_goals try go_region
  all_goals try go_wp2
  all_goals go_end0
  all_goals refine ⟨rfl, ?_⟩
  all_goals first | exact T.out | exact T.out.draw | exact T.out.drawN _

set_option maxRecDepth 20000 in
set_option maxHeartbeats 1000000 in
theorem does_block3 (nb pb g q : Nat) (N : Int) (p X : Pt) (w : World) (hnb : One 3 w nb (.int .i64 N)) (h3 : nb ≠ g) (hpb : One 149 w pb (pv g q)) (h1 : pb ≠ g) (h : PAt w g q p) (hX : Hid (({ p with fd := N, synced := true, rr := 0, sync := false, reroot := false } : Pt) = X)) :
    Calls Tryz.prog 237 #[.pointer (some ⟨nb, 0, none⟩), .pointer (some ⟨pb, 0, none⟩)] w fun e w' => e = .returned (.tuple #[]) ∧ Ta g q X w w' := by
  have c_nb := hnb.cell
  have h3a : ¬ nb = g := h3
  have h3b : ¬ g = nb := fun e => h3 e.symm
  have c_pb := hpb.cell
  have h1a : ¬ pb = g := h1
  have h1b : ¬ g = pb := fun e => h1 e.symm
  have c_fd := h.c_fd
  have f_fd := h.f_fd
  have c_synced := h.c_synced
  have f_synced := h.f_synced
  have c_rr := h.c_rr
  have f_rr := h.f_rr
  have c_sync := h.c_sync
  have f_sync := h.f_sync
  have c_reroot := h.c_reroot
  have f_reroot := h.f_reroot
  have T := Lib.hid (((((((Ta.refl h).s_fd (N)).s_synced (true)).s_rr (0)).s_sync (false)).s_reroot (false)).as hX.out)
  clear hX h hnb hpb
  go_enter Tryz.func237, Tryz.ntmps237
  go_wp2_with fail
  all_goals try go_region
  all_goals try go_wp2
  all_goals go_end0
  all_goals refine ⟨rfl, ?_⟩
  all_goals first | exact T.out | exact T.out.draw | exact T.out.drawN _

set_option maxRecDepth 20000 in
set_option maxHeartbeats 1000000 in
theorem does_block4 (nb pb g q : Nat) (N : Int) (p X : Pt) (w : World) (hnb : One 3 w nb (.int .i64 N)) (h3 : nb ≠ g) (hpb : One 149 w pb (pv g q)) (h1 : pb ≠ g) (h : PAt w g q p) (hX : Hid (({ p with rb := N } : Pt) = X)) :
    Calls Tryz.prog 239 #[.pointer (some ⟨nb, 0, none⟩), .pointer (some ⟨pb, 0, none⟩)] w fun e w' => e = .returned (.tuple #[]) ∧ Ta g q X w w' := by
  have c_nb := hnb.cell
  have h3a : ¬ nb = g := h3
  have h3b : ¬ g = nb := fun e => h3 e.symm
  have c_pb := hpb.cell
  have h1a : ¬ pb = g := h1
  have h1b : ¬ g = pb := fun e => h1 e.symm
  have c_rb := h.c_rb
  have f_rb := h.f_rb
  have T := Lib.hid (((Ta.refl h).s_rb (N)).as hX.out)
  clear hX h hnb hpb
  go_enter Tryz.func239, Tryz.ntmps239
  go_wp2
  all_goals go_end0
  all_goals refine ⟨rfl, ?_⟩
  all_goals first | exact T.out | exact T.out.draw | exact T.out.drawN _

set_option maxRecDepth 20000 in
set_option maxHeartbeats 1000000 in
theorem does_root3 (pb g q : Nat) (p X : Pt) (w : World) (hpb : One 149 w pb (pv g q)) (h1 : pb ≠ g) (h : PAt w g q p) (hX : Hid (({ p with synced := true, sync := false } : Pt) = X)) :
    Calls Tryz.prog 243 #[.pointer (some ⟨pb, 0, none⟩)] w fun e w' => e = .returned (.tuple #[]) ∧ Ta g q X w w' := by
  have c_pb := hpb.cell
  have h1a : ¬ pb = g := h1
  have h1b : ¬ g = pb := fun e => h1 e.symm
  have c_synced := h.c_synced
  have f_synced := h.f_synced
  have c_sync := h.c_sync
  have f_sync := h.f_sync
  have T := Lib.hid ((((Ta.refl h).s_synced (true)).s_sync (false)).as hX.out)
  clear hX h hpb
  go_enter Tryz.func243, Tryz.ntmps243
  go_wp2_with fail
  all_goals try go_region
  all_goals try go_wp2
  all_goals go_end0
  all_goals refine ⟨rfl, ?_⟩
  all_goals first | exact T.out | exact T.out.draw | exact T.out.drawN _

set_option maxRecDepth 20000 in
set_option maxHeartbeats 1000000 in
theorem does_root5 (sb pb g q : Nat) (t : Tm) (n cap k : Nat) (p X : Pt) (w : World) (hsb : SBk w sb t g n cap k q) (h2 : sb ≠ g) (hpb : One 149 w pb (pv g q)) (h1 : pb ≠ g) (h : PAt w g q p) (hX : Hid (({ p with rr := t.delay } : Pt) = X)) :
    Calls Tryz.prog 247 #[.pointer (some ⟨sb, 0, none⟩), .pointer (some ⟨pb, 0, none⟩)] w fun e w' => e = .returned (.tuple #[]) ∧ Ta g q X w w' := by
  obtain ⟨s0, s1, s2, s3, s4, s5, s6⟩ := hsb.cells
  have h2a : ¬ sb = g := h2
  have h2b : ¬ g = sb := fun e => h2 e.symm
  have c_pb := hpb.cell
  have h1a : ¬ pb = g := h1
  have h1b : ¬ g = pb := fun e => h1 e.symm
  have c_rr := h.c_rr
  have f_rr := h.f_rr
  have T := Lib.hid (((Ta.refl h).s_rr (t.delay)).as hX.out)
  clear hX h hsb hpb
  go_enter Tryz.func247, Tryz.ntmps247
  go_wp2
  all_goals go_end0
  all_goals refine ⟨rfl, ?_⟩
  all_goals first | exact T.out | exact T.out.draw | exact T.out.drawN _

set_option maxRecDepth 20000 in
set_option maxHeartbeats 1000000 in
theorem does_root6 (pb g q : Nat) (p X : Pt) (w : World) (hpb : One 149 w pb (pv g q)) (h1 : pb ≠ g) (h : PAt w g q p) (hX : Hid (({ p with reroot := false } : Pt) = X)) :
    Calls Tryz.prog 249 #[.pointer (some ⟨pb, 0, none⟩)] w fun e w' => e = .returned (.tuple #[]) ∧ Ta g q X w w' := by
  have c_pb := hpb.cell
  have h1a : ¬ pb = g := h1
  have h1b : ¬ g = pb := fun e => h1 e.symm
  have c_reroot := h.c_reroot
  have f_reroot := h.f_reroot
  have T := Lib.hid (((Ta.refl h).s_reroot (false)).as hX.out)
  clear hX h hpb
  go_enter Tryz.func249, Tryz.ntmps249
  go_wp2
  all_goals go_end0
  all_goals refine ⟨rfl, ?_⟩
  all_goals first | exact T.out | exact T.out.draw | exact T.out.drawN _

set_option maxRecDepth 20000 in
set_option maxHeartbeats 1000000 in
theorem does_des1 (pb g q : Nat) (p X : Pt) (w : World) (hpb : One 149 w pb (pv g q)) (h1 : pb ≠ g) (h : PAt w g q p) (hX : Hid (({ p with proposing := true, newInfo := true, edge := 3 } : Pt) = X)) :
    Calls Tryz.prog 255 #[.pointer (some ⟨pb, 0, none⟩)] w fun e w' => e = .returned (.tuple #[]) ∧ Ta g q X w w' := by
  have c_pb := hpb.cell
  have h1a : ¬ pb = g := h1
  have h1b : ¬ g = pb := fun e => h1 e.symm
  have c_proposing := h.c_proposing
  have f_proposing := h.f_proposing
  have c_newInfo := h.c_newInfo
  have f_newInfo := h.f_newInfo
  have c_edge := h.c_edge
  have f_edge := h.f_edge
  have T := Lib.hid (((((Ta.refl h).s_proposing (true)).s_newInfo (true)).s_edge (3)).as hX.out)
  clear hX h hpb
  go_enter Tryz.func255, Tryz.ntmps255
  go_wp2_with fail
  all_goals try go_region
  all_goals try go_wp2
  all_goals go_end0
  all_goals refine ⟨rfl, ?_⟩
  all_goals first | exact T.out | exact T.out.draw | exact T.out.drawN _

set_option maxRecDepth 20000 in
set_option maxHeartbeats 1000000 in
theorem does_des2 (pb g q : Nat) (p X : Pt) (w : World) (hpb : One 149 w pb (pv g q)) (h1 : pb ≠ g) (h : PAt w g q p) (hX : Hid (({ p with rr := 0, synced := true, sync := false } : Pt) = X)) :
    Calls Tryz.prog 257 #[.pointer (some ⟨pb, 0, none⟩)] w fun e w' => e = .returned (.tuple #[]) ∧ Ta g q X w w' := by
  have c_pb := hpb.cell
  have h1a : ¬ pb = g := h1
  have h1b : ¬ g = pb := fun e => h1 e.symm
  have c_rr := h.c_rr
  have f_rr := h.f_rr
  have c_synced := h.c_synced
  have f_synced := h.f_synced
  have c_sync := h.c_sync
  have f_sync := h.f_sync
  have T := Lib.hid (((((Ta.refl h).s_rr (0)).s_synced (true)).s_sync (false)).as hX.out)
  clear hX h hpb
  go_enter Tryz.func257, Tryz.ntmps257
  go_wp2_with fail
  all_goals try go_region
  all_goals try go_wp2
  all_goals go_end0
  all_goals refine ⟨rfl, ?_⟩
  all_goals first | exact T.out | exact T.out.draw | exact T.out.drawN _

set_option maxRecDepth 20000 in
set_option maxHeartbeats 1000000 in
theorem does_des3 (pb g q : Nat) (p X : Pt) (w : World) (hpb : One 149 w pb (pv g q)) (h1 : pb ≠ g) (h : PAt w g q p) (hX : Hid (({ p with reroot := false } : Pt) = X)) :
    Calls Tryz.prog 259 #[.pointer (some ⟨pb, 0, none⟩)] w fun e w' => e = .returned (.tuple #[]) ∧ Ta g q X w w' := by
  have c_pb := hpb.cell
  have h1a : ¬ pb = g := h1
  have h1b : ¬ g = pb := fun e => h1 e.symm
  have c_reroot := h.c_reroot
  have f_reroot := h.f_reroot
  have T := Lib.hid (((Ta.refl h).s_reroot (false)).as hX.out)
  clear hX h hpb
  go_enter Tryz.func259, Tryz.ntmps259
  go_wp2
  all_goals go_end0
  all_goals refine ⟨rfl, ?_⟩
  all_goals first | exact T.out | exact T.out.draw | exact T.out.drawN _

set_option maxRecDepth 20000 in
set_option maxHeartbeats 1000000 in
theorem does_des4 (sb pb g q : Nat) (t : Tm) (n cap k : Nat) (p X : Pt) (w : World) (hsb : SBk w sb t g n cap k q) (h2 : sb ≠ g) (hpb : One 149 w pb (pv g q)) (h1 : pb ≠ g) (h : PAt w g q p) (hX : Hid (({ p with learn := false, forward := false, disputed := false, fd := t.delay } : Pt) = X)) :
    Calls Tryz.prog 262 #[.pointer (some ⟨sb, 0, none⟩), .pointer (some ⟨pb, 0, none⟩)] w fun e w' => e = .returned (.tuple #[]) ∧ Ta g q X w w' := by
  obtain ⟨s0, s1, s2, s3, s4, s5, s6⟩ := hsb.cells
  have h2a : ¬ sb = g := h2
  have h2b : ¬ g = sb := fun e => h2 e.symm
  have c_pb := hpb.cell
  have h1a : ¬ pb = g := h1
  have h1b : ¬ g = pb := fun e => h1 e.symm
  have c_learn := h.c_learn
  have f_learn := h.f_learn
  have c_forward := h.c_forward
  have f_forward := h.f_forward
  have c_disputed := h.c_disputed
  have f_disputed := h.f_disputed
  have c_fd := h.c_fd
  have f_fd := h.f_fd
  have T := Lib.hid ((((((Ta.refl h).s_learn (false)).s_forward (false)).s_disputed (false)).s_fd (t.delay)).as hX.out)
  clear hX h hsb hpb
  go_enter Tryz.func262, Tryz.ntmps262
  go_wp2_with fail
  all_goals try go_region
  all_goals try go_wp2
  all_goals go_end0
  all_goals refine ⟨rfl, ?_⟩
  all_goals first | exact T.out | exact T.out.draw | exact T.out.drawN _
end Go.Proofs.YtldobcfejldbiaaGreatDoor

namespace Go.Proofs.YtldobcfejldbiaaGreatDoor
set_option linter.unusedVariables false
set_option linter.unusedSimpArgs false
open Go.RowKit Vm Rm Bm Im

theorem SBk.ta {w w' : World} {b g' q' g n cap k q : Nat} {t : Tm} {X : Pt} (h : SBk w b t g n cap k q) (T : Ta g' q' X w w') (hne : b ≠ g') : SBk w' b t g n cap k q := h.same (T.at h.lt hne)
theorem One.ta {T0 : TypeId} {w w' : World} {b g q : Nat} {v : Value} {X : Pt} (h : One T0 w b v) (T : Ta g q X w w') (hne : b ≠ g) : One T0 w' b v := (T.at h.lt hne).trans h
set_option maxRecDepth 20000 in
set_option maxHeartbeats 1000000 in
theorem tagree_w (t : Tm) (g n cap k q : Nat) (p X : Pt) (w : World) (h : PAt w g q p) (hX : Hid (({ p with proposed := false, agree := true, newInfo := true } : Pt) = X)) :
    Calls Tryz.prog 235 #[sv t g n cap k q] w fun e w' => e = .returned (.tuple #[]) ∧ Ta g q X w w' := by
  obtain ⟨W, sb, HW, HS, k0, kB, kL⟩ := oneS_is t g n cap k q w
  have hgl := h.lt
  rw [HS.out] at hgl
  have h2 : ¬ sb = g := by omega
  have h2b : ¬ g = sb := by omega
  have PA := h.next (HS.out ▸ kB)
  have c_1 := PA.c_proposed
  have c_2 := PA.c_agree
  have c_3 := PA.c_newInfo
  have f_1 := PA.f_proposed
  have f_2 := PA.f_agree
  have f_3 := PA.f_newInfo
  obtain ⟨s0, s1, s2, s3, s4, s5, s6⟩ := k0.cells
  have T := Lib.hid (((((Ta.refl PA).s_proposed false).s_agree true).s_newInfo true).as hX.out)
  have B0 := Lib.hid (HS.out ▸ kB : Below w.heap.size w W)
  have HG := Lib.hid h.lt
  clear h hX PA k0 kB kL hgl
  unfold sv scl
  go_enter Tryz.func235, Tryz.ntmps235
  go_upto_region 1 with (fail)
  refine wp_to (W := W) (by exact HW.out.symm) ?_
  rw [HS.out]
  go_wp2_with fail
  all_goals try go_region
  all_goals try go_wp2
  all_goals go_end0
  all_goals refine ⟨rfl, ?_⟩
  all_goals first | exact T.out.before B0.out HG.out | exact T.out.draw.before B0.out HG.out

def openP (t : Tm) (p : Pt) : Pt := if p.learn = false then { p with learn := true, fd := t.delay } else { p with forward := true, fd := 0 }
set_option maxRecDepth 20000 in
set_option maxHeartbeats 1000000 in
theorem open_w (t : Tm) (g n cap k q : Nat) (p X : Pt) (w : World) (h : PAt w g q p) (hX : Hid (openP t p = X)) :
    Calls Tryz.prog 253 #[sv t g n cap k q] w fun e w' => e = .returned (.tuple #[]) ∧ Ta g q X w w' := by
  obtain ⟨W, sb, HW, HS, k0, kB, kL⟩ := oneS_is t g n cap k q w
  have hgl := h.lt
  rw [HS.out] at hgl
  have h2 : ¬ sb = g := by omega
  have h2b : ¬ g = sb := by omega
  have PA := h.next (HS.out ▸ kB)
  have c_1 := PA.c_learn
  have c_2 := PA.c_fd
  have c_3 := PA.c_forward
  have f_1 := PA.f_learn
  have f_2 := PA.f_fd
  have f_3 := PA.f_forward
  obtain ⟨s0, s1, s2, s3, s4, s5, s6⟩ := k0.cells
  have T1 := Lib.hid (((Ta.refl PA).s_learn true).s_fd t.delay)
  have T2 := Lib.hid (((Ta.refl PA).s_forward true).s_fd 0)
  have B0 := Lib.hid (HS.out ▸ kB : Below w.heap.size w W)
  have HG := Lib.hid h.lt
  rw [← hX.out]
  clear hX
  unfold openP
  clear h PA k0 kB kL hgl
  unfold sv scl
  by_cases e : p.learn = false
  · rw [if_pos e]
    rw [e] at c_1
    clear e
    go_enter Tryz.func253, Tryz.ntmps253
    go_upto_region 1 with (fail)
    refine wp_to (W := W) (by exact HW.out.symm) ?_
    rw [HS.out]
    go_wp2_with fail
    go_region
    go_wp2
    all_goals (try simp only [Exit.inBlock, Exit.then])
    all_goals refine bodyPost_ret (results_none rfl _ _ _) rfl ?_
    all_goals refine ⟨rfl, ?_⟩
    all_goals first | exact T1.out.before B0.out HG.out | exact T1.out.draw.before B0.out HG.out
  · rw [if_neg e]
    have e' : p.learn = true := by cases hl : p.learn; exact absurd hl e; rfl
    rw [e'] at c_1
    clear e e'
    go_enter Tryz.func253, Tryz.ntmps253
    go_upto_region 1 with (fail)
    refine wp_to (W := W) (by exact HW.out.symm) ?_
    rw [HS.out]
    go_wp2_with fail
    all_goals try go_region
    all_goals try go_wp2
    all_goals go_end0
    all_goals refine ⟨rfl, ?_⟩
    all_goals first | exact T2.out.before B0.out HG.out | exact T2.out.draw.before B0.out HG.out

def role2P (t : Tm) (p : Pt) : Pt := if p.selected = 1 then { p with role := p.selected, rr := t.delay } else { p with role := p.selected }
set_option maxRecDepth 20000 in
set_option maxHeartbeats 1000000 in
theorem does_role2 (pb sb g q : Nat) (t : Tm) (n cap k : Nat) (p X : Pt) (w : World) (hpb : One 149 w pb (pv g q)) (h1 : pb ≠ g) (hsb : SBk w sb t g n cap k q) (h2 : sb ≠ g) (h : PAt w g q p) (hX : Hid (role2P t p = X)) :
    Calls Tryz.prog 227 #[.pointer (some ⟨pb, 0, none⟩), .pointer (some ⟨sb, 0, none⟩)] w fun e w' => e = .returned (.tuple #[]) ∧ Ta g q X w w' := by
  have c_pb := hpb.cell
  have h1b : ¬ g = pb := fun e => h1 e.symm
  have h2b : ¬ g = sb := fun e => h2 e.symm
  have h1a : ¬ pb = g := h1
  have h2a : ¬ sb = g := h2
  have c_1 := h.c_role
  have c_2 := h.c_rr
  have c_3 := h.c_selected
  have f_1 := h.f_role
  have f_2 := h.f_rr
  obtain ⟨s0, s1, s2, s3, s4, s5, s6⟩ := hsb.cells
  have T0 := Lib.hid ((Ta.refl h).s_role p.selected)
  rw [← hX.out]
  clear hX
  unfold role2P
  by_cases e : p.selected = 1
  · rw [if_pos e]
    have T1 := Lib.hid (T0.out.draw.s_rr t.delay)
    have d : (p.selected == 1) = true := by rw [e]; rfl
    clear h hpb hsb h1 h2 e
    go_enter Tryz.func227, Tryz.ntmps227
    go_wp2_with fail
    go_region
    go_wp2
    all_goals go_end0
    all_goals refine ⟨rfl, ?_⟩
    all_goals exact T1.out
  · rw [if_neg e]
    have d : (p.selected == 1) = false := beq_eq_false_iff_ne.2 e
    clear h hpb hsb h1 h2 e
    go_enter Tryz.func227, Tryz.ntmps227
    go_wp2_with fail
    go_region
    go_wp2
    all_goals go_end0
    all_goals refine ⟨rfl, ?_⟩
    all_goals first | exact T0.out | exact T0.out.draw

set_option maxRecDepth 20000 in
set_option maxHeartbeats 1000000 in
theorem does_root2 (sb pb g q : Nat) (t : Tm) (n cap k : Nat) (p X : Pt) (w : World) (hsb : SBk w sb t g n cap k q) (h2 : sb ≠ g) (hpb : One 149 w pb (pv g q)) (h1 : pb ≠ g) (h : PAt w g q p) (hX : Hid (({ p with proposed := false, agree := true, newInfo := true, sync := false } : Pt) = X)) :
    Calls Tryz.prog 241 #[.pointer (some ⟨sb, 0, none⟩), .pointer (some ⟨pb, 0, none⟩)] w fun e w' => e = .returned (.tuple #[]) ∧ Ta g q X w w' := by
  have CA := Lib.hid (tagree_w t g n cap k q p _ w h (Lib.hid rfl))
  obtain ⟨s0, s1, s2, s3, s4, s5, s6⟩ := hsb.cells
  have HP := Lib.hid hpb
  have H1 := Lib.hid h1
  clear h hpb hsb h1 h2
  unfold sv scl at *
  go_enter Tryz.func241, Tryz.ntmps241
  go_wp2_with (go_at_call 235; (with_reducible refine CA.out.mono ?_); rintro e w1 ⟨rfl, t1⟩; have T1 := Lib.hid t1; have c_pb := (HP.out.ta t1 H1.out).cell; have c_s := t1.blk.c_sync; have f_s := t1.blk.f_sync; clear t1)
  go_end0
  exact ⟨rfl, (T1.out.s_sync false).as hX.out⟩

def des5P (t : Tm) (p : Pt) : Pt := openP t (if p.learn = false then p else { p with agreed := p.sendRstp })
set_option maxRecDepth 20000 in
set_option maxHeartbeats 1000000 in
theorem does_des5 (pb sb g q : Nat) (t : Tm) (n cap k : Nat) (p X : Pt) (w : World) (hpb : One 149 w pb (pv g q)) (h1 : pb ≠ g) (hsb : SBk w sb t g n cap k q) (h2 : sb ≠ g) (h : PAt w g q p) (hX : Hid (des5P t p = X)) :
    Calls Tryz.prog 265 #[.pointer (some ⟨pb, 0, none⟩), .pointer (some ⟨sb, 0, none⟩)] w fun e w' => e = .returned (.tuple #[]) ∧ Ta g q X w w' := by
  have c_pb := hpb.cell
  have h1b : ¬ g = pb := fun e => h1 e.symm
  have h2b : ¬ g = sb := fun e => h2 e.symm
  have h1a : ¬ pb = g := h1
  have h2a : ¬ sb = g := h2
  have c_1 := h.c_learn
  have c_2 := h.c_sendRstp
  have c_3 := h.c_agreed
  have f_3 := h.f_agreed
  obtain ⟨s0, s1, s2, s3, s4, s5, s6⟩ := hsb.cells
  rw [← hX.out]
  clear hX
  unfold des5P
  by_cases e : p.learn = false
  · rw [if_pos e]
    rw [e] at c_1
    have CO := Lib.hid (open_w t g n cap k q p _ w h (Lib.hid rfl))
    clear h hpb hsb h1 h2 e
    unfold sv scl at *
    go_enter Tryz.func265, Tryz.ntmps265
    go_wp2_with (go_at_call 253; (with_reducible refine CO.out.mono ?_); rintro e w1 ⟨rfl, t1⟩)
    go_end0
    exact ⟨rfl, t1⟩
  · rw [if_neg e]
    have e' : p.learn = true := by cases hl : p.learn; exact absurd hl e; rfl
    rw [e'] at c_1
    have T := Lib.hid ((Ta.refl h).s_agreed p.sendRstp).draw
    obtain ⟨W, hW⟩ : ∃ W, (w.setCell ⟨g, q + 32, none⟩ (.bool p.sendRstp)).drew = W := ⟨_, rfl⟩
    rw [hW] at T
    have CO := Lib.hid (open_w t g n cap k q { p with agreed := p.sendRstp } _ W T.out.blk (Lib.hid rfl))
    have HSB := Lib.hid (hsb.ta T.out h2)
    clear h hpb hsb h1 h2 e e'
    unfold sv scl at *
    go_enter Tryz.func265, Tryz.ntmps265
    go_wp2_with fail
    go_region
    clear hW s0 s1 s2 s3 s4 s5 s6
    obtain ⟨s0, s1, s2, s3, s4, s5, s6⟩ := HSB.out.cells
    go_wp2_with (go_at_call 253; (with_reducible refine CO.out.mono ?_); rintro e w1 ⟨rfl, t1⟩)
    go_end0
    exact ⟨rfl, T.out.trans t1⟩
end Go.Proofs.YtldobcfejldbiaaGreatDoor
