/-
  Layer 12: the closures of a table of moves that do: what turns in a port.
  Layer 12: agree, open; the closures that do more than one thing.
-/
import Derived.Test.YtojfmnndfophhaaGreatTr2
namespace Go.Proofs.YtojfmnndfophhaaGreat
set_option linter.unusedVariables false
set_option linter.unusedSimpArgs false
open Go.RowKit Vm Rm Bm Im

set_option maxRecDepth 20000 in
set_option maxHeartbeats 1000000 in
theorem does_role1 (pb g q : Nat) (p X : Pt) (w : World) (hpb : One 50 w pb (pv g q)) (h1 : pb ≠ g) (h : PAt w g q p) (hX : Hid (({ p with role := p.selected, learn := false, forward := false } : Pt) = X)) :
    Calls Tryz.prog 48 #[.pointer (some ⟨pb, 0, none⟩)] w fun e w' => e = .returned (.tuple #[]) ∧ Ta g q X w w' := by
  have c_pb := hpb.cell
  have h1a : ¬ pb = g := h1
  have h1b : ¬ g = pb := fun e => h1 e.symm
  have c_selected := h.c_selected
  have c_role := h.c_role
  have f_role := h.f_role
  have c_learn := h.c_learn
  have f_learn := h.f_learn
  have c_forward := h.c_forward
  have f_forward := h.f_forward
  have T := Lib.hid (((((Ta.refl h).s_role (p.selected)).s_learn (false)).s_forward (false)).as hX.out)
  clear hX h hpb
  go_enter Tryz.func48, Tryz.ntmps48
  go_wp2_with fail
  all_goals try go_region
  all_goals try go_wp2
  all_goals go_end0
  all_goals refine ⟨rfl, ?_⟩
  all_goals first | exact T.out | exact T.out.draw | exact T.out.drawN _

set_option maxRecDepth 20000 in
set_option maxHeartbeats 1000000 in
theorem does_block3 (nb pb g q : Nat) (N : Int) (p X : Pt) (w : World) (hnb : One 3 w nb (.int .i64 N)) (h3 : nb ≠ g) (hpb : One 50 w pb (pv g q)) (h1 : pb ≠ g) (h : PAt w g q p) (hX : Hid (({ p with fd := N, synced := true, rr := 0, sync := false, reroot := false } : Pt) = X)) :
    Calls Tryz.prog 60 #[.pointer (some ⟨nb, 0, none⟩), .pointer (some ⟨pb, 0, none⟩)] w fun e w' => e = .returned (.tuple #[]) ∧ Ta g q X w w' := by
  have c_nb := hnb.cell
  have h3a : ¬ nb = g := h3
  have h3b : ¬ g = nb := fun e => h3 e.symm
  have c_pb := hpb.cell
  have h1a : ¬ pb = g := h1
  have h1b : ¬ g = pb := fun e => h1 e.symm
  have c_fd := h.c_fd
  have f_fd := h.f_fd
  have c_synced := h.c_synced
  have f_synced := h.f_synced
  have c_rr := h.c_rr
  have f_rr := h.f_rr
  have c_sync := h.c_sync
  have f_sync := h.f_sync
  have c_reroot := h.c_reroot
  have f_reroot := h.f_reroot
  have T := Lib.hid (((((((Ta.refl h).s_fd (N)).s_synced (true)).s_rr (0)).s_sync (false)).s_reroot (false)).as hX.out)
  clear hX h hnb hpb
  go_enter Tryz.func60, Tryz.ntmps60
  go_wp2_with fail
  all_goals try go_region
  all_goals try go_wp2
  all_goals go_end0
  all_goals refine ⟨rfl, ?_⟩
  all_goals first | exact T.out | exact T.out.draw | exact T.out.drawN _

set_option maxRecDepth 20000 in
set_option maxHeartbeats 1000000 in
theorem does_block4 (nb pb g q : Nat) (N : Int) (p X : Pt) (w : World) (hnb : One 3 w nb (.int .i64 N)) (h3 : nb ≠ g) (hpb : One 50 w pb (pv g q)) (h1 : pb ≠ g) (h : PAt w g q p) (hX : Hid (({ p with rb := N } : Pt) = X)) :
    Calls Tryz.prog 62 #[.pointer (some ⟨nb, 0, none⟩), .pointer (some ⟨pb, 0, none⟩)] w fun e w' => e = .returned (.tuple #[]) ∧ Ta g q X w w' := by
  have c_nb := hnb.cell
  have h3a : ¬ nb = g := h3
  have h3b : ¬ g = nb := fun e => h3 e.symm
  have c_pb := hpb.cell
  have h1a : ¬ pb = g := h1
  have h1b : ¬ g = pb := fun e => h1 e.symm
  have c_rb := h.c_rb
  have f_rb := h.f_rb
  have T := Lib.hid (((Ta.refl h).s_rb (N)).as hX.out)
  clear hX h hnb hpb
  go_enter Tryz.func62, Tryz.ntmps62
  go_wp2
  all_goals go_end0
  all_goals refine ⟨rfl, ?_⟩
  all_goals first | exact T.out | exact T.out.draw | exact T.out.drawN _

set_option maxRecDepth 20000 in
set_option maxHeartbeats 1000000 in
theorem does_root3 (pb g q : Nat) (p X : Pt) (w : World) (hpb : One 50 w pb (pv g q)) (h1 : pb ≠ g) (h : PAt w g q p) (hX : Hid (({ p with synced := true, sync := false } : Pt) = X)) :
    Calls Tryz.prog 66 #[.pointer (some ⟨pb, 0, none⟩)] w fun e w' => e = .returned (.tuple #[]) ∧ Ta g q X w w' := by
  have c_pb := hpb.cell
  have h1a : ¬ pb = g := h1
  have h1b : ¬ g = pb := fun e => h1 e.symm
  have c_synced := h.c_synced
  have f_synced := h.f_synced
  have c_sync := h.c_sync
  have f_sync := h.f_sync
  have T := Lib.hid ((((Ta.refl h).s_synced (true)).s_sync (false)).as hX.out)
  clear hX h hpb
  go_enter Tryz.func66, Tryz.ntmps66
  go_wp2_with fail
  all_goals try go_region
  all_goals try go_wp2
  all_goals go_end0
  all_goals refine ⟨rfl, ?_⟩
  all_goals first | exact T.out | exact T.out.draw | exact T.out.drawN _

set_option maxRecDepth 20000 in
set_option maxHeartbeats 1000000 in
theorem does_root5 (sb pb g q : Nat) (t : Tm) (n cap k : Nat) (p X : Pt) (w : World) (hsb : SBk w sb t g n cap k q) (h2 : sb ≠ g) (hpb : One 50 w pb (pv g q)) (h1 : pb ≠ g) (h : PAt w g q p) (hX : Hid (({ p with rr := t.delay } : Pt) = X)) :
    Calls Tryz.prog 70 #[.pointer (some ⟨sb, 0, none⟩), .pointer (some ⟨pb, 0, none⟩)] w fun e w' => e = .returned (.tuple #[]) ∧ Ta g q X w w' := by
  obtain ⟨s0, s1, s2, s3, s4, s5, s6⟩ := hsb.cells
  have h2a : ¬ sb = g := h2
  have h2b : ¬ g = sb := fun e => h2 e.symm
  have c_pb := hpb.cell
  have h1a : ¬ pb = g := h1
  have h1b : ¬ g = pb := fun e => h1 e.symm
  have c_rr := h.c_rr
  have f_rr := h.f_rr
  have T := Lib.hid (((Ta.refl h).s_rr (t.delay)).as hX.out)
  clear hX h hsb hpb
  go_enter Tryz.func70, Tryz.ntmps70
  go_wp2
  all_goals go_end0
  all_goals refine ⟨rfl, ?_⟩
  all_goals first | exact T.out | exact T.out.draw | exact T.out.drawN _

set_option maxRecDepth 20000 in
set_option maxHeartbeats 1000000 in
theorem does_root6 (pb g q : Nat) (p X : Pt) (w : World) (hpb : One 50 w pb (pv g q)) (h1 : pb ≠ g) (h : PAt w g q p) (hX : Hid (({ p with reroot := false } : Pt) = X)) :
    Calls Tryz.prog 72 #[.pointer (some ⟨pb, 0, none⟩)] w fun e w' => e = .returned (.tuple #[]) ∧ Ta g q X w w' := by
  have c_pb := hpb.cell
  have h1a : ¬ pb = g := h1
  have h1b : ¬ g = pb := fun e => h1 e.symm
  have c_reroot := h.c_reroot
  have f_reroot := h.f_reroot
  have T := Lib.hid (((Ta.refl h).s_reroot (false)).as hX.out)
  clear hX h hpb
  go_enter Tryz.func72, Tryz.ntmps72
  go_wp2
  all_goals go_end0
  all_goals refine ⟨rfl, ?_⟩
  all_goals first | exact T.out | exact T.out.draw | exact T.out.drawN _

set_option maxRecDepth 20000 in
set_option maxHeartbeats 1000000 in
theorem does_des1 (pb g q : Nat) (p X : Pt) (w : World) (hpb : One 50 w pb (pv g q)) (h1 : pb ≠ g) (h : PAt w g q p) (hX : Hid (({ p with proposing := true, newInfo := true, edge := 3 } : Pt) = X)) :
    Calls Tryz.prog 78 #[.pointer (some ⟨pb, 0, none⟩)] w fun e w' => e = .returned (.tuple #[]) ∧ Ta g q X w w' := by
  have c_pb := hpb.cell
  have h1a : ¬ pb = g := h1
  have h1b : ¬ g = pb := fun e => h1 e.symm
  have c_proposing := h.c_proposing
  have f_proposing := h.f_proposing
  have c_newInfo := h.c_newInfo
  have f_newInfo := h.f_newInfo
  have c_edge := h.c_edge
  have f_edge := h.f_edge
  have T := Lib.hid (((((Ta.refl h).s_proposing (true)).s_newInfo (true)).s_edge (3)).as hX.out)
  clear hX h hpb
  go_enter Tryz.func78, Tryz.ntmps78
  go_wp2_with fail
  all_goals try go_region
  all_goals try go_wp2
  all_goals go_end0
  all_goals refine ⟨rfl, ?_⟩
  all_goals first | exact T.out | exact T.out.draw | exact T.out.drawN _

set_option maxRecDepth 20000 in
set_option maxHeartbeats 1000000 in
theorem does_des2 (pb g q : Nat) (p X : Pt) (w : World) (hpb : One 50 w pb (pv g q)) (h1 : pb ≠ g) (h : PAt w g q p) (hX : Hid (({ p with rr := 0, synced := true, sync := false } : Pt) = X)) :
    Calls Tryz.prog 80 #[.pointer (some ⟨pb, 0, none⟩)] w fun e w' => e = .returned (.tuple #[]) ∧ Ta g q X w w' := by
  have c_pb := hpb.cell
  have h1a : ¬ pb = g := h1
  have h1b : ¬ g = pb := fun e => h1 e.symm
  have c_rr := h.c_rr
  have f_rr := h.f_rr
  have c_synced := h.c_synced
  have f_synced := h.f_synced
  have c_sync := h.c_sync
  have f_sync := h.f_sync
  have T := Lib.hid (((((Ta.refl h).s_rr (0)).s_synced (true)).s_sync (false)).as hX.out)
  clear hX h hpb
  go_enter Tryz.func80, Tryz.ntmps80
  go_wp2_with fail
  all_goals try go_region
  all_goals try go_wp2
  all_goals go_end0
  all_goals refine ⟨rfl, ?_⟩
  all_goals first | exact T.out | exact T.out.draw | exact T.out.drawN _

set_option maxRecDepth 20000 in
set_option maxHeartbeats 1000000 in
theorem does_des3 (pb g q : Nat) (p X : Pt) (w : World) (hpb : One 50 w pb (pv g q)) (h1 : pb ≠ g) (h : PAt w g q p) (hX : Hid (({ p with reroot := false } : Pt) = X)) :
    Calls Tryz.prog 82 #[.pointer (some ⟨pb, 0, none⟩)] w fun e w' => e = .returned (.tuple #[]) ∧ Ta g q X w w' := by
  have c_pb := hpb.cell
  have h1a : ¬ pb = g := h1
  have h1b : ¬ g = pb := fun e => h1 e.symm
  have c_reroot := h.c_reroot
  have f_reroot := h.f_reroot
  have T := Lib.hid (((Ta.refl h).s_reroot (false)).as hX.out)
  clear hX h hpb
  go_enter Tryz.func82, Tryz.ntmps82
  go_wp2
  all_goals go_end0
  all_goals refine ⟨rfl, ?_⟩
  all_goals first | exact T.out | exact T.out.draw | exact T.out.drawN _

set_option maxRecDepth 20000 in
set_option maxHeartbeats 1000000 in
theorem does_des4 (sb pb g q : Nat) (t : Tm) (n cap k : Nat) (p X : Pt) (w : World) (hsb : SBk w sb t g n cap k q) (h2 : sb ≠ g) (hpb : One 50 w pb (pv g q)) (h1 : pb ≠ g) (h : PAt w g q p) (hX : Hid (({ p with learn := false, forward := false, disputed := false, fd := t.delay } : Pt) = X)) :
    Calls Tryz.prog 85 #[.pointer (some ⟨sb, 0, none⟩), .pointer (some ⟨pb, 0, none⟩)] w fun e w' => e = .returned (.tuple #[]) ∧ Ta g q X w w' := by
  obtain ⟨s0, s1, s2, s3, s4, s5, s6⟩ := hsb.cells
  have h2a : ¬ sb = g := h2
  have h2b : ¬ g = sb := fun e => h2 e.symm
  have c_pb := hpb.cell
  have h1a : ¬ pb = g := h1
  have h1b : ¬ g = pb := fun e => h1 e.symm
  have c_learn := h.c_learn
  have f_learn := h.f_learn
  have c_forward := h.c_forward
  have f_forward := h.f_forward
  have c_disputed := h.c_disputed
  have f_disputed := h.f_disputed
  have c_fd := h.c_fd
  have f_fd := h.f_fd
  have T := Lib.hid ((((((Ta.refl h).s_learn (false)).s_forward (false)).s_disputed (false)).s_fd (t.delay)).as hX.out)
  clear hX h hsb hpb
  go_enter Tryz.func85, Tryz.ntmps85
  go_wp2_with fail
  all_goals try go_region
  all_goals try go_wp2
  all_goals go_end0
  all_goals refine ⟨rfl, ?_⟩
  all_goals first | exact T.out | exact T.out.draw | exact T.out.drawN _
end Go.Proofs.YtojfmnndfophhaaGreat

namespace Go.Proofs.YtojfmnndfophhaaGreat
set_option linter.unusedVariables false
set_option linter.unusedSimpArgs false
open Go.RowKit Vm Rm Bm Im

theorem SBk.ta {w w' : World} {b g' q' g n cap k q : Nat} {t : Tm} {X : Pt} (h : SBk w b t g n cap k q) (T : Ta g' q' X w w') (hne : b ≠ g') : SBk w' b t g n cap k q := h.same (T.at h.lt hne)
theorem One.ta {T0 : TypeId} {w w' : World} {b g q : Nat} {v : Value} {X : Pt} (h : One T0 w b v) (T : Ta g q X w w') (hne : b ≠ g) : One T0 w' b v := (T.at h.lt hne).trans h
theorem below_h {w w' : World} (h : Below w.heap.size w w') : w.heap.size ≤ w'.heap.size := h.size

set_option maxRecDepth 20000 in
set_option maxHeartbeats 1000000 in
theorem agree_w (t : Tm) (g n cap k q : Nat) (p X : Pt) (w : World) (h : PAt w g q p) (hX : Hid (({ p with proposed := false, agree := true, newInfo := true } : Pt) = X)) :
    Calls Tryz.prog 58 #[sv t g n cap k q] w fun e w' => e = .returned (.tuple #[]) ∧ Ta g q X w w' := by
  obtain ⟨W, sb, HW, HS, k0, kB, kL⟩ := oneS_is t g n cap k q w
  have hgl := h.lt
  rw [HS.out] at hgl
  have h2 : ¬ sb = g := by omega
  have h2b : ¬ g = sb := by omega
  have PA := h.next (HS.out ▸ kB)
  have c_1 := PA.c_proposed
  have c_2 := PA.c_agree
  have c_3 := PA.c_newInfo
  have f_1 := PA.f_proposed
  have f_2 := PA.f_agree
  have f_3 := PA.f_newInfo
  obtain ⟨s0, s1, s2, s3, s4, s5, s6⟩ := k0.cells
  have T := Lib.hid (((((Ta.refl PA).s_proposed false).s_agree true).s_newInfo true).as hX.out)
  have B0 := Lib.hid (HS.out ▸ kB : Below w.heap.size w W)
  have HG := Lib.hid h.lt
  clear h hX PA k0 kB kL hgl
  unfold sv scl
  go_enter Tryz.func58, Tryz.ntmps58
  go_upto_region 1 with (fail)
  refine wp_to (W := W) (by exact HW.out.symm) ?_
  rw [HS.out]
  go_wp2_with fail
  all_goals try go_region
  all_goals try go_wp2
  all_goals go_end0
  all_goals refine ⟨rfl, ?_⟩
  all_goals first | exact T.out.before B0.out HG.out | exact T.out.draw.before B0.out HG.out

def openP (t : Tm) (p : Pt) : Pt := if p.learn = false then { p with learn := true, fd := t.delay } else { p with forward := true, fd := 0 }
set_option maxRecDepth 20000 in
set_option maxHeartbeats 1000000 in
theorem open_w (t : Tm) (g n cap k q : Nat) (p X : Pt) (w : World) (h : PAt w g q p) (hX : Hid (openP t p = X)) :
    Calls Tryz.prog 76 #[sv t g n cap k q] w fun e w' => e = .returned (.tuple #[]) ∧ Ta g q X w w' := by
  obtain ⟨W, sb, HW, HS, k0, kB, kL⟩ := oneS_is t g n cap k q w
  have hgl := h.lt
  rw [HS.out] at hgl
  have h2 : ¬ sb = g := by omega
  have h2b : ¬ g = sb := by omega
  have PA := h.next (HS.out ▸ kB)
  have c_1 := PA.c_learn
  have c_2 := PA.c_fd
  have c_3 := PA.c_forward
  have f_1 := PA.f_learn
  have f_2 := PA.f_fd
  have f_3 := PA.f_forward
  obtain ⟨s0, s1, s2, s3, s4, s5, s6⟩ := k0.cells
  have T1 := Lib.hid (((Ta.refl PA).s_learn true).s_fd t.delay)
  have T2 := Lib.hid (((Ta.refl PA).s_forward true).s_fd 0)
  have B0 := Lib.hid (HS.out ▸ kB : Below w.heap.size w W)
  have HG := Lib.hid h.lt
  rw [← hX.out]
  clear hX
  unfold openP
  clear h PA k0 kB kL hgl
  unfold sv scl
  by_cases e : p.learn = false
  · rw [if_pos e]
    rw [e] at c_1
    clear e
    go_enter Tryz.func76, Tryz.ntmps76
    go_upto_region 1 with (fail)
    refine wp_to (W := W) (by exact HW.out.symm) ?_
    rw [HS.out]
    go_wp2_with fail
    go_region
    go_wp2
    all_goals (try simp only [Exit.inBlock, Exit.then])
    all_goals refine bodyPost_ret (results_none rfl _ _ _) rfl ?_
    all_goals refine ⟨rfl, ?_⟩
    all_goals first | exact T1.out.before B0.out HG.out | exact T1.out.draw.before B0.out HG.out
  · rw [if_neg e]
    have e' : p.learn = true := by cases hl : p.learn; exact absurd hl e; rfl
    rw [e'] at c_1
    clear e e'
    go_enter Tryz.func76, Tryz.ntmps76
    go_upto_region 1 with (fail)
    refine wp_to (W := W) (by exact HW.out.symm) ?_
    rw [HS.out]
    go_wp2_with fail
    all_goals try go_region
    all_goals try go_wp2
    all_goals go_end0
    all_goals refine ⟨rfl, ?_⟩
    all_goals first | exact T2.out.before B0.out HG.out | exact T2.out.draw.before B0.out HG.out

def role2P (t : Tm) (p : Pt) : Pt := if p.selected = 1 then { p with role := p.selected, rr := t.delay } else { p with role := p.selected }
set_option maxRecDepth 20000 in
set_option maxHeartbeats 1000000 in
theorem does_role2 (pb sb g q : Nat) (t : Tm) (n cap k : Nat) (p X : Pt) (w : World) (hpb : One 50 w pb (pv g q)) (h1 : pb ≠ g) (hsb : SBk w sb t g n cap k q) (h2 : sb ≠ g) (h : PAt w g q p) (hX : Hid (role2P t p = X)) :
    Calls Tryz.prog 50 #[.pointer (some ⟨pb, 0, none⟩), .pointer (some ⟨sb, 0, none⟩)] w fun e w' => e = .returned (.tuple #[]) ∧ Ta g q X w w' := by
  have c_pb := hpb.cell
  have h1b : ¬ g = pb := fun e => h1 e.symm
  have h2b : ¬ g = sb := fun e => h2 e.symm
  have h1a : ¬ pb = g := h1
  have h2a : ¬ sb = g := h2
  have c_1 := h.c_role
  have c_2 := h.c_rr
  have c_3 := h.c_selected
  have f_1 := h.f_role
  have f_2 := h.f_rr
  obtain ⟨s0, s1, s2, s3, s4, s5, s6⟩ := hsb.cells
  have T0 := Lib.hid ((Ta.refl h).s_role p.selected)
  rw [← hX.out]
  clear hX
  unfold role2P
  by_cases e : p.selected = 1
  · rw [if_pos e]
    have T1 := Lib.hid (T0.out.draw.s_rr t.delay)
    have d : (p.selected == 1) = true := by rw [e]; rfl
    clear h hpb hsb h1 h2 e
    go_enter Tryz.func50, Tryz.ntmps50
    go_wp2_with fail
    go_region
    go_wp2
    all_goals go_end0
    all_goals refine ⟨rfl, ?_⟩
    all_goals exact T1.out
  · rw [if_neg e]
    have d : (p.selected == 1) = false := beq_eq_false_iff_ne.2 e
    clear h hpb hsb h1 h2 e
    go_enter Tryz.func50, Tryz.ntmps50
    go_wp2_with fail
    go_region
    go_wp2
    all_goals go_end0
    all_goals refine ⟨rfl, ?_⟩
    all_goals first | exact T0.out | exact T0.out.draw

set_option maxRecDepth 20000 in
set_option maxHeartbeats 1000000 in
theorem does_root2 (sb pb g q : Nat) (t : Tm) (n cap k : Nat) (p X : Pt) (w : World) (hsb : SBk w sb t g n cap k q) (h2 : sb ≠ g) (hpb : One 50 w pb (pv g q)) (h1 : pb ≠ g) (h : PAt w g q p) (hX : Hid (({ p with proposed := false, agree := true, newInfo := true, sync := false } : Pt) = X)) :
    Calls Tryz.prog 64 #[.pointer (some ⟨sb, 0, none⟩), .pointer (some ⟨pb, 0, none⟩)] w fun e w' => e = .returned (.tuple #[]) ∧ Ta g q X w w' := by
  have CA := Lib.hid (agree_w t g n cap k q p _ w h (Lib.hid rfl))
  obtain ⟨s0, s1, s2, s3, s4, s5, s6⟩ := hsb.cells
  have HP := Lib.hid hpb
  have H1 := Lib.hid h1
  clear h hpb hsb h1 h2
  unfold sv scl at *
  go_enter Tryz.func64, Tryz.ntmps64
  go_wp2_with (go_at_call 58; (with_reducible refine CA.out.mono ?_); rintro e w1 ⟨rfl, t1⟩; have T1 := Lib.hid t1; have c_pb := (HP.out.ta t1 H1.out).cell; have c_s := t1.blk.c_sync; have f_s := t1.blk.f_sync; clear t1)
  go_end0
  exact ⟨rfl, (T1.out.s_sync false).as hX.out⟩

def des5P (t : Tm) (p : Pt) : Pt := openP t (if p.learn = false then p else { p with agreed := p.sendRstp })
set_option maxRecDepth 20000 in
set_option maxHeartbeats 1000000 in
theorem does_des5 (pb sb g q : Nat) (t : Tm) (n cap k : Nat) (p X : Pt) (w : World) (hpb : One 50 w pb (pv g q)) (h1 : pb ≠ g) (hsb : SBk w sb t g n cap k q) (h2 : sb ≠ g) (h : PAt w g q p) (hX : Hid (des5P t p = X)) :
    Calls Tryz.prog 88 #[.pointer (some ⟨pb, 0, none⟩), .pointer (some ⟨sb, 0, none⟩)] w fun e w' => e = .returned (.tuple #[]) ∧ Ta g q X w w' := by
  have c_pb := hpb.cell
  have h1b : ¬ g = pb := fun e => h1 e.symm
  have h2b : ¬ g = sb := fun e => h2 e.symm
  have h1a : ¬ pb = g := h1
  have h2a : ¬ sb = g := h2
  have c_1 := h.c_learn
  have c_2 := h.c_sendRstp
  have c_3 := h.c_agreed
  have f_3 := h.f_agreed
  obtain ⟨s0, s1, s2, s3, s4, s5, s6⟩ := hsb.cells
  rw [← hX.out]
  clear hX
  unfold des5P
  by_cases e : p.learn = false
  · rw [if_pos e]
    rw [e] at c_1
    have CO := Lib.hid (open_w t g n cap k q p _ w h (Lib.hid rfl))
    clear h hpb hsb h1 h2 e
    unfold sv scl at *
    go_enter Tryz.func88, Tryz.ntmps88
    go_wp2_with (go_at_call 76; (with_reducible refine CO.out.mono ?_); rintro e w1 ⟨rfl, t1⟩)
    go_end0
    exact ⟨rfl, t1⟩
  · rw [if_neg e]
    have e' : p.learn = true := by cases hl : p.learn; exact absurd hl e; rfl
    rw [e'] at c_1
    have T := Lib.hid ((Ta.refl h).s_agreed p.sendRstp).draw
    obtain ⟨W, hW⟩ : ∃ W, (w.setCell ⟨g, q + 32, none⟩ (.bool p.sendRstp)).drew = W := ⟨_, rfl⟩
    rw [hW] at T
    have CO := Lib.hid (open_w t g n cap k q { p with agreed := p.sendRstp } _ W T.out.blk (Lib.hid rfl))
    have HSB := Lib.hid (hsb.ta T.out h2)
    clear h hpb hsb h1 h2 e e'
    unfold sv scl at *
    go_enter Tryz.func88, Tryz.ntmps88
    go_wp2_with fail
    go_region
    clear hW s0 s1 s2 s3 s4 s5 s6
    obtain ⟨s0, s1, s2, s3, s4, s5, s6⟩ := HSB.out.cells
    go_wp2_with (go_at_call 76; (with_reducible refine CO.out.mono ?_); rintro e w1 ⟨rfl, t1⟩)
    go_end0
    exact ⟨rfl, T.out.trans t1⟩
end Go.Proofs.YtojfmnndfophhaaGreat
