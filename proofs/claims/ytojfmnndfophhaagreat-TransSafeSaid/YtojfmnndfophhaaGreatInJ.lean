/-
  Layer 11: the deed settle.
-/
import Derived.Test.YtojfmnndfophhaaGreatInI
namespace Go.Proofs.YtojfmnndfophhaaGreat
set_option linter.unusedVariables false
set_option linter.unusedSimpArgs false
open Go.RowKit Vm Rm Bm Im

def RdS (w : World) (b : Nat) (p : Pt) : Prop :=
  (w.cell? ⟨b, 6, none⟩ = some (.int .u64 p.vec.root) ∧ w.cell? ⟨b, 7, none⟩ = some (.int .u64 p.vec.cost) ∧ w.cell? ⟨b, 8, none⟩ = some (.int .u64 p.vec.bridge) ∧ w.cell? ⟨b, 9, none⟩ = some (.int .u64 p.vec.port) ∧ w.cell? ⟨b, 10, none⟩ = some (.int .i64 p.times.age) ∧ w.cell? ⟨b, 11, none⟩ = some (.int .i64 p.times.max) ∧ w.cell? ⟨b, 12, none⟩ = some (.int .i64 p.times.hello) ∧ w.cell? ⟨b, 13, none⟩ = some (.int .i64 p.times.delay)) ∧ (w.cell? ⟨b, 14, none⟩ = some (.int .u64 p.offer.root) ∧ w.cell? ⟨b, 15, none⟩ = some (.int .u64 p.offer.cost) ∧ w.cell? ⟨b, 16, none⟩ = some (.int .u64 p.offer.bridge) ∧ w.cell? ⟨b, 17, none⟩ = some (.int .u64 p.offer.port) ∧ w.cell? ⟨b, 18, none⟩ = some (.int .i64 p.given.age) ∧ w.cell? ⟨b, 19, none⟩ = some (.int .i64 p.given.max) ∧ w.cell? ⟨b, 20, none⟩ = some (.int .i64 p.given.hello) ∧ w.cell? ⟨b, 21, none⟩ = some (.int .i64 p.given.delay))
theorem PtBlk.rds {T : TypeId} {w : World} {b : Nat} {p : Pt} (h : PtBlk T w b p) : RdS w b p := ⟨h.rd, h.c_offer_root, h.c_offer_cost, h.c_offer_bridge, h.c_offer_port, h.c_given_age, h.c_given_max, h.c_given_hello, h.c_given_delay⟩



theorem settle_eq (p X1 X2 Y : Pt) (A S : Bool) (e : (p.synced && A) = S) (e1 : ({ p with proposing := false, proposed := false, agreed := A } : Pt) = X1) (e2 : ({ X1 with synced := S } : Pt) = X2) (e3 : ({ X2 with vec := X2.offer, times := X2.given } : Pt) = Y) :
    ({ Y with update := false, source := 2, newInfo := true } : Pt) = { p with proposing := false, proposed := false, agreed := A, synced := p.synced && A, vec := p.offer, times := p.given, update := false, source := 2, newInfo := true } := by
  subst e1 e2 e3 e
  rfl


set_option maxRecDepth 20000 in
set_option maxHeartbeats 2000000 in
theorem settle_no_w (b : Nat) (p : Pt) (w : World) (h : PtBlk 34 w b p) (ha : p.agreed = false) :
    Calls Tryz.prog 33 #[.pointer (some ⟨b, 0, none⟩)] w fun e w' => e = .returned (.tuple #[]) ∧ Tn 34 b ({ p with proposing := false, proposed := false, agreed := false, synced := p.synced && false, vec := p.offer, times := p.given, update := false, source := 2, newInfo := true }) w w' := by
  have f := h.free
  have c_1 := h.c_proposing
  have c_2 := h.c_proposed
  have T0 := Lib.hid (((Tn.refl h).set 34 (.bool false) (h.s_proposing false)).set 33 (.bool false) ((h.s_proposing false).s_proposed false))
  obtain ⟨W, hW⟩ : ∃ W, (w.setCell ⟨b, 34, none⟩ (.bool false)).setCell ⟨b, 33, none⟩ (.bool false) = W := ⟨_, rfl⟩
  rw [hW] at T0
  have HW := Lib.hid hW
  clear hW h
  go_enter Tryz.func33, Tryz.ntmps33
  go_upto_region 1 with (fail)
  refine wp_to (W := W) (by exact HW.out.symm) ?_
  clear HW f c_1 c_2
  have f := T0.out.blk.free
  have c_1 := T0.out.blk.c_agreed
  have c_2 := T0.out.blk.c_synced
  rw [show ({ p with proposing := false, proposed := false } : Pt).agreed = false from ha] at c_1
  go_region
  clear c_1
  obtain ⟨U, hU⟩ : ∃ U, (W.setCell ⟨b, 32, none⟩ (.bool false)).drew = U := ⟨_, rfl⟩
  have TU := tn_draw (T0.out.set 32 (.bool false) (T0.out.blk.s_agreed false))
  rw [hU] at TU
  obtain ⟨X1, hX⟩ : ∃ X, ({ p with proposing := false, proposed := false, agreed := false } : Pt) = X := ⟨_, rfl⟩
  replace TU := Lib.hid (TU.as hX)
  have s_x : X1.synced = p.synced := by rw [← hX]
  have o_x : X1.offer = p.offer := by rw [← hX]
  have g_x : X1.given = p.given := by rw [← hX]
  have a_x : X1.agreed = false := by rw [← hX]
  have HX := Lib.hid hX
  have SX := Lib.hid s_x
  have OX := Lib.hid (And.intro o_x g_x)
  rw [hU]
  clear hU hX f c_2
  have f := TU.out.blk.free
  have c_1 := TU.out.blk.c_agreed
  have c_2 := TU.out.blk.c_synced
  rw [a_x] at c_1
  rw [s_x] at c_2
  clear s_x o_x g_x a_x
  obtain ⟨S, hS⟩ : ∃ S, (p.synced && false) = S := ⟨_, rfl⟩
  have TV := TU.out.set 36 (.bool S) (TU.out.blk.s_synced S)
  obtain ⟨V, hV⟩ : ∃ V, U.setCell ⟨b, 36, none⟩ (.bool S) = V := ⟨_, rfl⟩
  obtain ⟨X2, hX2⟩ : ∃ X, ({ X1 with synced := S } : Pt) = X := ⟨_, rfl⟩
  rw [hV] at TV
  replace TV := Lib.hid (TV.as hX2)
  have HX2 := Lib.hid hX2
  have HV := Lib.hid hV
  have HS := Lib.hid hS
  clear hX2 hV
  have SS : ∀ x, p.synced = x → (x && false) = S := fun x h => by rw [← h]; exact hS
  clear hS
  have hsy : p.synced = true ∨ p.synced = false := by cases p.synced <;> simp
  rcases hsy with hs | hs
  · rw [hs] at c_2
    have e : S = false := (SS true hs).symm
    subst e
    clear hs SS
    go_upto_region 3 with (fail)
    refine wp_to (W := V) (by exact HV.out.symm) ?_
    clear HV f c_1 c_2
    obtain ⟨⟨p6, p7, p8, p9, p10, p11, p12, p13⟩, ⟨p14, p15, p16, p17, p18, p19, p20, p21⟩⟩ := TV.out.blk.rds
    have f := TV.out.blk.free
    go_region
    have TF := tn_draw ((TV.out.put4v X2.offer.root X2.offer.cost X2.offer.bridge X2.offer.port).put4t X2.given.age X2.given.max X2.given.hello X2.given.delay)
    unfold put4t put4v at TF
    obtain ⟨Z, hZ⟩ : ∃ Z, ((((((((V.setCell ⟨b, 6, none⟩ (.int .u64 X2.offer.root)).setCell ⟨b, 7, none⟩ (.int .u64 X2.offer.cost)).setCell ⟨b, 8, none⟩ (.int .u64 X2.offer.bridge)).setCell ⟨b, 9, none⟩ (.int .u64 X2.offer.port)).setCell ⟨b, 10, none⟩ (.int .i64 X2.given.age)).setCell ⟨b, 11, none⟩ (.int .i64 X2.given.max)).setCell ⟨b, 12, none⟩ (.int .i64 X2.given.hello)).setCell ⟨b, 13, none⟩ (.int .i64 X2.given.delay)).drew = Z := ⟨_, rfl⟩
    rw [hZ] at TF ⊢
    obtain ⟨Y, hY⟩ : ∃ Y, ({ X2 with vec := X2.offer, times := X2.given } : Pt) = Y := ⟨_, rfl⟩
    replace TF := Lib.hid (TF.as (show _ = Y from hY))
    have HY := Lib.hid hY
    clear hZ hY p6 p7 p8 p9 p10 p11 p12 p13 p14 p15 p16 p17 p18 p19 p20 p21 f
    have f := TF.out.blk.free
    have c_1 := TF.out.blk.c_update
    have c_2 := TF.out.blk.c_source
    have c_3 := TF.out.blk.c_newInfo
    have TG := Lib.hid (((TF.out.set 25 (.bool false) (TF.out.blk.s_update false)).set 5 (.int .i64 2) ((TF.out.blk.s_update false).s_source 2)).set 39 (.bool true) (((TF.out.blk.s_update false).s_source 2).s_newInfo true))
    go_wp2
    go_end0
    exact ⟨rfl, TG.out.as ((settle_eq p X1 X2 Y false false HS.out HX.out HX2.out HY.out).trans (by simp))⟩
  · rw [hs] at c_2
    have e : S = false := (SS false hs).symm
    subst e
    clear hs SS
    go_upto_region 3 with (fail)
    refine wp_to (W := V) (by exact HV.out.symm) ?_
    clear HV f c_1 c_2
    obtain ⟨⟨p6, p7, p8, p9, p10, p11, p12, p13⟩, ⟨p14, p15, p16, p17, p18, p19, p20, p21⟩⟩ := TV.out.blk.rds
    have f := TV.out.blk.free
    go_region
    have TF := tn_draw ((TV.out.put4v X2.offer.root X2.offer.cost X2.offer.bridge X2.offer.port).put4t X2.given.age X2.given.max X2.given.hello X2.given.delay)
    unfold put4t put4v at TF
    obtain ⟨Z, hZ⟩ : ∃ Z, ((((((((V.setCell ⟨b, 6, none⟩ (.int .u64 X2.offer.root)).setCell ⟨b, 7, none⟩ (.int .u64 X2.offer.cost)).setCell ⟨b, 8, none⟩ (.int .u64 X2.offer.bridge)).setCell ⟨b, 9, none⟩ (.int .u64 X2.offer.port)).setCell ⟨b, 10, none⟩ (.int .i64 X2.given.age)).setCell ⟨b, 11, none⟩ (.int .i64 X2.given.max)).setCell ⟨b, 12, none⟩ (.int .i64 X2.given.hello)).setCell ⟨b, 13, none⟩ (.int .i64 X2.given.delay)).drew = Z := ⟨_, rfl⟩
    rw [hZ] at TF ⊢
    obtain ⟨Y, hY⟩ : ∃ Y, ({ X2 with vec := X2.offer, times := X2.given } : Pt) = Y := ⟨_, rfl⟩
    replace TF := Lib.hid (TF.as (show _ = Y from hY))
    have HY := Lib.hid hY
    clear hZ hY p6 p7 p8 p9 p10 p11 p12 p13 p14 p15 p16 p17 p18 p19 p20 p21 f
    have f := TF.out.blk.free
    have c_1 := TF.out.blk.c_update
    have c_2 := TF.out.blk.c_source
    have c_3 := TF.out.blk.c_newInfo
    have TG := Lib.hid (((TF.out.set 25 (.bool false) (TF.out.blk.s_update false)).set 5 (.int .i64 2) ((TF.out.blk.s_update false).s_source 2)).set 39 (.bool true) (((TF.out.blk.s_update false).s_source 2).s_newInfo true))
    go_wp2
    go_end0
    exact ⟨rfl, TG.out.as ((settle_eq p X1 X2 Y false false HS.out HX.out HX2.out HY.out).trans (by simp))⟩

set_option maxRecDepth 20000 in
set_option maxHeartbeats 2000000 in
theorem settle_ne_w (b : Nat) (p : Pt) (w : World) (h : PtBlk 34 w b p) (ha : p.agreed = true) (hv : ¬ p.offer = p.vec) :
    Calls Tryz.prog 33 #[.pointer (some ⟨b, 0, none⟩)] w fun e w' => e = .returned (.tuple #[]) ∧ Tn 34 b ({ p with proposing := false, proposed := false, agreed := false, synced := p.synced && false, vec := p.offer, times := p.given, update := false, source := 2, newInfo := true }) w w' := by
  have f := h.free
  have c_1 := h.c_proposing
  have c_2 := h.c_proposed
  have T0 := Lib.hid (((Tn.refl h).set 34 (.bool false) (h.s_proposing false)).set 33 (.bool false) ((h.s_proposing false).s_proposed false))
  obtain ⟨W, hW⟩ : ∃ W, (w.setCell ⟨b, 34, none⟩ (.bool false)).setCell ⟨b, 33, none⟩ (.bool false) = W := ⟨_, rfl⟩
  rw [hW] at T0
  have HW := Lib.hid hW
  clear hW h
  go_enter Tryz.func33, Tryz.ntmps33
  go_upto_region 1 with (fail)
  refine wp_to (W := W) (by exact HW.out.symm) ?_
  clear HW f c_1 c_2
  have f := T0.out.blk.free
  have c_1 := T0.out.blk.c_agreed
  have c_2 := T0.out.blk.c_synced
  rw [show ({ p with proposing := false, proposed := false } : Pt).agreed = true from ha] at c_1
  obtain ⟨⟨p6, p7, p8, p9, p10, p11, p12, p13⟩, ⟨p14, p15, p16, p17, p18, p19, p20, p21⟩⟩ := T0.out.blk.rds
  have hE := run_vcEq p.offer.root p.offer.cost p.offer.bridge p.offer.port p.vec.root p.vec.cost p.vec.bridge p.vec.port
  rw [show decide ((⟨p.offer.root, p.offer.cost, p.offer.bridge, p.offer.port⟩ : Vc) = ⟨p.vec.root, p.vec.cost, p.vec.bridge, p.vec.port⟩) = false from decide_eq_false hv] at hE
  clear hv ha
  go_region
  clear p6 p7 p8 p9 p10 p11 p12 p13 p14 p15 p16 p17 p18 p19 p20 p21 hE
  clear c_1
  obtain ⟨U, hU⟩ : ∃ U, (W.setCell ⟨b, 32, none⟩ (.bool false)).drew = U := ⟨_, rfl⟩
  have TU := tn_draw (T0.out.set 32 (.bool false) (T0.out.blk.s_agreed false))
  rw [hU] at TU
  obtain ⟨X1, hX⟩ : ∃ X, ({ p with proposing := false, proposed := false, agreed := false } : Pt) = X := ⟨_, rfl⟩
  replace TU := Lib.hid (TU.as hX)
  have s_x : X1.synced = p.synced := by rw [← hX]
  have o_x : X1.offer = p.offer := by rw [← hX]
  have g_x : X1.given = p.given := by rw [← hX]
  have a_x : X1.agreed = false := by rw [← hX]
  have HX := Lib.hid hX
  have SX := Lib.hid s_x
  have OX := Lib.hid (And.intro o_x g_x)
  rw [hU]
  clear hU hX f c_2
  have f := TU.out.blk.free
  have c_1 := TU.out.blk.c_agreed
  have c_2 := TU.out.blk.c_synced
  rw [a_x] at c_1
  rw [s_x] at c_2
  clear s_x o_x g_x a_x
  obtain ⟨S, hS⟩ : ∃ S, (p.synced && false) = S := ⟨_, rfl⟩
  have TV := TU.out.set 36 (.bool S) (TU.out.blk.s_synced S)
  obtain ⟨V, hV⟩ : ∃ V, U.setCell ⟨b, 36, none⟩ (.bool S) = V := ⟨_, rfl⟩
  obtain ⟨X2, hX2⟩ : ∃ X, ({ X1 with synced := S } : Pt) = X := ⟨_, rfl⟩
  rw [hV] at TV
  replace TV := Lib.hid (TV.as hX2)
  have HX2 := Lib.hid hX2
  have HV := Lib.hid hV
  have HS := Lib.hid hS
  clear hX2 hV
  have SS : ∀ x, p.synced = x → (x && false) = S := fun x h => by rw [← h]; exact hS
  clear hS
  have hsy : p.synced = true ∨ p.synced = false := by cases p.synced <;> simp
  rcases hsy with hs | hs
  · rw [hs] at c_2
    have e : S = false := (SS true hs).symm
    subst e
    clear hs SS
    go_upto_region 3 with (fail)
    refine wp_to (W := V) (by exact HV.out.symm) ?_
    clear HV f c_1 c_2
    obtain ⟨⟨p6, p7, p8, p9, p10, p11, p12, p13⟩, ⟨p14, p15, p16, p17, p18, p19, p20, p21⟩⟩ := TV.out.blk.rds
    have f := TV.out.blk.free
    go_region
    have TF := tn_draw ((TV.out.put4v X2.offer.root X2.offer.cost X2.offer.bridge X2.offer.port).put4t X2.given.age X2.given.max X2.given.hello X2.given.delay)
    unfold put4t put4v at TF
    obtain ⟨Z, hZ⟩ : ∃ Z, ((((((((V.setCell ⟨b, 6, none⟩ (.int .u64 X2.offer.root)).setCell ⟨b, 7, none⟩ (.int .u64 X2.offer.cost)).setCell ⟨b, 8, none⟩ (.int .u64 X2.offer.bridge)).setCell ⟨b, 9, none⟩ (.int .u64 X2.offer.port)).setCell ⟨b, 10, none⟩ (.int .i64 X2.given.age)).setCell ⟨b, 11, none⟩ (.int .i64 X2.given.max)).setCell ⟨b, 12, none⟩ (.int .i64 X2.given.hello)).setCell ⟨b, 13, none⟩ (.int .i64 X2.given.delay)).drew = Z := ⟨_, rfl⟩
    rw [hZ] at TF ⊢
    obtain ⟨Y, hY⟩ : ∃ Y, ({ X2 with vec := X2.offer, times := X2.given } : Pt) = Y := ⟨_, rfl⟩
    replace TF := Lib.hid (TF.as (show _ = Y from hY))
    have HY := Lib.hid hY
    clear hZ hY p6 p7 p8 p9 p10 p11 p12 p13 p14 p15 p16 p17 p18 p19 p20 p21 f
    have f := TF.out.blk.free
    have c_1 := TF.out.blk.c_update
    have c_2 := TF.out.blk.c_source
    have c_3 := TF.out.blk.c_newInfo
    have TG := Lib.hid (((TF.out.set 25 (.bool false) (TF.out.blk.s_update false)).set 5 (.int .i64 2) ((TF.out.blk.s_update false).s_source 2)).set 39 (.bool true) (((TF.out.blk.s_update false).s_source 2).s_newInfo true))
    go_wp2
    go_end0
    exact ⟨rfl, TG.out.as ((settle_eq p X1 X2 Y false false HS.out HX.out HX2.out HY.out).trans (by simp))⟩
  · rw [hs] at c_2
    have e : S = false := (SS false hs).symm
    subst e
    clear hs SS
    go_upto_region 3 with (fail)
    refine wp_to (W := V) (by exact HV.out.symm) ?_
    clear HV f c_1 c_2
    obtain ⟨⟨p6, p7, p8, p9, p10, p11, p12, p13⟩, ⟨p14, p15, p16, p17, p18, p19, p20, p21⟩⟩ := TV.out.blk.rds
    have f := TV.out.blk.free
    go_region
    have TF := tn_draw ((TV.out.put4v X2.offer.root X2.offer.cost X2.offer.bridge X2.offer.port).put4t X2.given.age X2.given.max X2.given.hello X2.given.delay)
    unfold put4t put4v at TF
    obtain ⟨Z, hZ⟩ : ∃ Z, ((((((((V.setCell ⟨b, 6, none⟩ (.int .u64 X2.offer.root)).setCell ⟨b, 7, none⟩ (.int .u64 X2.offer.cost)).setCell ⟨b, 8, none⟩ (.int .u64 X2.offer.bridge)).setCell ⟨b, 9, none⟩ (.int .u64 X2.offer.port)).setCell ⟨b, 10, none⟩ (.int .i64 X2.given.age)).setCell ⟨b, 11, none⟩ (.int .i64 X2.given.max)).setCell ⟨b, 12, none⟩ (.int .i64 X2.given.hello)).setCell ⟨b, 13, none⟩ (.int .i64 X2.given.delay)).drew = Z := ⟨_, rfl⟩
    rw [hZ] at TF ⊢
    obtain ⟨Y, hY⟩ : ∃ Y, ({ X2 with vec := X2.offer, times := X2.given } : Pt) = Y := ⟨_, rfl⟩
    replace TF := Lib.hid (TF.as (show _ = Y from hY))
    have HY := Lib.hid hY
    clear hZ hY p6 p7 p8 p9 p10 p11 p12 p13 p14 p15 p16 p17 p18 p19 p20 p21 f
    have f := TF.out.blk.free
    have c_1 := TF.out.blk.c_update
    have c_2 := TF.out.blk.c_source
    have c_3 := TF.out.blk.c_newInfo
    have TG := Lib.hid (((TF.out.set 25 (.bool false) (TF.out.blk.s_update false)).set 5 (.int .i64 2) ((TF.out.blk.s_update false).s_source 2)).set 39 (.bool true) (((TF.out.blk.s_update false).s_source 2).s_newInfo true))
    go_wp2
    go_end0
    exact ⟨rfl, TG.out.as ((settle_eq p X1 X2 Y false false HS.out HX.out HX2.out HY.out).trans (by simp))⟩

set_option maxRecDepth 20000 in
set_option maxHeartbeats 2000000 in
theorem settle_eq_w (b : Nat) (p : Pt) (w : World) (h : PtBlk 34 w b p) (ha : p.agreed = true) (hv : p.offer = p.vec) :
    Calls Tryz.prog 33 #[.pointer (some ⟨b, 0, none⟩)] w fun e w' => e = .returned (.tuple #[]) ∧ Tn 34 b ({ p with proposing := false, proposed := false, agreed := true, synced := p.synced && true, vec := p.offer, times := p.given, update := false, source := 2, newInfo := true }) w w' := by
  have f := h.free
  have c_1 := h.c_proposing
  have c_2 := h.c_proposed
  have T0 := Lib.hid (((Tn.refl h).set 34 (.bool false) (h.s_proposing false)).set 33 (.bool false) ((h.s_proposing false).s_proposed false))
  obtain ⟨W, hW⟩ : ∃ W, (w.setCell ⟨b, 34, none⟩ (.bool false)).setCell ⟨b, 33, none⟩ (.bool false) = W := ⟨_, rfl⟩
  rw [hW] at T0
  have HW := Lib.hid hW
  clear hW h
  go_enter Tryz.func33, Tryz.ntmps33
  go_upto_region 1 with (fail)
  refine wp_to (W := W) (by exact HW.out.symm) ?_
  clear HW f c_1 c_2
  have f := T0.out.blk.free
  have c_1 := T0.out.blk.c_agreed
  have c_2 := T0.out.blk.c_synced
  rw [show ({ p with proposing := false, proposed := false } : Pt).agreed = true from ha] at c_1
  obtain ⟨⟨p6, p7, p8, p9, p10, p11, p12, p13⟩, ⟨p14, p15, p16, p17, p18, p19, p20, p21⟩⟩ := T0.out.blk.rds
  have hE := run_vcEq p.offer.root p.offer.cost p.offer.bridge p.offer.port p.vec.root p.vec.cost p.vec.bridge p.vec.port
  rw [show decide ((⟨p.offer.root, p.offer.cost, p.offer.bridge, p.offer.port⟩ : Vc) = ⟨p.vec.root, p.vec.cost, p.vec.bridge, p.vec.port⟩) = true from decide_eq_true hv] at hE
  clear hv ha
  go_region
  clear p6 p7 p8 p9 p10 p11 p12 p13 p14 p15 p16 p17 p18 p19 p20 p21 hE
  clear c_1
  obtain ⟨U, hU⟩ : ∃ U, (W.setCell ⟨b, 32, none⟩ (.bool true)).drew = U := ⟨_, rfl⟩
  have TU := tn_draw (T0.out.set 32 (.bool true) (T0.out.blk.s_agreed true))
  rw [hU] at TU
  obtain ⟨X1, hX⟩ : ∃ X, ({ p with proposing := false, proposed := false, agreed := true } : Pt) = X := ⟨_, rfl⟩
  replace TU := Lib.hid (TU.as hX)
  have s_x : X1.synced = p.synced := by rw [← hX]
  have o_x : X1.offer = p.offer := by rw [← hX]
  have g_x : X1.given = p.given := by rw [← hX]
  have a_x : X1.agreed = true := by rw [← hX]
  have HX := Lib.hid hX
  have SX := Lib.hid s_x
  have OX := Lib.hid (And.intro o_x g_x)
  rw [hU]
  clear hU hX f c_2
  have f := TU.out.blk.free
  have c_1 := TU.out.blk.c_agreed
  have c_2 := TU.out.blk.c_synced
  rw [a_x] at c_1
  rw [s_x] at c_2
  clear s_x o_x g_x a_x
  obtain ⟨S, hS⟩ : ∃ S, (p.synced && true) = S := ⟨_, rfl⟩
  have TV := TU.out.set 36 (.bool S) (TU.out.blk.s_synced S)
  obtain ⟨V, hV⟩ : ∃ V, U.setCell ⟨b, 36, none⟩ (.bool S) = V := ⟨_, rfl⟩
  obtain ⟨X2, hX2⟩ : ∃ X, ({ X1 with synced := S } : Pt) = X := ⟨_, rfl⟩
  rw [hV] at TV
  replace TV := Lib.hid (TV.as hX2)
  have HX2 := Lib.hid hX2
  have HV := Lib.hid hV
  have HS := Lib.hid hS
  clear hX2 hV
  have SS : ∀ x, p.synced = x → (x && true) = S := fun x h => by rw [← h]; exact hS
  clear hS
  have hsy : p.synced = true ∨ p.synced = false := by cases p.synced <;> simp
  rcases hsy with hs | hs
  · rw [hs] at c_2
    have e : S = true := (SS true hs).symm
    subst e
    clear hs SS
    go_upto_region 3 with (fail)
    refine wp_to (W := V) (by exact HV.out.symm) ?_
    clear HV f c_1 c_2
    obtain ⟨⟨p6, p7, p8, p9, p10, p11, p12, p13⟩, ⟨p14, p15, p16, p17, p18, p19, p20, p21⟩⟩ := TV.out.blk.rds
    have f := TV.out.blk.free
    go_region
    have TF := tn_draw ((TV.out.put4v X2.offer.root X2.offer.cost X2.offer.bridge X2.offer.port).put4t X2.given.age X2.given.max X2.given.hello X2.given.delay)
    unfold put4t put4v at TF
    obtain ⟨Z, hZ⟩ : ∃ Z, ((((((((V.setCell ⟨b, 6, none⟩ (.int .u64 X2.offer.root)).setCell ⟨b, 7, none⟩ (.int .u64 X2.offer.cost)).setCell ⟨b, 8, none⟩ (.int .u64 X2.offer.bridge)).setCell ⟨b, 9, none⟩ (.int .u64 X2.offer.port)).setCell ⟨b, 10, none⟩ (.int .i64 X2.given.age)).setCell ⟨b, 11, none⟩ (.int .i64 X2.given.max)).setCell ⟨b, 12, none⟩ (.int .i64 X2.given.hello)).setCell ⟨b, 13, none⟩ (.int .i64 X2.given.delay)).drew = Z := ⟨_, rfl⟩
    rw [hZ] at TF ⊢
    obtain ⟨Y, hY⟩ : ∃ Y, ({ X2 with vec := X2.offer, times := X2.given } : Pt) = Y := ⟨_, rfl⟩
    replace TF := Lib.hid (TF.as (show _ = Y from hY))
    have HY := Lib.hid hY
    clear hZ hY p6 p7 p8 p9 p10 p11 p12 p13 p14 p15 p16 p17 p18 p19 p20 p21 f
    have f := TF.out.blk.free
    have c_1 := TF.out.blk.c_update
    have c_2 := TF.out.blk.c_source
    have c_3 := TF.out.blk.c_newInfo
    have TG := Lib.hid (((TF.out.set 25 (.bool false) (TF.out.blk.s_update false)).set 5 (.int .i64 2) ((TF.out.blk.s_update false).s_source 2)).set 39 (.bool true) (((TF.out.blk.s_update false).s_source 2).s_newInfo true))
    go_wp2
    go_end0
    exact ⟨rfl, TG.out.as ((settle_eq p X1 X2 Y true true HS.out HX.out HX2.out HY.out).trans (by simp))⟩
  · rw [hs] at c_2
    have e : S = false := (SS false hs).symm
    subst e
    clear hs SS
    go_upto_region 3 with (fail)
    refine wp_to (W := V) (by exact HV.out.symm) ?_
    clear HV f c_1 c_2
    obtain ⟨⟨p6, p7, p8, p9, p10, p11, p12, p13⟩, ⟨p14, p15, p16, p17, p18, p19, p20, p21⟩⟩ := TV.out.blk.rds
    have f := TV.out.blk.free
    go_region
    have TF := tn_draw ((TV.out.put4v X2.offer.root X2.offer.cost X2.offer.bridge X2.offer.port).put4t X2.given.age X2.given.max X2.given.hello X2.given.delay)
    unfold put4t put4v at TF
    obtain ⟨Z, hZ⟩ : ∃ Z, ((((((((V.setCell ⟨b, 6, none⟩ (.int .u64 X2.offer.root)).setCell ⟨b, 7, none⟩ (.int .u64 X2.offer.cost)).setCell ⟨b, 8, none⟩ (.int .u64 X2.offer.bridge)).setCell ⟨b, 9, none⟩ (.int .u64 X2.offer.port)).setCell ⟨b, 10, none⟩ (.int .i64 X2.given.age)).setCell ⟨b, 11, none⟩ (.int .i64 X2.given.max)).setCell ⟨b, 12, none⟩ (.int .i64 X2.given.hello)).setCell ⟨b, 13, none⟩ (.int .i64 X2.given.delay)).drew = Z := ⟨_, rfl⟩
    rw [hZ] at TF ⊢
    obtain ⟨Y, hY⟩ : ∃ Y, ({ X2 with vec := X2.offer, times := X2.given } : Pt) = Y := ⟨_, rfl⟩
    replace TF := Lib.hid (TF.as (show _ = Y from hY))
    have HY := Lib.hid hY
    clear hZ hY p6 p7 p8 p9 p10 p11 p12 p13 p14 p15 p16 p17 p18 p19 p20 p21 f
    have f := TF.out.blk.free
    have c_1 := TF.out.blk.c_update
    have c_2 := TF.out.blk.c_source
    have c_3 := TF.out.blk.c_newInfo
    have TG := Lib.hid (((TF.out.set 25 (.bool false) (TF.out.blk.s_update false)).set 5 (.int .i64 2) ((TF.out.blk.s_update false).s_source 2)).set 39 (.bool true) (((TF.out.blk.s_update false).s_source 2).s_newInfo true))
    go_wp2
    go_end0
    exact ⟨rfl, TG.out.as ((settle_eq p X1 X2 Y true false HS.out HX.out HX2.out HY.out).trans (by simp))⟩

theorem settle_w (b : Nat) (p X : Pt) (w : World) (h : PtBlk 34 w b p) (hX : Hid ({ p with proposing := false, proposed := false, agreed := p.agreed && decide (p.offer = p.vec), synced := p.synced && (p.agreed && decide (p.offer = p.vec)), vec := p.offer, times := p.given, update := false, source := 2, newInfo := true } = X)) :
    Calls Tryz.prog 33 #[.pointer (some ⟨b, 0, none⟩)] w fun e w' => e = .returned (.tuple #[]) ∧ Tn 34 b X w w' := by
  rw [← hX.out]
  cases ha : p.agreed
  · exact settle_no_w b p w h ha
  · by_cases hv : p.offer = p.vec
    · rw [decide_eq_true hv]
      exact settle_eq_w b p w h ha hv
    · rw [decide_eq_false hv]
      exact settle_ne_w b p w h ha hv


end Go.Proofs.YtojfmnndfophhaaGreat
