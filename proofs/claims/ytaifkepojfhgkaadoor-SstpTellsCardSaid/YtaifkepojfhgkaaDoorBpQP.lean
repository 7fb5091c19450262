/-
  Walks of layer 3's document: Print.
-/
import Derived.Test.YtaifkepojfhgkaaDoorBpQ
import Derived.Test.YtaifkepojfhgkaaDoorBpBk
namespace Go.Proofs.YtaifkepojfhgkaaDoor
set_option linter.unusedVariables false
set_option linter.unusedSimpArgs false
open Go.RowKit Bm

theorem rbytes_w (n : Int) (k : Nat) (w : World) (S : ByteArray) (hS : Hid (be n.toNat k = S)) (hn : u64B n) (hk : k ≤ 8) :
    Calls Tryd.prog 22 #[.int .u64 n, .int .i64 k] w fun e w' => e = .returned (.string S) ∧ Below w.heap.size w w' := by
  have H := rbytes_any n k w hn hk
  rw [hS.out] at H
  exact H

theorem rbytes_v (n kk : Int) (k : Nat) (hkk : kk = (k : Int)) (w : World) (S : ByteArray) (hS : Hid (be n.toNat k = S)) (hn : u64B n) (hk : k ≤ 8) :
    Calls Tryd.prog 22 #[.int .u64 n, .int .i64 kk] w fun e w' => e = .returned (.string S) ∧ Below w.heap.size w w' := by
  subst hkk
  exact rbytes_w n k w S hS hn hk
theorem wrap_bytes (v : Int) (n : Nat) (S : ByteArray) (h0 : 0 ≤ v) (h1 : v ≤ 65535) (h : Hid (be v.toNat n = S)) : Hid (Hid (be (IntKind.u64.wrap v).toNat n = S) ∧ u64B (IntKind.u64.wrap v)) := by
  have e : IntKind.u64.wrap v = v := by rw [IntKind.wrap_u64]; omega
  rw [e]
  exact ⟨h, h0, by omega⟩

set_option maxHeartbeats 400000 in
theorem rprint_no (k f r c b p a m h d : Int) (w : World) (hr : rightB ⟨k, f, r, c, b, p, a, m, h, d⟩ = false) :
    Calls Tryd.prog 12 #[bv k f r c b p a m h d] w fun e w' => e = .returned (.tuple #[.string ⟨#[]⟩, .int .i64 2]) ∧ Below w.heap.size w w' := by
  go_enter Tryd.func12, Tryd.ntmps12
  go_wp2_with (go_at_call 21; refine (rright_w _ _ _ _ _ _ _ _ _ _ _ _ (Lib.hid hr)).mono ?_; rintro e w' ⟨rfl, hb1⟩)
  go_ret2
  exact ⟨rfl, bw_trans (below_box _ _) hb1⟩

set_option maxHeartbeats 1000000 in
theorem rprint_2 (w : World) :
    Calls Tryd.prog 12 #[bv 2 0 0 0 0 0 0 0 0 0] w fun e w' => e = .returned (.tuple #[.string ⟨#[0, 0, 0, 128]⟩, .int .i64 0]) ∧ Below w.heap.size w w' := by
  have HR := Lib.hid (show rightB ⟨2, 0, 0, 0, 0, 0, 0, 0, 0, 0⟩ = true by decide)
  go_enter Tryd.func12, Tryd.ntmps12
  go_wp2_with fail
  refine (rright_w _ _ _ _ _ _ _ _ _ _ _ true HR).mono ?_
  rintro e w1 ⟨rfl, hb1⟩
  have k1 := (blk_new 33 w 2 0 0 0 0 0 0 0 0 0).next hb1
  have B1 := bw_trans (below_box w _) hb1
  clear hb1
  have y := k1.cells
  obtain ⟨c0, c1, c2, c3, c4, c5, c6, c7, c8, c9⟩ := y
  have hc := convAt #[.int .u8 0, .int .u8 0, .int .u8 0, .int .u8 128] ⟨#[0, 0, 0, 128]⟩ w1 w1.heap.size 4 rfl rfl rfl (by decide) rfl
  go_wp2
  go_ret2
  exact ⟨rfl, bw_alloc B1 _⟩
set_option maxHeartbeats 8000000 in
theorem rprint_1 (f r c b p a m h d : Int) (w : World) (hr : numsB ⟨1, f, r, c, b, p, a, m, h, d⟩ = true) (hok : Bp.ok ⟨1, f, r, c, b, p, a, m, h, d⟩) :
    Calls Tryd.prog 12 #[bv 1 f r c b p a m h d] w fun e w' => e = .returned (.tuple #[.string (bytesOf ⟨1, f, r, c, b, p, a, m, h, d⟩), .int .i64 0]) ∧ Below w.heap.size w w' := by
  have HR := Lib.hid (show rightB ⟨1, f, r, c, b, p, a, m, h, d⟩ = true by simp [rightB, hr])
  simp only [numsB, withinB, Bool.and_eq_true, decide_eq_true_eq] at hr
  obtain ⟨⟨lf, uf⟩, uc, up, ⟨la, ua⟩, ⟨lm, um⟩, ⟨lh, uh⟩, ld, ud⟩ := hr
  obtain ⟨u1, u2, u3, u4⟩ := hok
  simp only at u1 u2 u3 u4
  have U1 := Lib.hid u1
  have U2 := Lib.hid u2
  have U3 := Lib.hid u3
  have U4 := Lib.hid u4
  clear u1 u2 u3 u4
  obtain ⟨Sf, hSf⟩ : ∃ S, be f.toNat 1 = S := ⟨_, rfl⟩
  have zf : Sf.size = 1 := by rw [← hSf]; exact be_size _ _
  have Hf := Lib.hid hSf; clear hSf
  obtain ⟨Sr, hSr⟩ : ∃ S, be r.toNat 8 = S := ⟨_, rfl⟩
  have zr : Sr.size = 8 := by rw [← hSr]; exact be_size _ _
  have Hr := Lib.hid hSr; clear hSr
  obtain ⟨Sc, hSc⟩ : ∃ S, be c.toNat 4 = S := ⟨_, rfl⟩
  have zc : Sc.size = 4 := by rw [← hSc]; exact be_size _ _
  have Hc := Lib.hid hSc; clear hSc
  obtain ⟨Sb, hSb⟩ : ∃ S, be b.toNat 8 = S := ⟨_, rfl⟩
  have zb : Sb.size = 8 := by rw [← hSb]; exact be_size _ _
  have Hb := Lib.hid hSb; clear hSb
  obtain ⟨Sp, hSp⟩ : ∃ S, be p.toNat 2 = S := ⟨_, rfl⟩
  have zp : Sp.size = 2 := by rw [← hSp]; exact be_size _ _
  have Hp := Lib.hid hSp; clear hSp
  obtain ⟨Sa, hSa⟩ : ∃ S, be a.toNat 2 = S := ⟨_, rfl⟩
  have za : Sa.size = 2 := by rw [← hSa]; exact be_size _ _
  have Ha := Lib.hid hSa; clear hSa
  obtain ⟨Sm, hSm⟩ : ∃ S, be m.toNat 2 = S := ⟨_, rfl⟩
  have zm : Sm.size = 2 := by rw [← hSm]; exact be_size _ _
  have Hm := Lib.hid hSm; clear hSm
  obtain ⟨Sh, hSh⟩ : ∃ S, be h.toNat 2 = S := ⟨_, rfl⟩
  have zh : Sh.size = 2 := by rw [← hSh]; exact be_size _ _
  have Hh := Lib.hid hSh; clear hSh
  obtain ⟨Sd, hSd⟩ : ∃ S, be d.toNat 2 = S := ⟨_, rfl⟩
  have zd : Sd.size = 2 := by rw [← hSd]; exact be_size _ _
  have Hd := Lib.hid hSd; clear hSd
  have Wf : Hid (Hid (be (IntKind.u64.wrap f).toNat 1 = Sf) ∧ u64B (IntKind.u64.wrap f)) := wrap_bytes f 1 Sf lf (by omega) Hf
  have Wa : Hid (Hid (be (IntKind.u64.wrap a).toNat 2 = Sa) ∧ u64B (IntKind.u64.wrap a)) := wrap_bytes a 2 Sa la (by omega) Ha
  have Wm : Hid (Hid (be (IntKind.u64.wrap m).toNat 2 = Sm) ∧ u64B (IntKind.u64.wrap m)) := wrap_bytes m 2 Sm lm (by omega) Hm
  have Wh : Hid (Hid (be (IntKind.u64.wrap h).toNat 2 = Sh) ∧ u64B (IntKind.u64.wrap h)) := wrap_bytes h 2 Sh lh (by omega) Hh
  have Wd : Hid (Hid (be (IntKind.u64.wrap d).toNat 2 = Sd) ∧ u64B (IntKind.u64.wrap d)) := wrap_bytes d 2 Sd ld (by omega) Hd
  have Cf : Hid (∀ w' : World, Calls Tryd.prog 22 #[.int .u64 (IntKind.u64.wrap f), .int .i64 1] w' fun e w'' => e = .returned (.string Sf) ∧ Below w'.heap.size w' w'') := fun w' => rbytes_v (IntKind.u64.wrap f) 1 1 rfl w' Sf Wf.out.1 Wf.out.2 (by omega)
  have Cr : Hid (∀ w' : World, Calls Tryd.prog 22 #[.int .u64 r, .int .i64 8] w' fun e w'' => e = .returned (.string Sr) ∧ Below w'.heap.size w' w'') := fun w' => rbytes_v r 8 8 rfl w' Sr Hr U1.out (by omega)
  have Cc : Hid (∀ w' : World, Calls Tryd.prog 22 #[.int .u64 c, .int .i64 4] w' fun e w'' => e = .returned (.string Sc) ∧ Below w'.heap.size w' w'') := fun w' => rbytes_v c 4 4 rfl w' Sc Hc U2.out (by omega)
  have Cb : Hid (∀ w' : World, Calls Tryd.prog 22 #[.int .u64 b, .int .i64 8] w' fun e w'' => e = .returned (.string Sb) ∧ Below w'.heap.size w' w'') := fun w' => rbytes_v b 8 8 rfl w' Sb Hb U3.out (by omega)
  have Cp : Hid (∀ w' : World, Calls Tryd.prog 22 #[.int .u64 p, .int .i64 2] w' fun e w'' => e = .returned (.string Sp) ∧ Below w'.heap.size w' w'') := fun w' => rbytes_v p 2 2 rfl w' Sp Hp U4.out (by omega)
  have Ca : Hid (∀ w' : World, Calls Tryd.prog 22 #[.int .u64 (IntKind.u64.wrap a), .int .i64 2] w' fun e w'' => e = .returned (.string Sa) ∧ Below w'.heap.size w' w'') := fun w' => rbytes_v (IntKind.u64.wrap a) 2 2 rfl w' Sa Wa.out.1 Wa.out.2 (by omega)
  have Cm : Hid (∀ w' : World, Calls Tryd.prog 22 #[.int .u64 (IntKind.u64.wrap m), .int .i64 2] w' fun e w'' => e = .returned (.string Sm) ∧ Below w'.heap.size w' w'') := fun w' => rbytes_v (IntKind.u64.wrap m) 2 2 rfl w' Sm Wm.out.1 Wm.out.2 (by omega)
  have Ch : Hid (∀ w' : World, Calls Tryd.prog 22 #[.int .u64 (IntKind.u64.wrap h), .int .i64 2] w' fun e w'' => e = .returned (.string Sh) ∧ Below w'.heap.size w' w'') := fun w' => rbytes_v (IntKind.u64.wrap h) 2 2 rfl w' Sh Wh.out.1 Wh.out.2 (by omega)
  have Cd : Hid (∀ w' : World, Calls Tryd.prog 22 #[.int .u64 (IntKind.u64.wrap d), .int .i64 2] w' fun e w'' => e = .returned (.string Sd) ∧ Below w'.heap.size w' w'') := fun w' => rbytes_v (IntKind.u64.wrap d) 2 2 rfl w' Sd Wd.out.1 Wd.out.2 (by omega)
  clear Wf Wa Wm Wh Wd
  go_enter Tryd.func12, Tryd.ntmps12
  go_wp2_with fail
  refine (rright_w _ _ _ _ _ _ _ _ _ _ _ true HR).mono ?_
  rintro e w1 ⟨rfl, hb1⟩
  have k1 := (blk_new 33 w 1 f r c b p a m h d).next hb1
  have B1 := bw_trans (below_box w _) hb1
  clear hb1
  have y := k1.cells
  obtain ⟨c0, c1, c2, c3, c4, c5, c6, c7, c8, c9⟩ := y
  have l1 := k1.lt
  have hc1 := convAt #[.int .u8 0, .int .u8 0, .int .u8 0, .int .u8 0] ⟨#[0, 0, 0, 0]⟩ w1 w1.heap.size 4 rfl rfl rfl (by decide) rfl
  go_upto_region 8 with (fail)
  obtain ⟨W, hW⟩ : ∃ W, W = (w1.alloc (.cells #[.int .u8 0, .int .u8 0, .int .u8 0, .int .u8 0] 5)) := ⟨_, rfl⟩
  have kW : Blk 33 W w.heap.size ⟨1, f, r, c, b, p, a, m, h, d⟩ := by rw [hW]; exact (k1.next (below_box w1 _))
  have BW : Below w.heap.size w W := by rw [hW]; exact bw_alloc B1 _
  rw [← hW]
  clear hW hc1 k1 B1 l1 c0 c1 c2 c3 c4 c5 c6 c7 c8 c9
  obtain ⟨HD, hHD⟩ : ∃ HD : ByteArray, ⟨#[0, 0, 0, 0]⟩ = HD := ⟨_, rfl⟩
  have zHD : HD.size = 4 := by rw [← hHD]; rfl
  rw [hHD]
  have HH := Lib.hid hHD; clear hHD
  go_cut [4] (fun q wx => q = .string (((((HD ++ Sf) ++ Sr) ++ Sc) ++ Sb) ++ Sp) ∧ Blk 33 wx w.heap.size ⟨1, f, r, c, b, p, a, m, h, d⟩ ∧ Below w.heap.size w wx)
  case first =>
    have lk := kW.lt
    have S0 : W.cell? ⟨w.heap.size, 0, none⟩ = some (.int .i64 1) ∧ W.cell? ⟨w.heap.size, 1, none⟩ = some (.int .i64 f) ∧ W.cell? ⟨w.heap.size, 2, none⟩ = some (.int .u64 r) ∧ W.cell? ⟨w.heap.size, 3, none⟩ = some (.int .u64 c) ∧ W.cell? ⟨w.heap.size, 4, none⟩ = some (.int .u64 b) ∧ W.cell? ⟨w.heap.size, 5, none⟩ = some (.int .u64 p) ∧ W.cell? ⟨w.heap.size, 6, none⟩ = some (.int .i64 a) ∧ W.cell? ⟨w.heap.size, 7, none⟩ = some (.int .i64 m) ∧ W.cell? ⟨w.heap.size, 8, none⟩ = some (.int .i64 h) ∧ W.cell? ⟨w.heap.size, 9, none⟩ = some (.int .i64 d) := kW.cells
    go_region_held3 (fun w' => w'.cell? ⟨w.heap.size, 0, none⟩ = some (.int .i64 1) ∧ w'.cell? ⟨w.heap.size, 1, none⟩ = some (.int .i64 f) ∧ w'.cell? ⟨w.heap.size, 2, none⟩ = some (.int .u64 r) ∧ w'.cell? ⟨w.heap.size, 3, none⟩ = some (.int .u64 c) ∧ w'.cell? ⟨w.heap.size, 4, none⟩ = some (.int .u64 b) ∧ w'.cell? ⟨w.heap.size, 5, none⟩ = some (.int .u64 p) ∧ w'.cell? ⟨w.heap.size, 6, none⟩ = some (.int .i64 a) ∧ w'.cell? ⟨w.heap.size, 7, none⟩ = some (.int .i64 m) ∧ w'.cell? ⟨w.heap.size, 8, none⟩ = some (.int .i64 h) ∧ w'.cell? ⟨w.heap.size, 9, none⟩ = some (.int .i64 d)) (first | exact S0 | exact T0 | exact T1 | exact T2 | exact T3 | exact T4) (first | (go_at_call 22; (with_reducible refine (Cf.out _).mono ?_); rintro e y0 ⟨rfl, hb0⟩; have D0 := ((Below.refl W.heap.size W).drew).trans hb0; have T0 : y0.cell? ⟨w.heap.size, 0, none⟩ = some (.int .i64 1) ∧ y0.cell? ⟨w.heap.size, 1, none⟩ = some (.int .i64 f) ∧ y0.cell? ⟨w.heap.size, 2, none⟩ = some (.int .u64 r) ∧ y0.cell? ⟨w.heap.size, 3, none⟩ = some (.int .u64 c) ∧ y0.cell? ⟨w.heap.size, 4, none⟩ = some (.int .u64 b) ∧ y0.cell? ⟨w.heap.size, 5, none⟩ = some (.int .u64 p) ∧ y0.cell? ⟨w.heap.size, 6, none⟩ = some (.int .i64 a) ∧ y0.cell? ⟨w.heap.size, 7, none⟩ = some (.int .i64 m) ∧ y0.cell? ⟨w.heap.size, 8, none⟩ = some (.int .i64 h) ∧ y0.cell? ⟨w.heap.size, 9, none⟩ = some (.int .i64 d) := (kW.below D0 lk).cells) | (go_at_call 22; (with_reducible refine (Cr.out _).mono ?_); rintro e y1 ⟨rfl, hb1⟩; have D1 := bw_trans D0 hb1; have T1 : y1.cell? ⟨w.heap.size, 0, none⟩ = some (.int .i64 1) ∧ y1.cell? ⟨w.heap.size, 1, none⟩ = some (.int .i64 f) ∧ y1.cell? ⟨w.heap.size, 2, none⟩ = some (.int .u64 r) ∧ y1.cell? ⟨w.heap.size, 3, none⟩ = some (.int .u64 c) ∧ y1.cell? ⟨w.heap.size, 4, none⟩ = some (.int .u64 b) ∧ y1.cell? ⟨w.heap.size, 5, none⟩ = some (.int .u64 p) ∧ y1.cell? ⟨w.heap.size, 6, none⟩ = some (.int .i64 a) ∧ y1.cell? ⟨w.heap.size, 7, none⟩ = some (.int .i64 m) ∧ y1.cell? ⟨w.heap.size, 8, none⟩ = some (.int .i64 h) ∧ y1.cell? ⟨w.heap.size, 9, none⟩ = some (.int .i64 d) := (kW.below D1 lk).cells) | (go_at_call 22; (with_reducible refine (Cc.out _).mono ?_); rintro e y2 ⟨rfl, hb2⟩; have D2 := bw_trans D1 hb2; have T2 : y2.cell? ⟨w.heap.size, 0, none⟩ = some (.int .i64 1) ∧ y2.cell? ⟨w.heap.size, 1, none⟩ = some (.int .i64 f) ∧ y2.cell? ⟨w.heap.size, 2, none⟩ = some (.int .u64 r) ∧ y2.cell? ⟨w.heap.size, 3, none⟩ = some (.int .u64 c) ∧ y2.cell? ⟨w.heap.size, 4, none⟩ = some (.int .u64 b) ∧ y2.cell? ⟨w.heap.size, 5, none⟩ = some (.int .u64 p) ∧ y2.cell? ⟨w.heap.size, 6, none⟩ = some (.int .i64 a) ∧ y2.cell? ⟨w.heap.size, 7, none⟩ = some (.int .i64 m) ∧ y2.cell? ⟨w.heap.size, 8, none⟩ = some (.int .i64 h) ∧ y2.cell? ⟨w.heap.size, 9, none⟩ = some (.int .i64 d) := (kW.below D2 lk).cells) | (go_at_call 22; (with_reducible refine (Cb.out _).mono ?_); rintro e y3 ⟨rfl, hb3⟩; have D3 := bw_trans D2 hb3; have T3 : y3.cell? ⟨w.heap.size, 0, none⟩ = some (.int .i64 1) ∧ y3.cell? ⟨w.heap.size, 1, none⟩ = some (.int .i64 f) ∧ y3.cell? ⟨w.heap.size, 2, none⟩ = some (.int .u64 r) ∧ y3.cell? ⟨w.heap.size, 3, none⟩ = some (.int .u64 c) ∧ y3.cell? ⟨w.heap.size, 4, none⟩ = some (.int .u64 b) ∧ y3.cell? ⟨w.heap.size, 5, none⟩ = some (.int .u64 p) ∧ y3.cell? ⟨w.heap.size, 6, none⟩ = some (.int .i64 a) ∧ y3.cell? ⟨w.heap.size, 7, none⟩ = some (.int .i64 m) ∧ y3.cell? ⟨w.heap.size, 8, none⟩ = some (.int .i64 h) ∧ y3.cell? ⟨w.heap.size, 9, none⟩ = some (.int .i64 d) := (kW.below D3 lk).cells) | (go_at_call 22; (with_reducible refine (Cp.out _).mono ?_); rintro e y4 ⟨rfl, hb4⟩; have D4 := bw_trans D3 hb4; have T4 : y4.cell? ⟨w.heap.size, 0, none⟩ = some (.int .i64 1) ∧ y4.cell? ⟨w.heap.size, 1, none⟩ = some (.int .i64 f) ∧ y4.cell? ⟨w.heap.size, 2, none⟩ = some (.int .u64 r) ∧ y4.cell? ⟨w.heap.size, 3, none⟩ = some (.int .u64 c) ∧ y4.cell? ⟨w.heap.size, 4, none⟩ = some (.int .u64 b) ∧ y4.cell? ⟨w.heap.size, 5, none⟩ = some (.int .u64 p) ∧ y4.cell? ⟨w.heap.size, 6, none⟩ = some (.int .i64 a) ∧ y4.cell? ⟨w.heap.size, 7, none⟩ = some (.int .i64 m) ∧ y4.cell? ⟨w.heap.size, 8, none⟩ = some (.int .i64 h) ∧ y4.cell? ⟨w.heap.size, 9, none⟩ = some (.int .i64 d) := (kW.below D4 lk).cells))
    all_goals go_wp2_with fail
    all_goals go_meet
    all_goals exact ⟨rfl, kW.below D4 lk, bw_trans BW D4⟩
  case rest =>
  obtain ⟨rfl, kV, BV⟩ := hcut
  obtain ⟨M, hM⟩ : ∃ M : ByteArray, (((((HD ++ Sf) ++ Sr) ++ Sc) ++ Sb) ++ Sp) = M := ⟨_, rfl⟩
  have zM : M.size = 27 := by rw [← hM]; simp only [ByteArray.size_append]; omega
  rw [hM]
  have HM := Lib.hid hM; clear hM
  go_upto_region 9 with (fail)
  go_cut [4] (fun q wx => q = .string ((((M ++ Sa) ++ Sm) ++ Sh) ++ Sd) ∧ Blk 33 wx w.heap.size ⟨1, f, r, c, b, p, a, m, h, d⟩ ∧ Below w.heap.size w wx)
  case first =>
    have lk := kV.lt
    have S0 : wc.cell? ⟨w.heap.size, 0, none⟩ = some (.int .i64 1) ∧ wc.cell? ⟨w.heap.size, 1, none⟩ = some (.int .i64 f) ∧ wc.cell? ⟨w.heap.size, 2, none⟩ = some (.int .u64 r) ∧ wc.cell? ⟨w.heap.size, 3, none⟩ = some (.int .u64 c) ∧ wc.cell? ⟨w.heap.size, 4, none⟩ = some (.int .u64 b) ∧ wc.cell? ⟨w.heap.size, 5, none⟩ = some (.int .u64 p) ∧ wc.cell? ⟨w.heap.size, 6, none⟩ = some (.int .i64 a) ∧ wc.cell? ⟨w.heap.size, 7, none⟩ = some (.int .i64 m) ∧ wc.cell? ⟨w.heap.size, 8, none⟩ = some (.int .i64 h) ∧ wc.cell? ⟨w.heap.size, 9, none⟩ = some (.int .i64 d) := kV.cells
    go_region_held3 (fun w' => w'.cell? ⟨w.heap.size, 0, none⟩ = some (.int .i64 1) ∧ w'.cell? ⟨w.heap.size, 1, none⟩ = some (.int .i64 f) ∧ w'.cell? ⟨w.heap.size, 2, none⟩ = some (.int .u64 r) ∧ w'.cell? ⟨w.heap.size, 3, none⟩ = some (.int .u64 c) ∧ w'.cell? ⟨w.heap.size, 4, none⟩ = some (.int .u64 b) ∧ w'.cell? ⟨w.heap.size, 5, none⟩ = some (.int .u64 p) ∧ w'.cell? ⟨w.heap.size, 6, none⟩ = some (.int .i64 a) ∧ w'.cell? ⟨w.heap.size, 7, none⟩ = some (.int .i64 m) ∧ w'.cell? ⟨w.heap.size, 8, none⟩ = some (.int .i64 h) ∧ w'.cell? ⟨w.heap.size, 9, none⟩ = some (.int .i64 d)) (first | exact S0 | exact T0 | exact T1 | exact T2 | exact T3) (first | (go_at_call 22; (with_reducible refine (Ca.out _).mono ?_); rintro e y0 ⟨rfl, hb0⟩; have D0 := ((Below.refl wc.heap.size wc).drew).trans hb0; have T0 : y0.cell? ⟨w.heap.size, 0, none⟩ = some (.int .i64 1) ∧ y0.cell? ⟨w.heap.size, 1, none⟩ = some (.int .i64 f) ∧ y0.cell? ⟨w.heap.size, 2, none⟩ = some (.int .u64 r) ∧ y0.cell? ⟨w.heap.size, 3, none⟩ = some (.int .u64 c) ∧ y0.cell? ⟨w.heap.size, 4, none⟩ = some (.int .u64 b) ∧ y0.cell? ⟨w.heap.size, 5, none⟩ = some (.int .u64 p) ∧ y0.cell? ⟨w.heap.size, 6, none⟩ = some (.int .i64 a) ∧ y0.cell? ⟨w.heap.size, 7, none⟩ = some (.int .i64 m) ∧ y0.cell? ⟨w.heap.size, 8, none⟩ = some (.int .i64 h) ∧ y0.cell? ⟨w.heap.size, 9, none⟩ = some (.int .i64 d) := (kV.below D0 lk).cells) | (go_at_call 22; (with_reducible refine (Cm.out _).mono ?_); rintro e y1 ⟨rfl, hb1⟩; have D1 := bw_trans D0 hb1; have T1 : y1.cell? ⟨w.heap.size, 0, none⟩ = some (.int .i64 1) ∧ y1.cell? ⟨w.heap.size, 1, none⟩ = some (.int .i64 f) ∧ y1.cell? ⟨w.heap.size, 2, none⟩ = some (.int .u64 r) ∧ y1.cell? ⟨w.heap.size, 3, none⟩ = some (.int .u64 c) ∧ y1.cell? ⟨w.heap.size, 4, none⟩ = some (.int .u64 b) ∧ y1.cell? ⟨w.heap.size, 5, none⟩ = some (.int .u64 p) ∧ y1.cell? ⟨w.heap.size, 6, none⟩ = some (.int .i64 a) ∧ y1.cell? ⟨w.heap.size, 7, none⟩ = some (.int .i64 m) ∧ y1.cell? ⟨w.heap.size, 8, none⟩ = some (.int .i64 h) ∧ y1.cell? ⟨w.heap.size, 9, none⟩ = some (.int .i64 d) := (kV.below D1 lk).cells) | (go_at_call 22; (with_reducible refine (Ch.out _).mono ?_); rintro e y2 ⟨rfl, hb2⟩; have D2 := bw_trans D1 hb2; have T2 : y2.cell? ⟨w.heap.size, 0, none⟩ = some (.int .i64 1) ∧ y2.cell? ⟨w.heap.size, 1, none⟩ = some (.int .i64 f) ∧ y2.cell? ⟨w.heap.size, 2, none⟩ = some (.int .u64 r) ∧ y2.cell? ⟨w.heap.size, 3, none⟩ = some (.int .u64 c) ∧ y2.cell? ⟨w.heap.size, 4, none⟩ = some (.int .u64 b) ∧ y2.cell? ⟨w.heap.size, 5, none⟩ = some (.int .u64 p) ∧ y2.cell? ⟨w.heap.size, 6, none⟩ = some (.int .i64 a) ∧ y2.cell? ⟨w.heap.size, 7, none⟩ = some (.int .i64 m) ∧ y2.cell? ⟨w.heap.size, 8, none⟩ = some (.int .i64 h) ∧ y2.cell? ⟨w.heap.size, 9, none⟩ = some (.int .i64 d) := (kV.below D2 lk).cells) | (go_at_call 22; (with_reducible refine (Cd.out _).mono ?_); rintro e y3 ⟨rfl, hb3⟩; have D3 := bw_trans D2 hb3; have T3 : y3.cell? ⟨w.heap.size, 0, none⟩ = some (.int .i64 1) ∧ y3.cell? ⟨w.heap.size, 1, none⟩ = some (.int .i64 f) ∧ y3.cell? ⟨w.heap.size, 2, none⟩ = some (.int .u64 r) ∧ y3.cell? ⟨w.heap.size, 3, none⟩ = some (.int .u64 c) ∧ y3.cell? ⟨w.heap.size, 4, none⟩ = some (.int .u64 b) ∧ y3.cell? ⟨w.heap.size, 5, none⟩ = some (.int .u64 p) ∧ y3.cell? ⟨w.heap.size, 6, none⟩ = some (.int .i64 a) ∧ y3.cell? ⟨w.heap.size, 7, none⟩ = some (.int .i64 m) ∧ y3.cell? ⟨w.heap.size, 8, none⟩ = some (.int .i64 h) ∧ y3.cell? ⟨w.heap.size, 9, none⟩ = some (.int .i64 d) := (kV.below D3 lk).cells))
    all_goals go_wp2_with fail
    all_goals go_meet
    all_goals exact ⟨rfl, kV.below D3 lk, bw_trans BV D3⟩
  case rest =>
  obtain ⟨rfl, kU, BU⟩ := hcut
  obtain ⟨L, hL⟩ : ∃ L : ByteArray, ((((M ++ Sa) ++ Sm) ++ Sh) ++ Sd) = L := ⟨_, rfl⟩
  have zL : L.size = 35 := by rw [← hL]; simp only [ByteArray.size_append]; omega
  rw [hL]
  have HL := Lib.hid hL; clear hL
  have y := kU.cells
  obtain ⟨c0, c1, c2, c3, c4, c5, c6, c7, c8, c9⟩ := y
  go_wp2
  go_ret2
  refine ⟨?_, BU⟩
  have e : bytesOf ⟨1, f, r, c, b, p, a, m, h, d⟩ = L := by
    rw [← HL.out, ← HM.out, ← HH.out, ← Hf.out, ← Hr.out, ← Hc.out, ← Hb.out, ← Hp.out, ← Ha.out, ← Hm.out, ← Hh.out, ← Hd.out]
    simp [bytesOf, headOf, tailOf, numsOf, app_assoc, app_nil]
  rw [e]
  rfl

set_option maxHeartbeats 8000000 in
theorem rprint_3 (f r c b p a m h d : Int) (w : World) (hr : numsB ⟨3, f, r, c, b, p, a, m, h, d⟩ = true) (hok : Bp.ok ⟨3, f, r, c, b, p, a, m, h, d⟩) :
    Calls Tryd.prog 12 #[bv 3 f r c b p a m h d] w fun e w' => e = .returned (.tuple #[.string (bytesOf ⟨3, f, r, c, b, p, a, m, h, d⟩), .int .i64 0]) ∧ Below w.heap.size w w' := by
  have HR := Lib.hid (show rightB ⟨3, f, r, c, b, p, a, m, h, d⟩ = true by simp [rightB, hr])
  simp only [numsB, withinB, Bool.and_eq_true, decide_eq_true_eq] at hr
  obtain ⟨⟨lf, uf⟩, uc, up, ⟨la, ua⟩, ⟨lm, um⟩, ⟨lh, uh⟩, ld, ud⟩ := hr
  obtain ⟨u1, u2, u3, u4⟩ := hok
  simp only at u1 u2 u3 u4
  have U1 := Lib.hid u1
  have U2 := Lib.hid u2
  have U3 := Lib.hid u3
  have U4 := Lib.hid u4
  clear u1 u2 u3 u4
  obtain ⟨Sf, hSf⟩ : ∃ S, be f.toNat 1 = S := ⟨_, rfl⟩
  have zf : Sf.size = 1 := by rw [← hSf]; exact be_size _ _
  have Hf := Lib.hid hSf; clear hSf
  obtain ⟨Sr, hSr⟩ : ∃ S, be r.toNat 8 = S := ⟨_, rfl⟩
  have zr : Sr.size = 8 := by rw [← hSr]; exact be_size _ _
  have Hr := Lib.hid hSr; clear hSr
  obtain ⟨Sc, hSc⟩ : ∃ S, be c.toNat 4 = S := ⟨_, rfl⟩
  have zc : Sc.size = 4 := by rw [← hSc]; exact be_size _ _
  have Hc := Lib.hid hSc; clear hSc
  obtain ⟨Sb, hSb⟩ : ∃ S, be b.toNat 8 = S := ⟨_, rfl⟩
  have zb : Sb.size = 8 := by rw [← hSb]; exact be_size _ _
  have Hb := Lib.hid hSb; clear hSb
  obtain ⟨Sp, hSp⟩ : ∃ S, be p.toNat 2 = S := ⟨_, rfl⟩
  have zp : Sp.size = 2 := by rw [← hSp]; exact be_size _ _
  have Hp := Lib.hid hSp; clear hSp
  obtain ⟨Sa, hSa⟩ : ∃ S, be a.toNat 2 = S := ⟨_, rfl⟩
  have za : Sa.size = 2 := by rw [← hSa]; exact be_size _ _
  have Ha := Lib.hid hSa; clear hSa
  obtain ⟨Sm, hSm⟩ : ∃ S, be m.toNat 2 = S := ⟨_, rfl⟩
  have zm : Sm.size = 2 := by rw [← hSm]; exact be_size _ _
  have Hm := Lib.hid hSm; clear hSm
  obtain ⟨Sh, hSh⟩ : ∃ S, be h.toNat 2 = S := ⟨_, rfl⟩
  have zh : Sh.size = 2 := by rw [← hSh]; exact be_size _ _
  have Hh := Lib.hid hSh; clear hSh
  obtain ⟨Sd, hSd⟩ : ∃ S, be d.toNat 2 = S := ⟨_, rfl⟩
  have zd : Sd.size = 2 := by rw [← hSd]; exact be_size _ _
  have Hd := Lib.hid hSd; clear hSd
  have Wf : Hid (Hid (be (IntKind.u64.wrap f).toNat 1 = Sf) ∧ u64B (IntKind.u64.wrap f)) := wrap_bytes f 1 Sf lf (by omega) Hf
  have Wa : Hid (Hid (be (IntKind.u64.wrap a).toNat 2 = Sa) ∧ u64B (IntKind.u64.wrap a)) := wrap_bytes a 2 Sa la (by omega) Ha
  have Wm : Hid (Hid (be (IntKind.u64.wrap m).toNat 2 = Sm) ∧ u64B (IntKind.u64.wrap m)) := wrap_bytes m 2 Sm lm (by omega) Hm
  have Wh : Hid (Hid (be (IntKind.u64.wrap h).toNat 2 = Sh) ∧ u64B (IntKind.u64.wrap h)) := wrap_bytes h 2 Sh lh (by omega) Hh
  have Wd : Hid (Hid (be (IntKind.u64.wrap d).toNat 2 = Sd) ∧ u64B (IntKind.u64.wrap d)) := wrap_bytes d 2 Sd ld (by omega) Hd
  have Cf : Hid (∀ w' : World, Calls Tryd.prog 22 #[.int .u64 (IntKind.u64.wrap f), .int .i64 1] w' fun e w'' => e = .returned (.string Sf) ∧ Below w'.heap.size w' w'') := fun w' => rbytes_v (IntKind.u64.wrap f) 1 1 rfl w' Sf Wf.out.1 Wf.out.2 (by omega)
  have Cr : Hid (∀ w' : World, Calls Tryd.prog 22 #[.int .u64 r, .int .i64 8] w' fun e w'' => e = .returned (.string Sr) ∧ Below w'.heap.size w' w'') := fun w' => rbytes_v r 8 8 rfl w' Sr Hr U1.out (by omega)
  have Cc : Hid (∀ w' : World, Calls Tryd.prog 22 #[.int .u64 c, .int .i64 4] w' fun e w'' => e = .returned (.string Sc) ∧ Below w'.heap.size w' w'') := fun w' => rbytes_v c 4 4 rfl w' Sc Hc U2.out (by omega)
  have Cb : Hid (∀ w' : World, Calls Tryd.prog 22 #[.int .u64 b, .int .i64 8] w' fun e w'' => e = .returned (.string Sb) ∧ Below w'.heap.size w' w'') := fun w' => rbytes_v b 8 8 rfl w' Sb Hb U3.out (by omega)
  have Cp : Hid (∀ w' : World, Calls Tryd.prog 22 #[.int .u64 p, .int .i64 2] w' fun e w'' => e = .returned (.string Sp) ∧ Below w'.heap.size w' w'') := fun w' => rbytes_v p 2 2 rfl w' Sp Hp U4.out (by omega)
  have Ca : Hid (∀ w' : World, Calls Tryd.prog 22 #[.int .u64 (IntKind.u64.wrap a), .int .i64 2] w' fun e w'' => e = .returned (.string Sa) ∧ Below w'.heap.size w' w'') := fun w' => rbytes_v (IntKind.u64.wrap a) 2 2 rfl w' Sa Wa.out.1 Wa.out.2 (by omega)
  have Cm : Hid (∀ w' : World, Calls Tryd.prog 22 #[.int .u64 (IntKind.u64.wrap m), .int .i64 2] w' fun e w'' => e = .returned (.string Sm) ∧ Below w'.heap.size w' w'') := fun w' => rbytes_v (IntKind.u64.wrap m) 2 2 rfl w' Sm Wm.out.1 Wm.out.2 (by omega)
  have Ch : Hid (∀ w' : World, Calls Tryd.prog 22 #[.int .u64 (IntKind.u64.wrap h), .int .i64 2] w' fun e w'' => e = .returned (.string Sh) ∧ Below w'.heap.size w' w'') := fun w' => rbytes_v (IntKind.u64.wrap h) 2 2 rfl w' Sh Wh.out.1 Wh.out.2 (by omega)
  have Cd : Hid (∀ w' : World, Calls Tryd.prog 22 #[.int .u64 (IntKind.u64.wrap d), .int .i64 2] w' fun e w'' => e = .returned (.string Sd) ∧ Below w'.heap.size w' w'') := fun w' => rbytes_v (IntKind.u64.wrap d) 2 2 rfl w' Sd Wd.out.1 Wd.out.2 (by omega)
  clear Wf Wa Wm Wh Wd
  go_enter Tryd.func12, Tryd.ntmps12
  go_wp2_with fail
  refine (rright_w _ _ _ _ _ _ _ _ _ _ _ true HR).mono ?_
  rintro e w1 ⟨rfl, hb1⟩
  have k1 := (blk_new 33 w 3 f r c b p a m h d).next hb1
  have B1 := bw_trans (below_box w _) hb1
  clear hb1
  have y := k1.cells
  obtain ⟨c0, c1, c2, c3, c4, c5, c6, c7, c8, c9⟩ := y
  have l1 := k1.lt
  have hc1 := convAt #[.int .u8 0, .int .u8 0, .int .u8 0, .int .u8 0] ⟨#[0, 0, 0, 0]⟩ w1 w1.heap.size 4 rfl rfl rfl (by decide) rfl
  have hc2 := convAt #[.int .u8 0, .int .u8 0, .int .u8 2, .int .u8 2] ⟨#[0, 0, 2, 2]⟩ (w1.alloc (.cells #[.int .u8 0, .int .u8 0, .int .u8 0, .int .u8 0] 5)) (w1.heap.size + 1) 4 (by simp) rfl rfl (by decide) rfl
  go_upto_region 8 with (fail)
  obtain ⟨W, hW⟩ : ∃ W, W = ((w1.alloc (.cells #[.int .u8 0, .int .u8 0, .int .u8 0, .int .u8 0] 5)).alloc (.cells #[.int .u8 0, .int .u8 0, .int .u8 2, .int .u8 2] 5)) := ⟨_, rfl⟩
  have kW : Blk 33 W w.heap.size ⟨3, f, r, c, b, p, a, m, h, d⟩ := by rw [hW]; exact ((k1.next (below_box w1 _)).next (below_box _ _))
  have BW : Below w.heap.size w W := by rw [hW]; exact bw_alloc (bw_alloc B1 _) _
  rw [← hW]
  clear hW hc1 hc2 k1 B1 l1 c0 c1 c2 c3 c4 c5 c6 c7 c8 c9
  obtain ⟨HD, hHD⟩ : ∃ HD : ByteArray, ⟨#[0, 0, 2, 2]⟩ = HD := ⟨_, rfl⟩
  have zHD : HD.size = 4 := by rw [← hHD]; rfl
  rw [hHD]
  have HH := Lib.hid hHD; clear hHD
  go_cut [4] (fun q wx => q = .string (((((HD ++ Sf) ++ Sr) ++ Sc) ++ Sb) ++ Sp) ∧ Blk 33 wx w.heap.size ⟨3, f, r, c, b, p, a, m, h, d⟩ ∧ Below w.heap.size w wx)
  case first =>
    have lk := kW.lt
    have S0 : W.cell? ⟨w.heap.size, 0, none⟩ = some (.int .i64 3) ∧ W.cell? ⟨w.heap.size, 1, none⟩ = some (.int .i64 f) ∧ W.cell? ⟨w.heap.size, 2, none⟩ = some (.int .u64 r) ∧ W.cell? ⟨w.heap.size, 3, none⟩ = some (.int .u64 c) ∧ W.cell? ⟨w.heap.size, 4, none⟩ = some (.int .u64 b) ∧ W.cell? ⟨w.heap.size, 5, none⟩ = some (.int .u64 p) ∧ W.cell? ⟨w.heap.size, 6, none⟩ = some (.int .i64 a) ∧ W.cell? ⟨w.heap.size, 7, none⟩ = some (.int .i64 m) ∧ W.cell? ⟨w.heap.size, 8, none⟩ = some (.int .i64 h) ∧ W.cell? ⟨w.heap.size, 9, none⟩ = some (.int .i64 d) := kW.cells
    go_region_held3 (fun w' => w'.cell? ⟨w.heap.size, 0, none⟩ = some (.int .i64 3) ∧ w'.cell? ⟨w.heap.size, 1, none⟩ = some (.int .i64 f) ∧ w'.cell? ⟨w.heap.size, 2, none⟩ = some (.int .u64 r) ∧ w'.cell? ⟨w.heap.size, 3, none⟩ = some (.int .u64 c) ∧ w'.cell? ⟨w.heap.size, 4, none⟩ = some (.int .u64 b) ∧ w'.cell? ⟨w.heap.size, 5, none⟩ = some (.int .u64 p) ∧ w'.cell? ⟨w.heap.size, 6, none⟩ = some (.int .i64 a) ∧ w'.cell? ⟨w.heap.size, 7, none⟩ = some (.int .i64 m) ∧ w'.cell? ⟨w.heap.size, 8, none⟩ = some (.int .i64 h) ∧ w'.cell? ⟨w.heap.size, 9, none⟩ = some (.int .i64 d)) (first | exact S0 | exact T0 | exact T1 | exact T2 | exact T3 | exact T4) (first | (go_at_call 22; (with_reducible refine (Cf.out _).mono ?_); rintro e y0 ⟨rfl, hb0⟩; have D0 := ((Below.refl W.heap.size W).drew).trans hb0; have T0 : y0.cell? ⟨w.heap.size, 0, none⟩ = some (.int .i64 3) ∧ y0.cell? ⟨w.heap.size, 1, none⟩ = some (.int .i64 f) ∧ y0.cell? ⟨w.heap.size, 2, none⟩ = some (.int .u64 r) ∧ y0.cell? ⟨w.heap.size, 3, none⟩ = some (.int .u64 c) ∧ y0.cell? ⟨w.heap.size, 4, none⟩ = some (.int .u64 b) ∧ y0.cell? ⟨w.heap.size, 5, none⟩ = some (.int .u64 p) ∧ y0.cell? ⟨w.heap.size, 6, none⟩ = some (.int .i64 a) ∧ y0.cell? ⟨w.heap.size, 7, none⟩ = some (.int .i64 m) ∧ y0.cell? ⟨w.heap.size, 8, none⟩ = some (.int .i64 h) ∧ y0.cell? ⟨w.heap.size, 9, none⟩ = some (.int .i64 d) := (kW.below D0 lk).cells) | (go_at_call 22; (with_reducible refine (Cr.out _).mono ?_); rintro e y1 ⟨rfl, hb1⟩; have D1 := bw_trans D0 hb1; have T1 : y1.cell? ⟨w.heap.size, 0, none⟩ = some (.int .i64 3) ∧ y1.cell? ⟨w.heap.size, 1, none⟩ = some (.int .i64 f) ∧ y1.cell? ⟨w.heap.size, 2, none⟩ = some (.int .u64 r) ∧ y1.cell? ⟨w.heap.size, 3, none⟩ = some (.int .u64 c) ∧ y1.cell? ⟨w.heap.size, 4, none⟩ = some (.int .u64 b) ∧ y1.cell? ⟨w.heap.size, 5, none⟩ = some (.int .u64 p) ∧ y1.cell? ⟨w.heap.size, 6, none⟩ = some (.int .i64 a) ∧ y1.cell? ⟨w.heap.size, 7, none⟩ = some (.int .i64 m) ∧ y1.cell? ⟨w.heap.size, 8, none⟩ = some (.int .i64 h) ∧ y1.cell? ⟨w.heap.size, 9, none⟩ = some (.int .i64 d) := (kW.below D1 lk).cells) | (go_at_call 22; (with_reducible refine (Cc.out _).mono ?_); rintro e y2 ⟨rfl, hb2⟩; have D2 := bw_trans D1 hb2; have T2 : y2.cell? ⟨w.heap.size, 0, none⟩ = some (.int .i64 3) ∧ y2.cell? ⟨w.heap.size, 1, none⟩ = some (.int .i64 f) ∧ y2.cell? ⟨w.heap.size, 2, none⟩ = some (.int .u64 r) ∧ y2.cell? ⟨w.heap.size, 3, none⟩ = some (.int .u64 c) ∧ y2.cell? ⟨w.heap.size, 4, none⟩ = some (.int .u64 b) ∧ y2.cell? ⟨w.heap.size, 5, none⟩ = some (.int .u64 p) ∧ y2.cell? ⟨w.heap.size, 6, none⟩ = some (.int .i64 a) ∧ y2.cell? ⟨w.heap.size, 7, none⟩ = some (.int .i64 m) ∧ y2.cell? ⟨w.heap.size, 8, none⟩ = some (.int .i64 h) ∧ y2.cell? ⟨w.heap.size, 9, none⟩ = some (.int .i64 d) := (kW.below D2 lk).cells) | (go_at_call 22; (with_reducible refine (Cb.out _).mono ?_); rintro e y3 ⟨rfl, hb3⟩; have D3 := bw_trans D2 hb3; have T3 : y3.cell? ⟨w.heap.size, 0, none⟩ = some (.int .i64 3) ∧ y3.cell? ⟨w.heap.size, 1, none⟩ = some (.int .i64 f) ∧ y3.cell? ⟨w.heap.size, 2, none⟩ = some (.int .u64 r) ∧ y3.cell? ⟨w.heap.size, 3, none⟩ = some (.int .u64 c) ∧ y3.cell? ⟨w.heap.size, 4, none⟩ = some (.int .u64 b) ∧ y3.cell? ⟨w.heap.size, 5, none⟩ = some (.int .u64 p) ∧ y3.cell? ⟨w.heap.size, 6, none⟩ = some (.int .i64 a) ∧ y3.cell? ⟨w.heap.size, 7, none⟩ = some (.int .i64 m) ∧ y3.cell? ⟨w.heap.size, 8, none⟩ = some (.int .i64 h) ∧ y3.cell? ⟨w.heap.size, 9, none⟩ = some (.int .i64 d) := (kW.below D3 lk).cells) | (go_at_call 22; (with_reducible refine (Cp.out _).mono ?_); rintro e y4 ⟨rfl, hb4⟩; have D4 := bw_trans D3 hb4; have T4 : y4.cell? ⟨w.heap.size, 0, none⟩ = some (.int .i64 3) ∧ y4.cell? ⟨w.heap.size, 1, none⟩ = some (.int .i64 f) ∧ y4.cell? ⟨w.heap.size, 2, none⟩ = some (.int .u64 r) ∧ y4.cell? ⟨w.heap.size, 3, none⟩ = some (.int .u64 c) ∧ y4.cell? ⟨w.heap.size, 4, none⟩ = some (.int .u64 b) ∧ y4.cell? ⟨w.heap.size, 5, none⟩ = some (.int .u64 p) ∧ y4.cell? ⟨w.heap.size, 6, none⟩ = some (.int .i64 a) ∧ y4.cell? ⟨w.heap.size, 7, none⟩ = some (.int .i64 m) ∧ y4.cell? ⟨w.heap.size, 8, none⟩ = some (.int .i64 h) ∧ y4.cell? ⟨w.heap.size, 9, none⟩ = some (.int .i64 d) := (kW.below D4 lk).cells))
    all_goals go_wp2_with fail
    all_goals go_meet
    all_goals exact ⟨rfl, kW.below D4 lk, bw_trans BW D4⟩
  case rest =>
  obtain ⟨rfl, kV, BV⟩ := hcut
  obtain ⟨M, hM⟩ : ∃ M : ByteArray, (((((HD ++ Sf) ++ Sr) ++ Sc) ++ Sb) ++ Sp) = M := ⟨_, rfl⟩
  have zM : M.size = 27 := by rw [← hM]; simp only [ByteArray.size_append]; omega
  rw [hM]
  have HM := Lib.hid hM; clear hM
  go_upto_region 9 with (fail)
  go_cut [4] (fun q wx => q = .string ((((M ++ Sa) ++ Sm) ++ Sh) ++ Sd) ∧ Blk 33 wx w.heap.size ⟨3, f, r, c, b, p, a, m, h, d⟩ ∧ Below w.heap.size w wx)
  case first =>
    have lk := kV.lt
    have S0 : wc.cell? ⟨w.heap.size, 0, none⟩ = some (.int .i64 3) ∧ wc.cell? ⟨w.heap.size, 1, none⟩ = some (.int .i64 f) ∧ wc.cell? ⟨w.heap.size, 2, none⟩ = some (.int .u64 r) ∧ wc.cell? ⟨w.heap.size, 3, none⟩ = some (.int .u64 c) ∧ wc.cell? ⟨w.heap.size, 4, none⟩ = some (.int .u64 b) ∧ wc.cell? ⟨w.heap.size, 5, none⟩ = some (.int .u64 p) ∧ wc.cell? ⟨w.heap.size, 6, none⟩ = some (.int .i64 a) ∧ wc.cell? ⟨w.heap.size, 7, none⟩ = some (.int .i64 m) ∧ wc.cell? ⟨w.heap.size, 8, none⟩ = some (.int .i64 h) ∧ wc.cell? ⟨w.heap.size, 9, none⟩ = some (.int .i64 d) := kV.cells
    go_region_held3 (fun w' => w'.cell? ⟨w.heap.size, 0, none⟩ = some (.int .i64 3) ∧ w'.cell? ⟨w.heap.size, 1, none⟩ = some (.int .i64 f) ∧ w'.cell? ⟨w.heap.size, 2, none⟩ = some (.int .u64 r) ∧ w'.cell? ⟨w.heap.size, 3, none⟩ = some (.int .u64 c) ∧ w'.cell? ⟨w.heap.size, 4, none⟩ = some (.int .u64 b) ∧ w'.cell? ⟨w.heap.size, 5, none⟩ = some (.int .u64 p) ∧ w'.cell? ⟨w.heap.size, 6, none⟩ = some (.int .i64 a) ∧ w'.cell? ⟨w.heap.size, 7, none⟩ = some (.int .i64 m) ∧ w'.cell? ⟨w.heap.size, 8, none⟩ = some (.int .i64 h) ∧ w'.cell? ⟨w.heap.size, 9, none⟩ = some (.int .i64 d)) (first | exact S0 | exact T0 | exact T1 | exact T2 | exact T3) (first | (go_at_call 22; (with_reducible refine (Ca.out _).mono ?_); rintro e y0 ⟨rfl, hb0⟩; have D0 := ((Below.refl wc.heap.size wc).drew).trans hb0; have T0 : y0.cell? ⟨w.heap.size, 0, none⟩ = some (.int .i64 3) ∧ y0.cell? ⟨w.heap.size, 1, none⟩ = some (.int .i64 f) ∧ y0.cell? ⟨w.heap.size, 2, none⟩ = some (.int .u64 r) ∧ y0.cell? ⟨w.heap.size, 3, none⟩ = some (.int .u64 c) ∧ y0.cell? ⟨w.heap.size, 4, none⟩ = some (.int .u64 b) ∧ y0.cell? ⟨w.heap.size, 5, none⟩ = some (.int .u64 p) ∧ y0.cell? ⟨w.heap.size, 6, none⟩ = some (.int .i64 a) ∧ y0.cell? ⟨w.heap.size, 7, none⟩ = some (.int .i64 m) ∧ y0.cell? ⟨w.heap.size, 8, none⟩ = some (.int .i64 h) ∧ y0.cell? ⟨w.heap.size, 9, none⟩ = some (.int .i64 d) := (kV.below D0 lk).cells) | (go_at_call 22; (with_reducible refine (Cm.out _).mono ?_); rintro e y1 ⟨rfl, hb1⟩; have D1 := bw_trans D0 hb1; have T1 : y1.cell? ⟨w.heap.size, 0, none⟩ = some (.int .i64 3) ∧ y1.cell? ⟨w.heap.size, 1, none⟩ = some (.int .i64 f) ∧ y1.cell? ⟨w.heap.size, 2, none⟩ = some (.int .u64 r) ∧ y1.cell? ⟨w.heap.size, 3, none⟩ = some (.int .u64 c) ∧ y1.cell? ⟨w.heap.size, 4, none⟩ = some (.int .u64 b) ∧ y1.cell? ⟨w.heap.size, 5, none⟩ = some (.int .u64 p) ∧ y1.cell? ⟨w.heap.size, 6, none⟩ = some (.int .i64 a) ∧ y1.cell? ⟨w.heap.size, 7, none⟩ = some (.int .i64 m) ∧ y1.cell? ⟨w.heap.size, 8, none⟩ = some (.int .i64 h) ∧ y1.cell? ⟨w.heap.size, 9, none⟩ = some (.int .i64 d) := (kV.below D1 lk).cells) | (go_at_call 22; (with_reducible refine (Ch.out _).mono ?_); rintro e y2 ⟨rfl, hb2⟩; have D2 := bw_trans D1 hb2; have T2 : y2.cell? ⟨w.heap.size, 0, none⟩ = some (.int .i64 3) ∧ y2.cell? ⟨w.heap.size, 1, none⟩ = some (.int .i64 f) ∧ y2.cell? ⟨w.heap.size, 2, none⟩ = some (.int .u64 r) ∧ y2.cell? ⟨w.heap.size, 3, none⟩ = some (.int .u64 c) ∧ y2.cell? ⟨w.heap.size, 4, none⟩ = some (.int .u64 b) ∧ y2.cell? ⟨w.heap.size, 5, none⟩ = some (.int .u64 p) ∧ y2.cell? ⟨w.heap.size, 6, none⟩ = some (.int .i64 a) ∧ y2.cell? ⟨w.heap.size, 7, none⟩ = some (.int .i64 m) ∧ y2.cell? ⟨w.heap.size, 8, none⟩ = some (.int .i64 h) ∧ y2.cell? ⟨w.heap.size, 9, none⟩ = some (.int .i64 d) := (kV.below D2 lk).cells) | (go_at_call 22; (with_reducible refine (Cd.out _).mono ?_); rintro e y3 ⟨rfl, hb3⟩; have D3 := bw_trans D2 hb3; have T3 : y3.cell? ⟨w.heap.size, 0, none⟩ = some (.int .i64 3) ∧ y3.cell? ⟨w.heap.size, 1, none⟩ = some (.int .i64 f) ∧ y3.cell? ⟨w.heap.size, 2, none⟩ = some (.int .u64 r) ∧ y3.cell? ⟨w.heap.size, 3, none⟩ = some (.int .u64 c) ∧ y3.cell? ⟨w.heap.size, 4, none⟩ = some (.int .u64 b) ∧ y3.cell? ⟨w.heap.size, 5, none⟩ = some (.int .u64 p) ∧ y3.cell? ⟨w.heap.size, 6, none⟩ = some (.int .i64 a) ∧ y3.cell? ⟨w.heap.size, 7, none⟩ = some (.int .i64 m) ∧ y3.cell? ⟨w.heap.size, 8, none⟩ = some (.int .i64 h) ∧ y3.cell? ⟨w.heap.size, 9, none⟩ = some (.int .i64 d) := (kV.below D3 lk).cells))
    all_goals go_wp2_with fail
    all_goals go_meet
    all_goals exact ⟨rfl, kV.below D3 lk, bw_trans BV D3⟩
  case rest =>
  obtain ⟨rfl, kU, BU⟩ := hcut
  obtain ⟨L, hL⟩ : ∃ L : ByteArray, ((((M ++ Sa) ++ Sm) ++ Sh) ++ Sd) = L := ⟨_, rfl⟩
  have zL : L.size = 35 := by rw [← hL]; simp only [ByteArray.size_append]; omega
  rw [hL]
  have HL := Lib.hid hL; clear hL
  have y := kU.cells
  obtain ⟨c0, c1, c2, c3, c4, c5, c6, c7, c8, c9⟩ := y
  have hc := convAt #[.int .u8 0] ⟨#[0]⟩ wc wc.heap.size 1 rfl rfl rfl (by decide) rfl
  have hone : (⟨#[0]⟩ : ByteArray).size = 1 := rfl
  go_wp2
  go_ret2
  refine ⟨?_, bw_alloc BU _⟩
  have e : bytesOf ⟨3, f, r, c, b, p, a, m, h, d⟩ = L ++ ⟨#[0]⟩ := by
    rw [← HL.out, ← HM.out, ← HH.out, ← Hf.out, ← Hr.out, ← Hc.out, ← Hb.out, ← Hp.out, ← Ha.out, ← Hm.out, ← Hh.out, ← Hd.out]
    simp [bytesOf, headOf, tailOf, numsOf, app_assoc]
  rw [e]
  rfl

/-- The document's Print, of whatever BPDU. -/
theorem rprint_w (k f r c b p a m h d : Int) (w : World) (X : ByteArray) (E : Int) (hX : Hid (printR ⟨k, f, r, c, b, p, a, m, h, d⟩ = (X, E))) (hok : Bp.ok ⟨k, f, r, c, b, p, a, m, h, d⟩) :
    Calls Tryd.prog 12 #[bv k f r c b p a m h d] w fun e w' => e = .returned (.tuple #[.string X, .int .i64 E]) ∧ Below w.heap.size w w' := by
  have H := hX.out
  unfold printR at H
  cases hr : rightB ⟨k, f, r, c, b, p, a, m, h, d⟩ with
  | false =>
    rw [hr] at H
    simp at H
    obtain ⟨rfl, rfl⟩ := H
    exact rprint_no k f r c b p a m h d w hr
  | true =>
    rw [hr] at H
    simp at H
    obtain ⟨rfl, rfl⟩ := H
    have hr' := hr
    unfold rightB at hr'
    simp only at hr'
    by_cases h2 : k = 2
    · rw [if_pos h2, bpEq_true] at hr'
      injection hr' with e0 e1 e2 e3 e4 e5 e6 e7 e8 e9
      subst e0 e1 e2 e3 e4 e5 e6 e7 e8 e9
      exact rprint_2 w
    · rw [if_neg h2] at hr'
      by_cases h13 : k = 1 ∨ k = 3
      · rw [if_pos h13] at hr'
        rcases h13 with rfl | rfl
        · exact rprint_1 f r c b p a m h d w hr' hok
        · exact rprint_3 f r c b p a m h d w hr' hok
      · rw [if_neg h13] at hr'
        cases hr'
end Go.Proofs.YtaifkepojfhgkaaDoor
