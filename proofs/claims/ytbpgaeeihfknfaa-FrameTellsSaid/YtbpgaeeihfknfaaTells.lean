/-
  For every frame, number and text: it is right or isn't, and has just the document's bytes; the text is just its frame, or wrong as it says; so with a tag, and without (the statement FrameTells, whole: no condition).
-/
import Derived.Test.YtbpgaeeihfknfaaFrOpen
import Derived.Test.YtbpgaeeihfknfaaRefT3
import Derived.Deep.RegionHeld3
namespace Go.Proofs.Ytbpgaeeihfknfaa.frameTells
set_option linter.unusedVariables false
set_option linter.unusedSimpArgs false
open Go.ChangeShapes Go.WideShapes Go.ChangeAt Go.RowKit Fm

/-- Three frames that lie in three blocks. -/
def Held (b c g : Nat) (d s : ByteArray) (t : Bool) (p v ty : Int) (pl : ByteArray) (fd fs : ByteArray) (ft : Bool) (fp fvl fty : Int) (fpl : ByteArray) (w' : World) : Prop :=
  Boxed w' b d s t p v ty pl ∧ Boxed w' c fd fs ft fp fvl fty fpl ∧ Boxed w' g fd fs ft fp fvl fty fpl
theorem Held.below {b c g B : Nat} {d s : ByteArray} {t : Bool} {p v ty : Int} {pl : ByteArray} {fd fs : ByteArray} {ft : Bool} {fp fvl fty : Int} {fpl : ByteArray} {w w' : World}
    (h : Held b c g d s t p v ty pl fd fs ft fp fvl fty fpl w) (hb : Below B w w') (h1 : b < B) (h2 : c < B) (h3 : g < B) : Held b c g d s t p v ty pl fd fs ft fp fvl fty fpl w' :=
  ⟨h.1.below hb h1, h.2.1.below hb h2, h.2.2.below hb h3⟩

theorem print_w (d s : ByteArray) (t : Bool) (p v ty : Int) (pl : ByteArray) (w : World) (X : ByteArray) (e1 : Int) (hX : Hid (printV ⟨d, s, t, p, v, ty, pl⟩ = X)) (hE : Hid (printE ⟨d, s, t, p, v, ty, pl⟩ = e1)) (hd : d.size ≤ maxLen) (hs : s.size ≤ maxLen) (hp : pl.size ≤ maxLen) :
    Calls Try.prog 8 #[fv d s t p v ty pl] w fun e w' => e = .returned (.tuple #[.string X, .int .i64 e1]) ∧ Below w.heap.size w w' := by
  have h := print_any d s t p v ty pl w hd hs hp
  rw [hX.out, hE.out] at h
  exact h
theorem rprint_w (d s : ByteArray) (t : Bool) (p v ty : Int) (pl : ByteArray) (w : World) (X : ByteArray) (e1 : Int) (hX : Hid (printV ⟨d, s, t, p, v, ty, pl⟩ = X)) (hE : Hid (printE ⟨d, s, t, p, v, ty, pl⟩ = e1)) (hd : d.size ≤ maxLen) (hs : s.size ≤ maxLen) (hp : pl.size ≤ maxLen) :
    Calls Try.prog 9 #[fv d s t p v ty pl] w fun e w' => e = .returned (.tuple #[.string X, .int .i64 e1]) ∧ Below w.heap.size w w' := by
  have h := rprint_any d s t p v ty pl w hd hs hp
  rw [hX.out, hE.out] at h
  exact h
theorem right_w (d s : ByteArray) (t : Bool) (p v ty : Int) (pl : ByteArray) (w : World) (r : Bool) (hr : Hid (rightB ⟨d, s, t, p, v, ty, pl⟩ = r)) (hd : d.size ≤ maxLen) (hs : s.size ≤ maxLen) (hp : pl.size ≤ maxLen) :
    Calls Try.prog 12 #[fv d s t p v ty pl] w fun e w' => e = .returned (.bool r) ∧ Below w.heap.size w w' := by
  have h := right_any d s t p v ty pl w hd hs hp
  rw [hr.out] at h
  exact h
theorem rright_w (d s : ByteArray) (t : Bool) (p v ty : Int) (pl : ByteArray) (w : World) (r : Bool) (hr : Hid (rightB ⟨d, s, t, p, v, ty, pl⟩ = r)) (hd : d.size ≤ maxLen) (hs : s.size ≤ maxLen) (hp : pl.size ≤ maxLen) :
    Calls Try.prog 13 #[fv d s t p v ty pl] w fun e w' => e = .returned (.bool r) ∧ Below w.heap.size w w' := by
  have h := rright_any d s t p v ty pl w hd hs hp
  rw [hr.out] at h
  exact h

theorem group_w (s : ByteArray) (w : World) (r : Bool) (hr : Hid (grpB s = r)) (hs : s.size ≤ maxLen) : Calls Try.prog 14 #[.string s] w fun e w' => e = .returned (.bool r) ∧ w = w' := by
  have h := group_any s w hs
  rw [hr.out] at h
  exact h
theorem rgroup_w (s : ByteArray) (w : World) (r : Bool) (hr : Hid (grpB s = r)) (hs : s.size ≤ maxLen) : Calls Try.prog 15 #[.string s] w fun e w' => e = .returned (.bool r) ∧ w = w' := by
  have h := rgroup_any s w hs
  rw [hr.out] at h
  exact h

/-- Behind the great test: it says no; the frame lies where it lay; nothing that was there has turned. -/
def Said (w : World) (d s : ByteArray) (t : Bool) (p v ty : Int) (pl : ByteArray) (r : Value) (wx : World) : Prop :=
  r = .bool false ∧ Blk wx w.heap.size d s t p v ty pl ∧ Below w.heap.size w wx

set_option maxHeartbeats 4000000 in
set_option maxRecDepth 100000 in
theorem walk (d s : ByteArray) (t : Bool) (p v ty : Int) (pl : ByteArray) (vl : Int) (x : ByteArray) (w : World)
    (hd : d.size ≤ maxLen) (hs : s.size ≤ maxLen) (hp : pl.size ≤ maxLen) (hx : x.size ≤ maxLen) :
    Calls Try.prog 3 #[fv d s t p v ty pl, .int .i64 vl, .string x] w fun e w' => e = .returned (.bool true) ∧ Below w.heap.size w w' := by
  go_enter Try.func3, Try.ntmps3
  go_wp2_with fail
  refine (awake_any _).mono ?_
  rintro e w1 ⟨rfl, hb1⟩
  have k1 := (blk_new w d s t p v ty pl).below hb1 (by simp)
  have B1 := bw_trans (below_box w _) hb1
  clear hb1
  have y := k1.cells
  obtain ⟨c0, c1, c2, c3, c4, c5, c6⟩ := y
  go_wp2_with fail
  refine (few_any _ _ _ _ _ _ _ _ hd hs hp).mono ?_
  rintro e w2 ⟨rfl, hb2⟩
  have k2 := k1.below hb2 k1.lt
  have B2 := bw_trans B1 hb2
  clear hb2 k1 B1 c0 c1 c2 c3 c4 c5 c6
  cases hf : fewB ⟨d, s, t, p, v, ty, pl⟩ with
  | false =>
    clear hf
    go_wp2
    go_ret
    exact ⟨rfl, B2⟩
  | true =>
  clear hf
  by_cases hbig : 1700 < x.size
  · unfold maxLen at hx
    go_wp2
    go_ret
    exact ⟨rfl, B2⟩
  obtain ⟨r, hr⟩ : ∃ r, parseR x = r := ⟨_, rfl⟩
  obtain ⟨⟨fd, fs, ft, fp, fvl, fty, fpl⟩, E⟩ := r
  have HP := Lib.hid hr; clear hr
  have hx' := hx
  unfold maxLen at hx'
  have y := k2.cells
  obtain ⟨c0, c1, c2, c3, c4, c5, c6⟩ := y
  obtain ⟨X, hX⟩ : ∃ X, printV ⟨d, s, t, p, v, ty, pl⟩ = X := ⟨_, rfl⟩
  obtain ⟨e1, he1⟩ : ∃ e1, printE ⟨d, s, t, p, v, ty, pl⟩ = e1 := ⟨_, rfl⟩
  obtain ⟨rt, hrt⟩ : ∃ rt, rightB ⟨d, s, t, p, v, ty, pl⟩ = rt := ⟨_, rfl⟩
  obtain ⟨gt, hgt⟩ : ∃ gt, grpB d = gt := ⟨_, rfl⟩
  have HX := Lib.hid hX; clear hX
  have He := Lib.hid he1; clear he1
  have Hr := Lib.hid hrt; clear hrt
  have Hg := Lib.hid hgt; clear hgt
  go_wp2_with fail
  refine (print_w _ _ _ _ _ _ _ _ X e1 HX He hd hs hp).mono ?_
  rintro e w3 ⟨rfl, hb3⟩
  have k3 := k2.below hb3 k2.lt
  have B3 := bw_trans B2 hb3
  clear hb3 k2 B2 c0 c1 c2 c3 c4 c5 c6
  have y := k3.cells
  obtain ⟨c0, c1, c2, c3, c4, c5, c6⟩ := y
  go_wp2_with fail
  refine (rprint_w _ _ _ _ _ _ _ _ X e1 HX He hd hs hp).mono ?_
  rintro e w3' ⟨rfl, hb3⟩
  have k3' := k3.below hb3 k3.lt
  have B3' := bw_trans B3 hb3
  clear hb3 k3 B3 c0 c1 c2 c3 c4 c5 c6
  go_wp2_with fail
  refine (parse_is _ _ _ _ HP hx).mono ?_
  rintro e w4 ⟨rfl, hb4⟩
  have k4 := k3'.below hb4 k3'.lt
  have B4 := bw_trans B3' hb4
  clear hb4 k3' B3'
  go_wp2_with fail
  refine (rparse_is _ _ _ _ HP (by omega)).mono ?_
  rintro e w5 ⟨rfl, hb5⟩
  have k5 := (k4.below (below_box w4 _) k4.lt).below hb5 (Nat.lt_of_lt_of_le k4.lt (by simp))
  have x5 := (blk_new w4 fd fs ft fp fvl fty fpl).below hb5 (by simp)
  have B5 := bw_trans (bw_alloc B4 _) hb5
  have z5 : w4.heap.size < w5.heap.size := x5.lt
  clear hb5 k4 B4
  go_upto_region 9 with (fail)
  obtain ⟨W, hW⟩ : ∃ W, W = w5.alloc (.cells #[.string fd, .string fs, .bool ft, .int .i64 fp, .int .i64 fvl, .int .i64 fty, .string fpl] 23) := ⟨_, rfl⟩
  have kW : Blk W w.heap.size d s t p v ty pl := by rw [hW]; exact k5.below (below_box w5 _) k5.lt
  have xW : Blk W w4.heap.size fd fs ft fp fvl fty fpl := by rw [hW]; exact x5.below (below_box w5 _) x5.lt
  have yW : Blk W w5.heap.size fd fs ft fp fvl fty fpl := by rw [hW]; exact blk_new w5 fd fs ft fp fvl fty fpl
  have BW : Below w.heap.size w W := by rw [hW]; exact bw_alloc B5 _
  rw [← hW]
  clear hW k5 x5 B5
  go_cut [82] (fun r wx => Said w d s t p v ty pl r wx)
  case first =>
    have S0 : Held w.heap.size w4.heap.size w5.heap.size d s t p v ty pl fd fs ft fp fvl fty fpl W := ⟨kW.cells, xW.cells, yW.cells⟩
    have hop2 := run_frNe fd fs ft fp fvl fty fpl fd fs ft fp fvl fty fpl
    have hself := frEq_self ⟨fd, fs, ft, fp, fvl, fty, fpl⟩
    have l1 := kW.lt
    have l2 := xW.lt
    have l3 := yW.lt
    go_region_held3 (fun w' => (w'.cell? ⟨w.heap.size, 0, none⟩ = some (.string d) ∧ w'.cell? ⟨w.heap.size, 1, none⟩ = some (.string s) ∧ w'.cell? ⟨w.heap.size, 2, none⟩ = some (.bool t) ∧ w'.cell? ⟨w.heap.size, 3, none⟩ = some (.int .i64 p) ∧ w'.cell? ⟨w.heap.size, 4, none⟩ = some (.int .i64 v) ∧ w'.cell? ⟨w.heap.size, 5, none⟩ = some (.int .i64 ty) ∧ w'.cell? ⟨w.heap.size, 6, none⟩ = some (.string pl)) ∧ (w'.cell? ⟨w4.heap.size, 0, none⟩ = some (.string fd) ∧ w'.cell? ⟨w4.heap.size, 1, none⟩ = some (.string fs) ∧ w'.cell? ⟨w4.heap.size, 2, none⟩ = some (.bool ft) ∧ w'.cell? ⟨w4.heap.size, 3, none⟩ = some (.int .i64 fp) ∧ w'.cell? ⟨w4.heap.size, 4, none⟩ = some (.int .i64 fvl) ∧ w'.cell? ⟨w4.heap.size, 5, none⟩ = some (.int .i64 fty) ∧ w'.cell? ⟨w4.heap.size, 6, none⟩ = some (.string fpl)) ∧ (w'.cell? ⟨w5.heap.size, 0, none⟩ = some (.string fd) ∧ w'.cell? ⟨w5.heap.size, 1, none⟩ = some (.string fs) ∧ w'.cell? ⟨w5.heap.size, 2, none⟩ = some (.bool ft) ∧ w'.cell? ⟨w5.heap.size, 3, none⟩ = some (.int .i64 fp) ∧ w'.cell? ⟨w5.heap.size, 4, none⟩ = some (.int .i64 fvl) ∧ w'.cell? ⟨w5.heap.size, 5, none⟩ = some (.int .i64 fty) ∧ w'.cell? ⟨w5.heap.size, 6, none⟩ = some (.string fpl))) (first | exact S0 | exact S5 | exact S6) (first | (go_at_call 12; refine (right_w _ _ _ _ _ _ _ _ rt Hr hd hs hp).mono ?_; rintro e w7 ⟨rfl, hb7⟩; have S5 := S0.below (((Below.refl W.heap.size W).drew).trans hb7) l1 l2 l3) | (go_at_call 13; refine (rright_w _ _ _ _ _ _ _ _ rt Hr hd hs hp).mono ?_; rintro e w8 ⟨rfl, hb8⟩; have S6 := S5.below hb8 (Nat.lt_of_lt_of_le l1 hb7.size) (Nat.lt_of_lt_of_le l2 hb7.size) (Nat.lt_of_lt_of_le l3 hb7.size)) | (go_at_call 14; refine (group_w _ _ gt Hg hd).mono ?_; rintro e w9 ⟨rfl, rfl⟩) | (go_at_call 15; refine (rgroup_w _ _ gt Hg hd).mono ?_; rintro e w10 ⟨rfl, rfl⟩))
    all_goals go_wp2_with fail
    all_goals go_meet
    have D7 := ((Below.refl W.heap.size W).drew).trans hb7
    exact ⟨rfl, (kW.below D7 l1).below hb8 (Nat.lt_of_lt_of_le l1 hb7.size), bw_trans (bw_trans BW D7) hb8⟩
  case rest =>
    obtain ⟨rfl, kc, Bc⟩ := hcut
    clear kW xW yW BW z5
    have y := kc.cells
    obtain ⟨c0, c1, c2, c3, c4, c5, c6⟩ := y
    go_wp2_with fail
    refine (with_R _ _ _ _ _ _ _ vl _ hd hs hp).mono ?_
    rintro e w9 ⟨rfl, hb9⟩
    have k9 := kc.below hb9 kc.lt
    have B9 := bw_trans Bc hb9
    clear hb9 kc Bc c0 c1 c2 c3 c4 c5 c6
    obtain ⟨r1, hr1⟩ : ∃ r1, withR ⟨d, s, t, p, v, ty, pl⟩ vl = r1 := ⟨_, rfl⟩
    rw [hr1]
    obtain ⟨⟨ad, asr, atg, ap, av, aty, apl⟩, Ea⟩ := r1
    have HA := Lib.hid hr1; clear hr1
    have k9' := k9.below (below_box w9 (.cells #[.string ad, .string asr, .bool atg, .int .i64 ap, .int .i64 av, .int .i64 aty, .string apl] 23)) k9.lt
    have n9 := blk_new w9 ad asr atg ap av aty apl
    have B9' := bw_alloc B9 (.cells #[.string ad, .string asr, .bool atg, .int .i64 ap, .int .i64 av, .int .i64 aty, .string apl] 23)
    clear k9 B9
    have y := k9'.cells
    obtain ⟨c0, c1, c2, c3, c4, c5, c6⟩ := y
    go_wp2_with fail
    refine (without_R _ _ _ _ _ _ _ _ hd hs hp).mono ?_
    rintro e w10 ⟨rfl, hb10⟩
    have k10 := k9'.below hb10 k9'.lt
    have n10 := n9.below hb10 n9.lt
    have B10 := bw_trans B9' hb10
    clear hb10 k9' n9 B9' c0 c1 c2 c3 c4 c5 c6
    obtain ⟨r2, hr2⟩ : ∃ r2, withoutR ⟨d, s, t, p, v, ty, pl⟩ = r2 := ⟨_, rfl⟩
    rw [hr2]
    obtain ⟨⟨bd, bs, bt, bp, bv, bty, bpl⟩, Eb⟩ := r2
    have HB := Lib.hid hr2; clear hr2
    have k11 := k10.below (below_box w10 (.cells #[.string bd, .string bs, .bool bt, .int .i64 bp, .int .i64 bv, .int .i64 bty, .string bpl] 23)) k10.lt
    have n11 := n10.below (below_box w10 (.cells #[.string bd, .string bs, .bool bt, .int .i64 bp, .int .i64 bv, .int .i64 bty, .string bpl] 23)) n10.lt
    have m11 := blk_new w10 bd bs bt bp bv bty bpl
    have B11 := bw_alloc B10 (.cells #[.string bd, .string bs, .bool bt, .int .i64 bp, .int .i64 bv, .int .i64 bty, .string bpl] 23)
    clear k10 n10 B10
    have y := k11.cells
    obtain ⟨c0, c1, c2, c3, c4, c5, c6⟩ := y
    go_wp2_with fail
    refine (rright_w _ _ _ _ _ _ _ _ rt Hr hd hs hp).mono ?_
    rintro e w12 ⟨rfl, hb12⟩
    have k12 := k11.below hb12 k11.lt
    have n12 := n11.below hb12 n11.lt
    have m12 := m11.below hb12 m11.lt
    have B12 := bw_trans B11 hb12
    clear hb12 k11 n11 m11 B11 c0 c1 c2 c3 c4 c5 c6
    have y := n12.cells
    obtain ⟨p0, p1, p2, p3, p4, p5, p6⟩ := y
    have y := m12.cells
    obtain ⟨q0, q1, q2, q3, q4, q5, q6⟩ := y
    have y := k12.cells
    obtain ⟨c0, c1, c2, c3, c4, c5, c6⟩ := y
    cases rt with
    | false =>
      have ha := HA.out
      have hb := HB.out
      simp [withR, withoutR, Hr.out, zero] at ha hb
      obtain ⟨⟨rfl, rfl, rfl, rfl, rfl, rfl, rfl⟩, rfl⟩ := ha
      obtain ⟨⟨rfl, rfl, rfl, rfl, rfl, rfl, rfl⟩, rfl⟩ := hb
      clear HA HB
      go_wp2
      go_ret
      exact ⟨rfl, B12⟩
    | true =>
      have hb := HB.out
      simp [withoutR, Hr.out] at hb
      obtain ⟨⟨rfl, rfl, rfl, rfl, rfl, rfl, rfl⟩, rfl⟩ := hb
      cases hwi : withinB vl 4094 with
      | false =>
        have ha := HA.out
        simp [withR, Hr.out, hwi, zero] at ha
        obtain ⟨⟨rfl, rfl, rfl, rfl, rfl, rfl, rfl⟩, rfl⟩ := ha
        clear HA HB
        have hvl : vl < 0 ∨ 4094 < vl := by
          simp only [withinB] at hwi
          simp at hwi
          omega
        clear hwi
        rcases hvl with hvl | hvl
        · go_wp2
          go_ret
          exact ⟨rfl, B12⟩
        · have hnn : 0 ≤ vl := by omega
          go_wp2
          go_ret
          exact ⟨rfl, B12⟩
      | true =>
        have ha := HA.out
        simp [withR, Hr.out, hwi] at ha
        obtain ⟨⟨rfl, rfl, rfl, rfl, rfl, rfl, rfl⟩, rfl⟩ := ha
        clear HA HB
        have hvl : 0 ≤ vl ∧ vl ≤ 4094 := by
          simp only [withinB] at hwi
          simpa using hwi
        clear hwi
        go_wp2
        go_ret
        exact ⟨rfl, B12⟩

set_option maxRecDepth 100000 in
theorem lifted (os : Os) (started : os.Started) (H : Type) (enc : TypeId × Value → H) :
    ReturnsInHanded {} Try.checked os 3 .any (Rows.frameTellsSpec.pre6 enc Try.prog Try.f3 Rows.frameTellsRow.domain false) (Rows.frameTellsSpec.post enc Try.prog Try.f3 false true false false) := by
  refine returnsInHanded_of_change (C := Try.checked) own started (by kernel_rfl) Try.func3
    (ChangeSpec.witness6 (enc := enc) (C := Try.checked) false ⟨#[], #[zero.val, .int .i64 0, .string ⟨#[]⟩], []⟩ 8 (by kernel_rfl) (by kernel_rfl) (by kernel_rfl) (by kernel_rfl)) ?_
  intro W base args ds gs before hval0 hW hcnd _
  have hval : ∀ (j : Nat) t v, Try.f3.params[j]? = some t → args[j]? = some v → Value.okWide Try.prog W .any base t v := hval0
  have hW' := hW
  obtain ⟨p, q, hA0, hV, rfl, hfz, hnd⟩ := hW
  have hA : DataW.TrodAll enc Try.prog W 0 (fun _ => true) true Try.f3.params.toList args.toList ds p := hA0
  rw [Try.params3] at hA hval
  obtain ⟨v0, vs0, d0, ds0, p0, q0, hargs, rfl, rfl, h0, r0⟩ := trodAll_cons hA
  obtain ⟨v1, vs1, d1, ds1, p1, q1, rfl, rfl, rfl, h1, r1⟩ := trodAll_cons r0
  obtain ⟨v2, vs2, d2, ds2, p2, q2, rfl, rfl, rfl, h2, r2⟩ := trodAll_cons r1
  obtain ⟨rfl, rfl, rfl⟩ := trodAll_nil r2
  obtain rfl : args = #[v0, v1, v2] := by cases args; simp_all
  obtain ⟨rfl, rfl⟩ := trodVars_none hV
  have lt0 : ∀ x ∈ p0, x.block < W.heap.size := by obtain ⟨m, hm⟩ := h0; exact DataW.trod_lt m _ _ _ hm
  have lt1 : ∀ x ∈ p1, x.block < W.heap.size := by obtain ⟨m, hm⟩ := h1; exact DataW.trod_lt m _ _ _ hm
  have lt2 : ∀ x ∈ p2, x.block < W.heap.size := by obtain ⟨m, hm⟩ := h2; exact DataW.trod_lt m _ _ _ hm
  obtain ⟨fd, fs, ft, fp, fvl, fty, fpl, rfl, zd, zs, zp⟩ := open_frame (hval 0 23 v0 rfl rfl) h0
  have k1 := h1
  have k2 := h2
  obtain ⟨vl, rfl, e1, e1', wvl⟩ := open_int Try.underlying3 (hval 1 3 v1 rfl rfl) h1
  obtain ⟨x, rfl, e2, e2', hx⟩ := Go.ChangeMaps.open_string Try.underlying9 (hval 2 9 v2 rfl rfl) h2
  clear hA0 hval0
  refine (walk fd fs ft fp fvl fty fpl vl x W zd zs zp hx).mono fun e W' ⟨he, bel⟩ => ?_
  subst he
  exact ⟨_, rfl, _, _, _, [], _, [], hW', trodAll_mk1 (shut_bool Try.underlying4 _),
    (trodAll_cons_mk (Below.trod laidOut (by kernel_rfl) (of_decide_eq_true (by kernel_rfl)) h0 bel lt0) (trodAll_cons_mk (Below.trod laidOut (by kernel_rfl) (of_decide_eq_true (by kernel_rfl)) k1 bel lt1) (trodAll_cons_mk (Below.trod laidOut (by kernel_rfl) (of_decide_eq_true (by kernel_rfl)) k2 bel lt2) trodAll_mk0))), rfl, bel.frame _, fun h => by cases h⟩

theorem over : Rows.frameTellsRow.holds Try.pinned (OpenSpec.ofChange Rows.frameTellsSpec) :=
  OpenClaim.holds_of_wide 3 Try.f3 rfl rfl rfl rfl rfl rfl rfl ⟨rfl, rfl, rfl, rfl, rfl⟩ rfl rfl rfl rfl rfl (by kernel_rfl) Try.func3 (by kernel_rfl)
    (of_decide_eq_true (by kernel_rfl)) (by unfold Func.isWrapper; first | (rw [if_pos (by decide +kernel)]; kernel_rfl) | (rw [if_neg (by decide +kernel)]; exact ⟨rfl, rfl⟩))
    (fun os started H enc _ => lifted os started H enc)

/-- The statement. -/
theorem proved : Rows.FrameTellsSaid := over
#print axioms proved
end Go.Proofs.Ytbpgaeeihfknfaa.frameTells
