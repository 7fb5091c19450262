/-
  For every frame, source, inner bytes, organisation and number: llc answers just what the document says: the kind, the inner bytes, the frames and the SNAP payload that are made, or the refusal (the statement LlcTells: the walk).
-/
import Derived.Test.YtledabmmomgkoaaDoorL2W
import Derived.Test.YtledabmmomgkoaaDoorL2RM
namespace Go.Proofs.YtledabmmomgkoaaDoor.llcTells
set_option linter.unusedVariables false
set_option linter.unusedSimpArgs false
open Go.ChangeShapes Go.WideShapes Go.ChangeAt Go.RowKit Fm

theorem made_any (g b src inner : ByteArray) : ∃ fd fs ft fp fvl fty fpl E, madeR g b src inner = (⟨fd, fs, ft, fp, fvl, fty, fpl⟩, E) := by
  obtain ⟨F, E⟩ := madeR g b src inner
  obtain ⟨fd, fs, ft, fp, fvl, fty, fpl⟩ := F
  exact ⟨fd, fs, ft, fp, fvl, fty, fpl, E, rfl⟩

/-- Five frames lie where they were laid; the table stands; nothing that was there has turned. -/
structure TInv (w : World) (n1 n2 n3 n4 : Nat) (d s : ByteArray) (t : Bool) (p v ty : Int) (pl : ByteArray) (A C : Fr) (wx : World) : Prop where
  f0 : Blk wx w.heap.size d s t p v ty pl
  f1 : Blk wx n1 A.dst A.src A.tagged A.pri A.vlan A.typ A.pay
  f2 : Blk wx n2 A.dst A.src A.tagged A.pri A.vlan A.typ A.pay
  f3 : Blk wx n3 C.dst C.src C.tagged C.pri C.vlan C.typ C.pay
  f4 : Blk wx n4 C.dst C.src C.tagged C.pri C.vlan C.typ C.pay
  hd : Heads wx
  be : Below w.heap.size w wx
theorem TInv.next {w : World} {n1 n2 n3 n4 : Nat} {d s : ByteArray} {t : Bool} {p v ty : Int} {pl : ByteArray} {A C : Fr} {wx wy : World} (h : TInv w n1 n2 n3 n4 d s t p v ty pl A C wx) (hb : Below wx.heap.size wx wy) : TInv w n1 n2 n3 n4 d s t p v ty pl A C wy :=
  ⟨h.f0.below hb h.f0.lt, h.f1.below hb h.f1.lt, h.f2.below hb h.f2.lt, h.f3.below hb h.f3.lt, h.f4.below hb h.f4.lt, h.hd.next hb, bw_trans h.be hb⟩

set_option maxHeartbeats 16000000 in
set_option maxRecDepth 100000 in
theorem walk (d s : ByteArray) (t : Bool) (p v ty : Int) (pl : ByteArray) (src inner org : ByteArray) (n : Int) (w : World) (hH : Heads w)
    (hd : d.size ≤ maxLen) (hs : s.size ≤ maxLen) (hp : pl.size ≤ maxLen) (hsrc : src.size ≤ maxLen) (hin : inner.size ≤ maxLen) (horg : org.size ≤ maxLen) :
    Calls Tryd.prog 3 #[fv d s t p v ty pl, .string src, .string inner, .string org, .int .i64 n] w fun e w' => e = .returned (.bool true) ∧ Below w.heap.size w w' := by
  unfold maxLen at hsrc hin horg
  go_enter Tryd.func3, Tryd.ntmps3
  go_wp2_with fail
  refine (awake_any _ (hH.next (below_box w _))).mono ?_
  rintro e w1 ⟨rfl, hb1⟩
  have k1 := (blk_new w d s t p v ty pl).below hb1 (by simp)
  have H1 := (hH.next (below_box w _)).next hb1
  have B1 := bw_trans (below_box w _) hb1
  clear hb1 hH
  have y := k1.cells
  obtain ⟨c0, c1, c2, c3, c4, c5, c6⟩ := y
  go_wp2_with fail
  refine (few_any _ _ _ _ _ _ _ _ hd hs hp).mono ?_
  rintro e w2 ⟨rfl, hb2⟩
  have k2 := k1.below hb2 k1.lt
  have H2 := H1.next hb2
  have B2 := bw_trans B1 hb2
  clear hb2 k1 H1 B1 c0 c1 c2 c3 c4 c5 c6
  cases hf : fewB ⟨d, s, t, p, v, ty, pl⟩ with
  | false =>
    clear hf
    go_wp2
    go_ret
    exact ⟨rfl, B2⟩
  | true =>
  clear hf
  by_cases zsrc : 20 < src.size
  · go_wp2
    go_ret
    exact ⟨rfl, B2⟩
  by_cases zinner : 1600 < inner.size
  · go_wp2
    go_ret
    exact ⟨rfl, B2⟩
  by_cases zorg : 20 < org.size
  · go_wp2
    go_ret
    exact ⟨rfl, B2⟩
  have ls : src.size ≤ 20 := by omega
  have li : inner.size ≤ 1600 := by omega
  have lo : org.size ≤ 20 := by omega
  clear hsrc hin horg zsrc zinner zorg
  obtain ⟨K, hK⟩ : ∃ K, kindN ⟨d, s, t, p, v, ty, pl⟩ = K := ⟨_, rfl⟩
  obtain ⟨⟨X, E0⟩, hX⟩ : ∃ r, innerR ⟨d, s, t, p, v, ty, pl⟩ = r := ⟨_, rfl⟩
  obtain ⟨ad, ar, ag, ap, av, ay, al, E1, hA⟩ := made_any g1 b1 src inner
  obtain ⟨cd, cr, cg, cp, cv, cy, cl, E2, hC⟩ := made_any g2 b2 src inner
  obtain ⟨⟨Y, E3⟩, hY⟩ : ∃ r, snapR org n inner = r := ⟨_, rfl⟩
  have HK := Lib.hid hK; clear hK
  have HX := Lib.hid hX; clear hX
  have HA := Lib.hid hA; clear hA
  have HC := Lib.hid hC; clear hC
  have HY := Lib.hid hY; clear hY
  have y := k2.cells
  obtain ⟨c0, c1, c2, c3, c4, c5, c6⟩ := y
  go_wp2_with fail
  refine (inner_w _ _ _ _ _ _ _ _ X E0 HX H2 hd hs hp).mono ?_
  rintro e w3 ⟨rfl, hb3⟩
  have k3 := k2.below hb3 k2.lt
  have H3 := H2.next hb3
  have B3 := bw_trans B2 hb3
  clear hb3 k2 H2 B2 c0 c1 c2 c3 c4 c5 c6
  have y := k3.cells
  obtain ⟨c0, c1, c2, c3, c4, c5, c6⟩ := y
  go_wp2_with fail
  refine (rinner_w _ _ _ _ _ _ _ _ X E0 HX hd hs hp).mono ?_
  rintro e w4 ⟨rfl, hb4⟩
  have k4 := k3.below hb4 k3.lt
  have H4 := H3.next hb4
  have B4 := bw_trans B3 hb4
  clear hb4 k3 H3 B3 c0 c1 c2 c3 c4 c5 c6
  go_wp2_with fail
  refine (ieee_w src inner _ ad ar ag ap av ay al E1 HA H4 ls li).mono ?_
  rintro e w5 ⟨rfl, hb5⟩
  have k5 := (k4.below hb5 k4.lt).below (below_box w5 (.cells #[.string ad, .string ar, .bool ag, .int .i64 ap, .int .i64 av, .int .i64 ay, .string al] 23)) (k4.below hb5 k4.lt).lt
  have m5 := blk_new w5 ad ar ag ap av ay al
  have H5 := (H4.next hb5).next (below_box w5 (.cells #[.string ad, .string ar, .bool ag, .int .i64 ap, .int .i64 av, .int .i64 ay, .string al] 23))
  have B5 := bw_alloc (bw_trans B4 hb5) (.cells #[.string ad, .string ar, .bool ag, .int .i64 ap, .int .i64 av, .int .i64 ay, .string al] 23)
  clear hb5 k4 H4 B4
  go_wp2_with fail
  refine (rmade_1 src inner _ ad ar ag ap av ay al E1 HA ls li).mono ?_
  rintro e w6 ⟨rfl, hb6⟩
  have k6 := (k5.below hb6 k5.lt).below (below_box w6 (.cells #[.string ad, .string ar, .bool ag, .int .i64 ap, .int .i64 av, .int .i64 ay, .string al] 23)) (k5.below hb6 k5.lt).lt
  have m6 := (m5.below hb6 m5.lt).below (below_box w6 (.cells #[.string ad, .string ar, .bool ag, .int .i64 ap, .int .i64 av, .int .i64 ay, .string al] 23)) (m5.below hb6 m5.lt).lt
  have n6 := blk_new w6 ad ar ag ap av ay al
  have H6 := (H5.next hb6).next (below_box w6 (.cells #[.string ad, .string ar, .bool ag, .int .i64 ap, .int .i64 av, .int .i64 ay, .string al] 23))
  have B6 := bw_alloc (bw_trans B5 hb6) (.cells #[.string ad, .string ar, .bool ag, .int .i64 ap, .int .i64 av, .int .i64 ay, .string al] 23)
  clear hb6 k5 m5 H5 B5
  go_wp2_with fail
  refine (sstp_w src inner _ cd cr cg cp cv cy cl E2 HC H6 ls li).mono ?_
  rintro e w7 ⟨rfl, hb7⟩
  have k7 := (k6.below hb7 k6.lt).below (below_box w7 (.cells #[.string cd, .string cr, .bool cg, .int .i64 cp, .int .i64 cv, .int .i64 cy, .string cl] 23)) (k6.below hb7 k6.lt).lt
  have m7 := (m6.below hb7 m6.lt).below (below_box w7 (.cells #[.string cd, .string cr, .bool cg, .int .i64 cp, .int .i64 cv, .int .i64 cy, .string cl] 23)) (m6.below hb7 m6.lt).lt
  have n7 := (n6.below hb7 n6.lt).below (below_box w7 (.cells #[.string cd, .string cr, .bool cg, .int .i64 cp, .int .i64 cv, .int .i64 cy, .string cl] 23)) (n6.below hb7 n6.lt).lt
  have o7 := blk_new w7 cd cr cg cp cv cy cl
  have H7 := (H6.next hb7).next (below_box w7 (.cells #[.string cd, .string cr, .bool cg, .int .i64 cp, .int .i64 cv, .int .i64 cy, .string cl] 23))
  have B7 := bw_alloc (bw_trans B6 hb7) (.cells #[.string cd, .string cr, .bool cg, .int .i64 cp, .int .i64 cv, .int .i64 cy, .string cl] 23)
  clear hb7 k6 m6 n6 H6 B6
  go_wp2_with fail
  refine (rmade_2 src inner _ cd cr cg cp cv cy cl E2 HC ls li).mono ?_
  rintro e w8 ⟨rfl, hb8⟩
  have I8 : TInv w w5.heap.size w6.heap.size w7.heap.size w8.heap.size d s t p v ty pl ⟨ad, ar, ag, ap, av, ay, al⟩ ⟨cd, cr, cg, cp, cv, cy, cl⟩ (w8.alloc (.cells #[.string cd, .string cr, .bool cg, .int .i64 cp, .int .i64 cv, .int .i64 cy, .string cl] 23)) := ⟨(k7.below hb8 k7.lt).below (below_box w8 _) (k7.below hb8 k7.lt).lt, (m7.below hb8 m7.lt).below (below_box w8 _) (m7.below hb8 m7.lt).lt, (n7.below hb8 n7.lt).below (below_box w8 _) (n7.below hb8 n7.lt).lt, (o7.below hb8 o7.lt).below (below_box w8 _) (o7.below hb8 o7.lt).lt, blk_new w8 cd cr cg cp cv cy cl, (H7.next hb8).next (below_box w8 _), bw_alloc (bw_trans B7 hb8) _⟩
  clear hb8 k7 m7 n7 o7 H7 B7
  go_wp2_with fail
  refine (snap_w org n inner _ Y E3 HY lo li).mono ?_
  rintro e w9 ⟨rfl, hb9⟩
  have I9 := I8.next hb9
  clear hb9 I8
  go_wp2_with fail
  refine (rsnap_w org n inner _ Y E3 HY lo li).mono ?_
  rintro e W ⟨rfl, hb10⟩
  have IW := I9.next hb10
  clear hb10 I9
  obtain ⟨kW, aW, bW, eW, fW, HW, BW⟩ := IW
  simp only at aW bW eW fW
  go_upto_region 13 with (fail)
  go_cut [10] (fun r wx => r = .bool true ∧ Below w.heap.size w wx)
  case first =>
    have lk := kW.lt
    have la := aW.lt
    have lb := bW.lt
    have le := eW.lt
    have lf := fW.lt
    have S0 : (W.cell? ⟨w.heap.size, 0, none⟩ = some (Value.string d) ∧ W.cell? ⟨w.heap.size, 1, none⟩ = some (Value.string s) ∧ W.cell? ⟨w.heap.size, 2, none⟩ = some (Value.bool t) ∧ W.cell? ⟨w.heap.size, 3, none⟩ = some (Value.int .i64 p) ∧ W.cell? ⟨w.heap.size, 4, none⟩ = some (Value.int .i64 v) ∧ W.cell? ⟨w.heap.size, 5, none⟩ = some (Value.int .i64 ty) ∧ W.cell? ⟨w.heap.size, 6, none⟩ = some (Value.string pl)) ∧ (W.cell? ⟨w5.heap.size, 0, none⟩ = some (Value.string ad) ∧ W.cell? ⟨w5.heap.size, 1, none⟩ = some (Value.string ar) ∧ W.cell? ⟨w5.heap.size, 2, none⟩ = some (Value.bool ag) ∧ W.cell? ⟨w5.heap.size, 3, none⟩ = some (Value.int .i64 ap) ∧ W.cell? ⟨w5.heap.size, 4, none⟩ = some (Value.int .i64 av) ∧ W.cell? ⟨w5.heap.size, 5, none⟩ = some (Value.int .i64 ay) ∧ W.cell? ⟨w5.heap.size, 6, none⟩ = some (Value.string al)) ∧ (W.cell? ⟨w6.heap.size, 0, none⟩ = some (Value.string ad) ∧ W.cell? ⟨w6.heap.size, 1, none⟩ = some (Value.string ar) ∧ W.cell? ⟨w6.heap.size, 2, none⟩ = some (Value.bool ag) ∧ W.cell? ⟨w6.heap.size, 3, none⟩ = some (Value.int .i64 ap) ∧ W.cell? ⟨w6.heap.size, 4, none⟩ = some (Value.int .i64 av) ∧ W.cell? ⟨w6.heap.size, 5, none⟩ = some (Value.int .i64 ay) ∧ W.cell? ⟨w6.heap.size, 6, none⟩ = some (Value.string al)) ∧ (W.cell? ⟨w7.heap.size, 0, none⟩ = some (Value.string cd) ∧ W.cell? ⟨w7.heap.size, 1, none⟩ = some (Value.string cr) ∧ W.cell? ⟨w7.heap.size, 2, none⟩ = some (Value.bool cg) ∧ W.cell? ⟨w7.heap.size, 3, none⟩ = some (Value.int .i64 cp) ∧ W.cell? ⟨w7.heap.size, 4, none⟩ = some (Value.int .i64 cv) ∧ W.cell? ⟨w7.heap.size, 5, none⟩ = some (Value.int .i64 cy) ∧ W.cell? ⟨w7.heap.size, 6, none⟩ = some (Value.string cl)) ∧ (W.cell? ⟨w8.heap.size, 0, none⟩ = some (Value.string cd) ∧ W.cell? ⟨w8.heap.size, 1, none⟩ = some (Value.string cr) ∧ W.cell? ⟨w8.heap.size, 2, none⟩ = some (Value.bool cg) ∧ W.cell? ⟨w8.heap.size, 3, none⟩ = some (Value.int .i64 cp) ∧ W.cell? ⟨w8.heap.size, 4, none⟩ = some (Value.int .i64 cv) ∧ W.cell? ⟨w8.heap.size, 5, none⟩ = some (Value.int .i64 cy) ∧ W.cell? ⟨w8.heap.size, 6, none⟩ = some (Value.string cl)) := ⟨kW.cells, aW.cells, bW.cells, eW.cells, fW.cells⟩
    have hq1 := run_frEq ad ar ag ap av ay al ad ar ag ap av ay al
    have hq2 := run_frEq cd cr cg cp cv cy cl cd cr cg cp cv cy cl
    have hs1 := frEq_self ⟨ad, ar, ag, ap, av, ay, al⟩
    have hs2 := frEq_self ⟨cd, cr, cg, cp, cv, cy, cl⟩
    go_region_held3 (fun w' => (w'.cell? ⟨w.heap.size, 0, none⟩ = some (Value.string d) ∧ w'.cell? ⟨w.heap.size, 1, none⟩ = some (Value.string s) ∧ w'.cell? ⟨w.heap.size, 2, none⟩ = some (Value.bool t) ∧ w'.cell? ⟨w.heap.size, 3, none⟩ = some (Value.int .i64 p) ∧ w'.cell? ⟨w.heap.size, 4, none⟩ = some (Value.int .i64 v) ∧ w'.cell? ⟨w.heap.size, 5, none⟩ = some (Value.int .i64 ty) ∧ w'.cell? ⟨w.heap.size, 6, none⟩ = some (Value.string pl)) ∧ (w'.cell? ⟨w5.heap.size, 0, none⟩ = some (Value.string ad) ∧ w'.cell? ⟨w5.heap.size, 1, none⟩ = some (Value.string ar) ∧ w'.cell? ⟨w5.heap.size, 2, none⟩ = some (Value.bool ag) ∧ w'.cell? ⟨w5.heap.size, 3, none⟩ = some (Value.int .i64 ap) ∧ w'.cell? ⟨w5.heap.size, 4, none⟩ = some (Value.int .i64 av) ∧ w'.cell? ⟨w5.heap.size, 5, none⟩ = some (Value.int .i64 ay) ∧ w'.cell? ⟨w5.heap.size, 6, none⟩ = some (Value.string al)) ∧ (w'.cell? ⟨w6.heap.size, 0, none⟩ = some (Value.string ad) ∧ w'.cell? ⟨w6.heap.size, 1, none⟩ = some (Value.string ar) ∧ w'.cell? ⟨w6.heap.size, 2, none⟩ = some (Value.bool ag) ∧ w'.cell? ⟨w6.heap.size, 3, none⟩ = some (Value.int .i64 ap) ∧ w'.cell? ⟨w6.heap.size, 4, none⟩ = some (Value.int .i64 av) ∧ w'.cell? ⟨w6.heap.size, 5, none⟩ = some (Value.int .i64 ay) ∧ w'.cell? ⟨w6.heap.size, 6, none⟩ = some (Value.string al)) ∧ (w'.cell? ⟨w7.heap.size, 0, none⟩ = some (Value.string cd) ∧ w'.cell? ⟨w7.heap.size, 1, none⟩ = some (Value.string cr) ∧ w'.cell? ⟨w7.heap.size, 2, none⟩ = some (Value.bool cg) ∧ w'.cell? ⟨w7.heap.size, 3, none⟩ = some (Value.int .i64 cp) ∧ w'.cell? ⟨w7.heap.size, 4, none⟩ = some (Value.int .i64 cv) ∧ w'.cell? ⟨w7.heap.size, 5, none⟩ = some (Value.int .i64 cy) ∧ w'.cell? ⟨w7.heap.size, 6, none⟩ = some (Value.string cl)) ∧ (w'.cell? ⟨w8.heap.size, 0, none⟩ = some (Value.string cd) ∧ w'.cell? ⟨w8.heap.size, 1, none⟩ = some (Value.string cr) ∧ w'.cell? ⟨w8.heap.size, 2, none⟩ = some (Value.bool cg) ∧ w'.cell? ⟨w8.heap.size, 3, none⟩ = some (Value.int .i64 cp) ∧ w'.cell? ⟨w8.heap.size, 4, none⟩ = some (Value.int .i64 cv) ∧ w'.cell? ⟨w8.heap.size, 5, none⟩ = some (Value.int .i64 cy) ∧ w'.cell? ⟨w8.heap.size, 6, none⟩ = some (Value.string cl))) (first | exact S0 | exact S5 | exact S6) (first | (go_at_call 14; refine (kind_w _ _ _ _ _ _ _ _ K HK (HW.next ((Below.refl _ _).drew)) hd hs hp).mono ?_; rintro e w11 ⟨rfl, hb11⟩; have D11 := ((Below.refl W.heap.size W).drew).trans hb11; have S5 : (w11.cell? ⟨w.heap.size, 0, none⟩ = some (Value.string d) ∧ w11.cell? ⟨w.heap.size, 1, none⟩ = some (Value.string s) ∧ w11.cell? ⟨w.heap.size, 2, none⟩ = some (Value.bool t) ∧ w11.cell? ⟨w.heap.size, 3, none⟩ = some (Value.int .i64 p) ∧ w11.cell? ⟨w.heap.size, 4, none⟩ = some (Value.int .i64 v) ∧ w11.cell? ⟨w.heap.size, 5, none⟩ = some (Value.int .i64 ty) ∧ w11.cell? ⟨w.heap.size, 6, none⟩ = some (Value.string pl)) ∧ (w11.cell? ⟨w5.heap.size, 0, none⟩ = some (Value.string ad) ∧ w11.cell? ⟨w5.heap.size, 1, none⟩ = some (Value.string ar) ∧ w11.cell? ⟨w5.heap.size, 2, none⟩ = some (Value.bool ag) ∧ w11.cell? ⟨w5.heap.size, 3, none⟩ = some (Value.int .i64 ap) ∧ w11.cell? ⟨w5.heap.size, 4, none⟩ = some (Value.int .i64 av) ∧ w11.cell? ⟨w5.heap.size, 5, none⟩ = some (Value.int .i64 ay) ∧ w11.cell? ⟨w5.heap.size, 6, none⟩ = some (Value.string al)) ∧ (w11.cell? ⟨w6.heap.size, 0, none⟩ = some (Value.string ad) ∧ w11.cell? ⟨w6.heap.size, 1, none⟩ = some (Value.string ar) ∧ w11.cell? ⟨w6.heap.size, 2, none⟩ = some (Value.bool ag) ∧ w11.cell? ⟨w6.heap.size, 3, none⟩ = some (Value.int .i64 ap) ∧ w11.cell? ⟨w6.heap.size, 4, none⟩ = some (Value.int .i64 av) ∧ w11.cell? ⟨w6.heap.size, 5, none⟩ = some (Value.int .i64 ay) ∧ w11.cell? ⟨w6.heap.size, 6, none⟩ = some (Value.string al)) ∧ (w11.cell? ⟨w7.heap.size, 0, none⟩ = some (Value.string cd) ∧ w11.cell? ⟨w7.heap.size, 1, none⟩ = some (Value.string cr) ∧ w11.cell? ⟨w7.heap.size, 2, none⟩ = some (Value.bool cg) ∧ w11.cell? ⟨w7.heap.size, 3, none⟩ = some (Value.int .i64 cp) ∧ w11.cell? ⟨w7.heap.size, 4, none⟩ = some (Value.int .i64 cv) ∧ w11.cell? ⟨w7.heap.size, 5, none⟩ = some (Value.int .i64 cy) ∧ w11.cell? ⟨w7.heap.size, 6, none⟩ = some (Value.string cl)) ∧ (w11.cell? ⟨w8.heap.size, 0, none⟩ = some (Value.string cd) ∧ w11.cell? ⟨w8.heap.size, 1, none⟩ = some (Value.string cr) ∧ w11.cell? ⟨w8.heap.size, 2, none⟩ = some (Value.bool cg) ∧ w11.cell? ⟨w8.heap.size, 3, none⟩ = some (Value.int .i64 cp) ∧ w11.cell? ⟨w8.heap.size, 4, none⟩ = some (Value.int .i64 cv) ∧ w11.cell? ⟨w8.heap.size, 5, none⟩ = some (Value.int .i64 cy) ∧ w11.cell? ⟨w8.heap.size, 6, none⟩ = some (Value.string cl)) := ⟨(kW.below D11 lk).cells, (aW.below D11 la).cells, (bW.below D11 lb).cells, (eW.below D11 le).cells, (fW.below D11 lf).cells⟩) | (go_at_call 15; refine (rkind_w _ _ _ _ _ _ _ _ K HK hd hs hp).mono ?_; rintro e w12 ⟨rfl, hb12⟩; have D12 := bw_trans D11 hb12; have S6 : (w12.cell? ⟨w.heap.size, 0, none⟩ = some (Value.string d) ∧ w12.cell? ⟨w.heap.size, 1, none⟩ = some (Value.string s) ∧ w12.cell? ⟨w.heap.size, 2, none⟩ = some (Value.bool t) ∧ w12.cell? ⟨w.heap.size, 3, none⟩ = some (Value.int .i64 p) ∧ w12.cell? ⟨w.heap.size, 4, none⟩ = some (Value.int .i64 v) ∧ w12.cell? ⟨w.heap.size, 5, none⟩ = some (Value.int .i64 ty) ∧ w12.cell? ⟨w.heap.size, 6, none⟩ = some (Value.string pl)) ∧ (w12.cell? ⟨w5.heap.size, 0, none⟩ = some (Value.string ad) ∧ w12.cell? ⟨w5.heap.size, 1, none⟩ = some (Value.string ar) ∧ w12.cell? ⟨w5.heap.size, 2, none⟩ = some (Value.bool ag) ∧ w12.cell? ⟨w5.heap.size, 3, none⟩ = some (Value.int .i64 ap) ∧ w12.cell? ⟨w5.heap.size, 4, none⟩ = some (Value.int .i64 av) ∧ w12.cell? ⟨w5.heap.size, 5, none⟩ = some (Value.int .i64 ay) ∧ w12.cell? ⟨w5.heap.size, 6, none⟩ = some (Value.string al)) ∧ (w12.cell? ⟨w6.heap.size, 0, none⟩ = some (Value.string ad) ∧ w12.cell? ⟨w6.heap.size, 1, none⟩ = some (Value.string ar) ∧ w12.cell? ⟨w6.heap.size, 2, none⟩ = some (Value.bool ag) ∧ w12.cell? ⟨w6.heap.size, 3, none⟩ = some (Value.int .i64 ap) ∧ w12.cell? ⟨w6.heap.size, 4, none⟩ = some (Value.int .i64 av) ∧ w12.cell? ⟨w6.heap.size, 5, none⟩ = some (Value.int .i64 ay) ∧ w12.cell? ⟨w6.heap.size, 6, none⟩ = some (Value.string al)) ∧ (w12.cell? ⟨w7.heap.size, 0, none⟩ = some (Value.string cd) ∧ w12.cell? ⟨w7.heap.size, 1, none⟩ = some (Value.string cr) ∧ w12.cell? ⟨w7.heap.size, 2, none⟩ = some (Value.bool cg) ∧ w12.cell? ⟨w7.heap.size, 3, none⟩ = some (Value.int .i64 cp) ∧ w12.cell? ⟨w7.heap.size, 4, none⟩ = some (Value.int .i64 cv) ∧ w12.cell? ⟨w7.heap.size, 5, none⟩ = some (Value.int .i64 cy) ∧ w12.cell? ⟨w7.heap.size, 6, none⟩ = some (Value.string cl)) ∧ (w12.cell? ⟨w8.heap.size, 0, none⟩ = some (Value.string cd) ∧ w12.cell? ⟨w8.heap.size, 1, none⟩ = some (Value.string cr) ∧ w12.cell? ⟨w8.heap.size, 2, none⟩ = some (Value.bool cg) ∧ w12.cell? ⟨w8.heap.size, 3, none⟩ = some (Value.int .i64 cp) ∧ w12.cell? ⟨w8.heap.size, 4, none⟩ = some (Value.int .i64 cv) ∧ w12.cell? ⟨w8.heap.size, 5, none⟩ = some (Value.int .i64 cy) ∧ w12.cell? ⟨w8.heap.size, 6, none⟩ = some (Value.string cl)) := ⟨(kW.below D12 lk).cells, (aW.below D12 la).cells, (bW.below D12 lb).cells, (eW.below D12 le).cells, (fW.below D12 lf).cells⟩))
    all_goals go_wp2_with fail
    all_goals go_meet
    all_goals exact ⟨rfl, bw_trans BW D12⟩
  case rest =>
    obtain ⟨rfl, BZ⟩ := hcut
    go_wp2
    go_ret
    exact ⟨rfl, BZ⟩
end Go.Proofs.YtledabmmomgkoaaDoor.llcTells
