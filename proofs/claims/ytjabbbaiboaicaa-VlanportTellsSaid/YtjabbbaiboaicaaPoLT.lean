/-
  The walk of VlanportTells. (Printed by gen_pl.py.)
-/
import Derived.Test.YtjabbbaiboaicaaPoD
import Derived.Test.YtjabbbaiboaicaaPoI
import Derived.Test.YtjabbbaiboaicaaPoJ
import Derived.Test.YtjabbbaiboaicaaPoK
namespace Go.Proofs.Ytjabbbaiboaicaa
set_option linter.unusedVariables false
set_option linter.unusedSimpArgs false
open Go.RowKit Fm Pm

structure Alls (w : World) (b bM bX bY bA bO : Nat) (t : Bool) (n : Int) (a : Option Addr) (len cap : Nat) (l : List Int) (xt : Bool) (xn : Int) (a1 : Option Addr) (len1 cap1 : Nat) (a2 : Option Addr) (len2 cap2 : Nat) (xl : List Int) (od os : ByteArray) (ot : Bool) (op ov oy : Int) (opl : ByteArray) : Prop where
  pb : PBlk 24 w b t n a len cap
  mb : PBlk 29 w bM t n a len cap
  xb : PBlk 24 w bX xt xn a1 len1 cap1
  yb : PBlk 29 w bY xt xn a2 len2 cap2
  ab : Blk w bA od os ot op ov oy opl
  ob : Blk w bO od os ot op ov oy opl
  i : IsRow w a len l
  j : IsRow w a1 len1 xl
  j2 : IsRow w a2 len2 xl
section
variable {w w' : World} {b bM bX bY bA bO : Nat} {t : Bool} {n : Int} {a : Option Addr} {len cap : Nat} {l : List Int} {xt : Bool} {xn : Int} {a1 : Option Addr} {len1 cap1 : Nat} {a2 : Option Addr} {len2 cap2 : Nat} {xl : List Int} {od os : ByteArray} {ot : Bool} {op ov oy : Int} {opl : ByteArray}
theorem Alls.next (h : Alls w b bM bX bY bA bO t n a len cap l xt xn a1 len1 cap1 a2 len2 cap2 xl od os ot op ov oy opl) (hb : Below w.heap.size w w') : Alls w' b bM bX bY bA bO t n a len cap l xt xn a1 len1 cap1 a2 len2 cap2 xl od os ot op ov oy opl :=
  ⟨h.pb.next hb, h.mb.next hb, h.xb.next hb, h.yb.next hb, h.ab.next hb, h.ob.next hb, h.i.next hb, h.j.next hb, h.j2.next hb⟩
theorem Alls.cells (h : Alls w b bM bX bY bA bO t n a len cap l xt xn a1 len1 cap1 a2 len2 cap2 xl od os ot op ov oy opl) : (w.cell? ⟨b, 0, none⟩ = some (.bool t) ∧ w.cell? ⟨b, 1, none⟩ = some (.int .i64 n) ∧ w.cell? ⟨b, 2, none⟩ = some (.slice a len cap)) ∧ (w.cell? ⟨bM, 0, none⟩ = some (.bool t) ∧ w.cell? ⟨bM, 1, none⟩ = some (.int .i64 n) ∧ w.cell? ⟨bM, 2, none⟩ = some (.slice a len cap)) ∧ (w.cell? ⟨bX, 0, none⟩ = some (.bool xt) ∧ w.cell? ⟨bX, 1, none⟩ = some (.int .i64 xn) ∧ w.cell? ⟨bX, 2, none⟩ = some (.slice a1 len1 cap1)) ∧ (w.cell? ⟨bY, 0, none⟩ = some (.bool xt) ∧ w.cell? ⟨bY, 1, none⟩ = some (.int .i64 xn) ∧ w.cell? ⟨bY, 2, none⟩ = some (.slice a2 len2 cap2)) ∧ (w.cell? ⟨bA, 0, none⟩ = some (.string od) ∧ w.cell? ⟨bA, 1, none⟩ = some (.string os) ∧ w.cell? ⟨bA, 2, none⟩ = some (.bool ot) ∧ w.cell? ⟨bA, 3, none⟩ = some (.int .i64 op) ∧ w.cell? ⟨bA, 4, none⟩ = some (.int .i64 ov) ∧ w.cell? ⟨bA, 5, none⟩ = some (.int .i64 oy) ∧ w.cell? ⟨bA, 6, none⟩ = some (.string opl)) ∧ (w.cell? ⟨bO, 0, none⟩ = some (.string od) ∧ w.cell? ⟨bO, 1, none⟩ = some (.string os) ∧ w.cell? ⟨bO, 2, none⟩ = some (.bool ot) ∧ w.cell? ⟨bO, 3, none⟩ = some (.int .i64 op) ∧ w.cell? ⟨bO, 4, none⟩ = some (.int .i64 ov) ∧ w.cell? ⟨bO, 5, none⟩ = some (.int .i64 oy) ∧ w.cell? ⟨bO, 6, none⟩ = some (.string opl)) :=
  ⟨h.pb.cells, h.mb.cells, h.xb.cells, h.yb.cells, h.ab.cells, h.ob.cells⟩
end
theorem right_w (t : Bool) (n : Int) (a : Option Addr) (len cap : Nat) (l : List Int) (w : World) (R : Bool) (h : IsRow w a len l) (hR : Hid (portB ⟨t, n, l⟩ = R)) :
    Calls Try.prog 15 #[pv t n a len cap] w fun e w' => e = .returned (.bool R) ∧ Below w.heap.size w w' := by
  have H := portRight_any t n a len cap l w h
  rw [hR.out] at H
  exact H
theorem rright_w (t : Bool) (n : Int) (a : Option Addr) (len cap : Nat) (l : List Int) (w : World) (R : Bool) (h : IsRow w a len l) (hR : Hid (portB ⟨t, n, l⟩ = R)) :
    Calls Try.prog 16 #[pv t n a len cap] w fun e w' => e = .returned (.bool R) ∧ Below w.heap.size w w' := by
  have H := rportRight_any t n a len cap l w h
  rw [hR.out] at H
  exact H
theorem has_w (t : Bool) (n : Int) (a : Option Addr) (len cap : Nat) (l : List Int) (v : Int) (w : World) (R : Bool) (h : IsRow w a len l) (hR : Hid (hasB ⟨t, n, l⟩ v = R)) :
    Calls Try.prog 17 #[pv t n a len cap, .int .i64 v] w fun e w' => e = .returned (.bool R) ∧ Below w.heap.size w w' := by
  have H := has_any t n a len cap l v w h
  rw [hR.out] at H
  exact H
theorem rhas_w (t : Bool) (n : Int) (a : Option Addr) (len cap : Nat) (l : List Int) (v : Int) (w : World) (R : Bool) (h : IsRow w a len l) (hR : Hid (hasB ⟨t, n, l⟩ v = R)) :
    Calls Try.prog 18 #[pv t n a len cap, .int .i64 v] w fun e w' => e = .returned (.bool R) ∧ Below w.heap.size w w' := by
  have H := rhas_any t n a len cap l v w h
  rw [hR.out] at H
  exact H

set_option maxHeartbeats 1000000 in
theorem tells_big (t : Bool) (n : Int) (a : Option Addr) (len cap : Nat) (l : List Int) (z d s : ByteArray) (ft : Bool) (p v ty : Int) (pl : ByteArray) (vl : Int) (w : World) (h : IsRow w a len l) (hz : z.size ≤ maxLen) (hd : d.size ≤ maxLen) (hs : s.size ≤ maxLen) (hp : pl.size ≤ maxLen) (hc : 40 < len) :
    Calls Try.prog 3 #[pv t n a len cap, .string z, fv d s ft p v ty pl, .int .i64 vl] w fun e w' => e = .returned (.bool true) ∧ Below w.heap.size w w' := by
  have hbd := h.bound
  have hd' := Lib.hid hd; have hs' := Lib.hid hs; have hp' := Lib.hid hp; clear hd hs hp
  unfold maxLen at hbd hz
  obtain ⟨W, hW, PB, FB, hI, BB⟩ := two_boxes 24 w t n a len cap l d s ft p v ty pl h
  clear h
  go_enter Try.func3, Try.ntmps3
  go_upto_region 1 with (fail)
  rw [← hW]
  obtain ⟨b, hb⟩ : ∃ b, b = w.heap.size := ⟨_, rfl⟩
  rw [← hb] at PB FB ⊢
  have HB := Lib.hid BB
  clear hW hb BB
  go_wp2_with fail
  have hpw := awake_any W
  refine hpw.mono ?_
  clear hpw
  rintro e w2 ⟨rfl, hb⟩
  replace PB := PB.next hb
  replace FB := FB.next hb
  replace hI := hI.next hb
  replace HB := Lib.hid (bw_trans HB.out hb)
  clear hb 
  have kk := PB.cells
  obtain ⟨k0, k1, k2⟩ := kk
  have kk := FB.cells
  obtain ⟨c0, c1, c2, c3, c4, c5, c6⟩ := kk
  have hg : decide ((len : Int) > 40) = true := by simp; omega
  clear PB FB hI
  go_wp2
  go_ret
  exact ⟨rfl, HB.out⟩

set_option maxHeartbeats 1000000 in
theorem tells_long (t : Bool) (n : Int) (a : Option Addr) (len cap : Nat) (l : List Int) (z d s : ByteArray) (ft : Bool) (p v ty : Int) (pl : ByteArray) (vl : Int) (w : World) (h : IsRow w a len l) (hz : z.size ≤ maxLen) (hd : d.size ≤ maxLen) (hs : s.size ≤ maxLen) (hp : pl.size ≤ maxLen) (hc : len ≤ 40 ∧ 200 < z.size) :
    Calls Try.prog 3 #[pv t n a len cap, .string z, fv d s ft p v ty pl, .int .i64 vl] w fun e w' => e = .returned (.bool true) ∧ Below w.heap.size w w' := by
  have hbd := h.bound
  have hd' := Lib.hid hd; have hs' := Lib.hid hs; have hp' := Lib.hid hp; clear hd hs hp
  unfold maxLen at hbd hz
  obtain ⟨W, hW, PB, FB, hI, BB⟩ := two_boxes 24 w t n a len cap l d s ft p v ty pl h
  clear h
  go_enter Try.func3, Try.ntmps3
  go_upto_region 1 with (fail)
  rw [← hW]
  obtain ⟨b, hb⟩ : ∃ b, b = w.heap.size := ⟨_, rfl⟩
  rw [← hb] at PB FB ⊢
  have HB := Lib.hid BB
  clear hW hb BB
  go_wp2_with fail
  have hpw := awake_any W
  refine hpw.mono ?_
  clear hpw
  rintro e w2 ⟨rfl, hb⟩
  replace PB := PB.next hb
  replace FB := FB.next hb
  replace hI := hI.next hb
  replace HB := Lib.hid (bw_trans HB.out hb)
  clear hb 
  have kk := PB.cells
  obtain ⟨k0, k1, k2⟩ := kk
  have kk := FB.cells
  obtain ⟨c0, c1, c2, c3, c4, c5, c6⟩ := kk
  have hg : decide ((len : Int) > 40) = false := by simp; omega
  have hg2 : decide ((z.size : Int) > 200) = true := by simp; omega
  clear PB FB hI
  go_wp2
  go_ret
  exact ⟨rfl, HB.out⟩

set_option maxHeartbeats 1000000 in
theorem tells_many (t : Bool) (n : Int) (a : Option Addr) (len cap : Nat) (l : List Int) (z d s : ByteArray) (ft : Bool) (p v ty : Int) (pl : ByteArray) (vl : Int) (w : World) (h : IsRow w a len l) (hz : z.size ≤ maxLen) (hd : d.size ≤ maxLen) (hs : s.size ≤ maxLen) (hp : pl.size ≤ maxLen) (hc : len ≤ 40 ∧ z.size ≤ 200 ∧ fewB ⟨d, s, ft, p, v, ty, pl⟩ = false) :
    Calls Try.prog 3 #[pv t n a len cap, .string z, fv d s ft p v ty pl, .int .i64 vl] w fun e w' => e = .returned (.bool true) ∧ Below w.heap.size w w' := by
  have hbd := h.bound
  have hd' := Lib.hid hd; have hs' := Lib.hid hs; have hp' := Lib.hid hp; clear hd hs hp
  unfold maxLen at hbd hz
  obtain ⟨W, hW, PB, FB, hI, BB⟩ := two_boxes 24 w t n a len cap l d s ft p v ty pl h
  clear h
  go_enter Try.func3, Try.ntmps3
  go_upto_region 1 with (fail)
  rw [← hW]
  obtain ⟨b, hb⟩ : ∃ b, b = w.heap.size := ⟨_, rfl⟩
  rw [← hb] at PB FB ⊢
  have HB := Lib.hid BB
  clear hW hb BB
  go_wp2_with fail
  have hpw := awake_any W
  refine hpw.mono ?_
  clear hpw
  rintro e w2 ⟨rfl, hb⟩
  replace PB := PB.next hb
  replace FB := FB.next hb
  replace hI := hI.next hb
  replace HB := Lib.hid (bw_trans HB.out hb)
  clear hb 
  have kk := PB.cells
  obtain ⟨k0, k1, k2⟩ := kk
  have kk := FB.cells
  obtain ⟨c0, c1, c2, c3, c4, c5, c6⟩ := kk
  obtain ⟨hc1, hc2, hc3⟩ := hc
  have hg : decide ((len : Int) > 40) = false := by simp; omega
  have hg2 : decide ((z.size : Int) > 200) = false := by simp; omega
  have HF := Lib.hid hc3; clear hc3
  clear PB FB hI
  go_wp2_with fail
  have hpw := few_any d s ft p v ty pl w2 hd'.out hs'.out hp'.out
  refine hpw.mono ?_
  clear hpw
  rintro e w2 ⟨rfl, hb⟩
  rw [HF.out]
  replace HB := Lib.hid (bw_trans HB.out hb)
  go_wp2
  go_ret
  exact ⟨rfl, HB.out⟩

set_option maxHeartbeats 8000000 in
set_option maxRecDepth 100000 in
theorem tells_small (t : Bool) (n : Int) (a : Option Addr) (len cap : Nat) (l : List Int) (z d s : ByteArray) (ft : Bool) (p v ty : Int) (pl : ByteArray) (vl : Int) (w : World) (h : IsRow w a len l) (hz : z.size ≤ maxLen) (hd : d.size ≤ maxLen) (hs : s.size ≤ maxLen) (hp : pl.size ≤ maxLen) (hl : len ≤ 40) (hz2 : z.size ≤ 200) (hc3 : fewB ⟨d, s, ft, p, v, ty, pl⟩ = true) :
    Calls Try.prog 3 #[pv t n a len cap, .string z, fv d s ft p v ty pl, .int .i64 vl] w fun e w' => e = .returned (.bool true) ∧ Below w.heap.size w w' := by
  have hd' := Lib.hid hd; have hs' := Lib.hid hs; have hp' := Lib.hid hp; have hz' := Lib.hid hz; clear hd hs hp hz
  obtain ⟨⟨S, E1⟩, hr⟩ : ∃ r, printR ⟨t, n, l⟩ = r := ⟨_, rfl⟩
  have HP := Lib.hid hr; clear hr
  obtain ⟨⟨⟨xt, xn, xl⟩, E2⟩, hr⟩ : ∃ r, parseP z = r := ⟨_, rfl⟩
  have HQ := Lib.hid hr; clear hr
  obtain ⟨⟨V1, E3⟩, hr⟩ : ∃ r, inP ⟨t, n, l⟩ ⟨d, s, ft, p, v, ty, pl⟩ = r := ⟨_, rfl⟩
  have HN := Lib.hid hr; clear hr
  obtain ⟨⟨⟨od, os, ot, op, ov, oy, opl⟩, E4⟩, hr⟩ : ∃ r, outP ⟨t, n, l⟩ ⟨d, s, ft, p, v, ty, pl⟩ vl = r := ⟨_, rfl⟩
  have HO := Lib.hid hr; clear hr
  obtain ⟨RP, hr⟩ : ∃ r, portB ⟨t, n, l⟩ = r := ⟨_, rfl⟩
  have HR := Lib.hid hr; clear hr
  obtain ⟨RH, hr⟩ : ∃ r, hasB ⟨t, n, l⟩ vl = r := ⟨_, rfl⟩
  have HH := Lib.hid hr; clear hr
  have HF := Lib.hid hc3; clear hc3
  have hg : decide ((len : Int) > 40) = false := by simp; omega
  have hg2 : decide ((z.size : Int) > 200) = false := by simp; omega
  obtain ⟨W, hW, PB, FB, hI, BB⟩ := two_boxes 24 w t n a len cap l d s ft p v ty pl h
  clear h
  go_enter Try.func3, Try.ntmps3
  go_upto_region 1 with (fail)
  rw [← hW]
  obtain ⟨b, hb⟩ : ∃ b, b = w.heap.size := ⟨_, rfl⟩
  rw [← hb] at PB FB ⊢
  have HB := Lib.hid BB
  clear hW hb BB
  go_wp2_with fail
  have hpw := awake_any W
  refine hpw.mono ?_
  clear hpw
  rintro e w2 ⟨rfl, hb⟩
  replace PB := PB.next hb
  replace FB := FB.next hb
  replace hI := hI.next hb
  replace HB := Lib.hid (bw_trans HB.out hb)
  clear hb 
  have kk := PB.cells
  obtain ⟨k0, k1, k2⟩ := kk
  have kk := FB.cells
  obtain ⟨c0, c1, c2, c3, c4, c5, c6⟩ := kk
  go_wp2_with fail
  have hpw := few_any d s ft p v ty pl w2 hd'.out hs'.out hp'.out
  refine hpw.mono ?_
  clear hpw
  rintro e w2 ⟨rfl, hb⟩
  rw [HF.out]
  replace PB := PB.next hb
  replace FB := FB.next hb
  replace hI := hI.next hb
  replace HB := Lib.hid (bw_trans HB.out hb)
  clear hb k0 k1 k2 c0 c1 c2 c3 c4 c5 c6
  have kk := PB.cells
  obtain ⟨k0, k1, k2⟩ := kk
  have kk := FB.cells
  obtain ⟨c0, c1, c2, c3, c4, c5, c6⟩ := kk
  obtain ⟨V, hV⟩ : ∃ V, V = w2.alloc (.cells #[.bool t, .int .i64 n, .slice a len cap] 29) := ⟨_, rfl⟩
  have hb2 := below_box w2 (.cells #[.bool t, .int .i64 n, .slice a len cap] 29)
  have MB := pblk_new 29 w2 t n a len cap
  rw [← hV] at hb2 MB
  go_upto_region 6 with (fail)
  rw [← hV]
  obtain ⟨bMB, hbx⟩ : ∃ b, b = w2.heap.size := ⟨_, rfl⟩
  rw [← hbx] at MB ⊢
  clear hV hbx
  replace PB := PB.next hb2
  replace FB := FB.next hb2
  replace hI := hI.next hb2
  replace HB := Lib.hid (bw_trans HB.out hb2)
  clear hb2 k0 k1 k2 c0 c1 c2 c3 c4 c5 c6
  obtain ⟨w2, hV⟩ : ∃ w2, w2 = V := ⟨_, rfl⟩
  subst hV
  have kk := PB.cells
  obtain ⟨k0, k1, k2⟩ := kk
  have kk := FB.cells
  obtain ⟨c0, c1, c2, c3, c4, c5, c6⟩ := kk
  have kk := MB.cells
  obtain ⟨m0, m1, m2⟩ := kk
  go_wp2_with fail
  have hpw := print_w t n a len cap l w2 S E1 hI HP
  refine hpw.mono ?_
  clear hpw
  rintro e w2 ⟨rfl, hb⟩
  replace PB := PB.next hb
  replace FB := FB.next hb
  replace hI := hI.next hb
  replace MB := MB.next hb
  replace HB := Lib.hid (bw_trans HB.out hb)
  clear hb k0 k1 k2 c0 c1 c2 c3 c4 c5 c6 m0 m1 m2
  have kk := PB.cells
  obtain ⟨k0, k1, k2⟩ := kk
  have kk := FB.cells
  obtain ⟨c0, c1, c2, c3, c4, c5, c6⟩ := kk
  have kk := MB.cells
  obtain ⟨m0, m1, m2⟩ := kk
  go_wp2_with fail
  have hpw := rprint_w t n a len cap l w2 S E1 hI HP
  refine hpw.mono ?_
  clear hpw
  rintro e w2 ⟨rfl, hb⟩
  replace PB := PB.next hb
  replace FB := FB.next hb
  replace hI := hI.next hb
  replace MB := MB.next hb
  replace HB := Lib.hid (bw_trans HB.out hb)
  clear hb k0 k1 k2 c0 c1 c2 c3 c4 c5 c6 m0 m1 m2
  have kk := PB.cells
  obtain ⟨k0, k1, k2⟩ := kk
  have kk := FB.cells
  obtain ⟨c0, c1, c2, c3, c4, c5, c6⟩ := kk
  have kk := MB.cells
  obtain ⟨m0, m1, m2⟩ := kk
  go_wp2_with fail
  have hpw := parse_w z w2 _ _ hz'.out HQ
  refine hpw.mono ?_
  clear hpw
  rintro e w2 ⟨⟨a1, len1, cap1, rfl, hJ⟩, hb⟩
  replace PB := PB.next hb
  replace FB := FB.next hb
  replace hI := hI.next hb
  replace MB := MB.next hb
  replace HB := Lib.hid (bw_trans HB.out hb)
  clear hb k0 k1 k2 c0 c1 c2 c3 c4 c5 c6 m0 m1 m2
  simp only at hJ ⊢
  obtain ⟨V, hV⟩ : ∃ V, V = w2.alloc (.cells #[.bool xt, .int .i64 xn, .slice a1 len1 cap1] 24) := ⟨_, rfl⟩
  have hb2 := below_box w2 (.cells #[.bool xt, .int .i64 xn, .slice a1 len1 cap1] 24)
  have XB := pblk_new 24 w2 xt xn a1 len1 cap1
  rw [← hV] at hb2 XB
  go_upto_region 9 with (fail)
  rw [← hV]
  obtain ⟨bXB, hbx⟩ : ∃ b, b = w2.heap.size := ⟨_, rfl⟩
  rw [← hbx] at XB ⊢
  clear hV hbx
  replace PB := PB.next hb2
  replace FB := FB.next hb2
  replace hI := hI.next hb2
  replace MB := MB.next hb2
  replace hJ := hJ.next hb2
  replace HB := Lib.hid (bw_trans HB.out hb2)
  clear hb2
  obtain ⟨w2, hV⟩ : ∃ w2, w2 = V := ⟨_, rfl⟩
  subst hV
  have kk := PB.cells
  obtain ⟨k0, k1, k2⟩ := kk
  have kk := FB.cells
  obtain ⟨c0, c1, c2, c3, c4, c5, c6⟩ := kk
  have kk := MB.cells
  obtain ⟨m0, m1, m2⟩ := kk
  have kk := XB.cells
  obtain ⟨x0, x1, x2⟩ := kk
  go_wp2_with fail
  have hpw := rparse_w z w2 _ _ (Nat.le_trans hz2 (by decide)) HQ
  refine hpw.mono ?_
  clear hpw
  rintro e w2 ⟨⟨a2, len2, cap2, rfl, hJ2⟩, hb⟩
  replace PB := PB.next hb
  replace FB := FB.next hb
  replace hI := hI.next hb
  replace MB := MB.next hb
  replace hJ := hJ.next hb
  replace XB := XB.next hb
  replace HB := Lib.hid (bw_trans HB.out hb)
  clear hb k0 k1 k2 c0 c1 c2 c3 c4 c5 c6 m0 m1 m2 x0 x1 x2
  simp only at hJ2 ⊢
  obtain ⟨V, hV⟩ : ∃ V, V = w2.alloc (.cells #[.bool xt, .int .i64 xn, .slice a2 len2 cap2] 29) := ⟨_, rfl⟩
  have hb2 := below_box w2 (.cells #[.bool xt, .int .i64 xn, .slice a2 len2 cap2] 29)
  have YB := pblk_new 29 w2 xt xn a2 len2 cap2
  rw [← hV] at hb2 YB
  go_upto_region 10 with (fail)
  rw [← hV]
  obtain ⟨bYB, hbx⟩ : ∃ b, b = w2.heap.size := ⟨_, rfl⟩
  rw [← hbx] at YB ⊢
  clear hV hbx
  replace PB := PB.next hb2
  replace FB := FB.next hb2
  replace hI := hI.next hb2
  replace MB := MB.next hb2
  replace hJ := hJ.next hb2
  replace XB := XB.next hb2
  replace hJ2 := hJ2.next hb2
  replace HB := Lib.hid (bw_trans HB.out hb2)
  clear hb2
  obtain ⟨w2, hV⟩ : ∃ w2, w2 = V := ⟨_, rfl⟩
  subst hV
  have kk := PB.cells
  obtain ⟨k0, k1, k2⟩ := kk
  have kk := FB.cells
  obtain ⟨c0, c1, c2, c3, c4, c5, c6⟩ := kk
  have kk := MB.cells
  obtain ⟨m0, m1, m2⟩ := kk
  have kk := XB.cells
  obtain ⟨x0, x1, x2⟩ := kk
  have kk := YB.cells
  obtain ⟨y0, y1, y2⟩ := kk
  go_wp2_with fail
  have hpw := in_w t n a len cap l d s ft p v ty pl w2 V1 E3 hI hd'.out hs'.out hp'.out HN
  refine hpw.mono ?_
  clear hpw
  rintro e w2 ⟨rfl, hb⟩
  replace PB := PB.next hb
  replace FB := FB.next hb
  replace hI := hI.next hb
  replace MB := MB.next hb
  replace hJ := hJ.next hb
  replace XB := XB.next hb
  replace hJ2 := hJ2.next hb
  replace YB := YB.next hb
  replace HB := Lib.hid (bw_trans HB.out hb)
  clear hb k0 k1 k2 c0 c1 c2 c3 c4 c5 c6 m0 m1 m2 x0 x1 x2 y0 y1 y2
  have kk := PB.cells
  obtain ⟨k0, k1, k2⟩ := kk
  have kk := FB.cells
  obtain ⟨c0, c1, c2, c3, c4, c5, c6⟩ := kk
  have kk := MB.cells
  obtain ⟨m0, m1, m2⟩ := kk
  have kk := XB.cells
  obtain ⟨x0, x1, x2⟩ := kk
  have kk := YB.cells
  obtain ⟨y0, y1, y2⟩ := kk
  go_wp2_with fail
  have hpw := rin_w t n a len cap l d s ft p v ty pl w2 V1 E3 hI hd'.out hs'.out hp'.out HN
  refine hpw.mono ?_
  clear hpw
  rintro e w2 ⟨rfl, hb⟩
  replace PB := PB.next hb
  replace FB := FB.next hb
  replace hI := hI.next hb
  replace MB := MB.next hb
  replace hJ := hJ.next hb
  replace XB := XB.next hb
  replace hJ2 := hJ2.next hb
  replace YB := YB.next hb
  replace HB := Lib.hid (bw_trans HB.out hb)
  clear hb k0 k1 k2 c0 c1 c2 c3 c4 c5 c6 m0 m1 m2 x0 x1 x2 y0 y1 y2
  have kk := PB.cells
  obtain ⟨k0, k1, k2⟩ := kk
  have kk := FB.cells
  obtain ⟨c0, c1, c2, c3, c4, c5, c6⟩ := kk
  have kk := MB.cells
  obtain ⟨m0, m1, m2⟩ := kk
  have kk := XB.cells
  obtain ⟨x0, x1, x2⟩ := kk
  have kk := YB.cells
  obtain ⟨y0, y1, y2⟩ := kk
  go_wp2_with fail
  have hpw := out_w t n a len cap l d s ft p v ty pl vl w2 _ E4 hI hd'.out hs'.out hp'.out HO
  refine hpw.mono ?_
  clear hpw
  rintro e w2 ⟨rfl, hb⟩
  replace PB := PB.next hb
  replace FB := FB.next hb
  replace hI := hI.next hb
  replace MB := MB.next hb
  replace hJ := hJ.next hb
  replace XB := XB.next hb
  replace hJ2 := hJ2.next hb
  replace YB := YB.next hb
  replace HB := Lib.hid (bw_trans HB.out hb)
  clear hb k0 k1 k2 c0 c1 c2 c3 c4 c5 c6 m0 m1 m2 x0 x1 x2 y0 y1 y2
  simp only [Fr.val]
  obtain ⟨V, hV⟩ : ∃ V, V = w2.alloc (.cells #[.string od, .string os, .bool ot, .int .i64 op, .int .i64 ov, .int .i64 oy, .string opl] 26) := ⟨_, rfl⟩
  have hb2 := below_box w2 (.cells #[.string od, .string os, .bool ot, .int .i64 op, .int .i64 ov, .int .i64 oy, .string opl] 26)
  have AB := blk_new w2 od os ot op ov oy opl
  rw [← hV] at hb2 AB
  go_upto_region 13 with (fail)
  rw [← hV]
  obtain ⟨bAB, hbx⟩ : ∃ b, b = w2.heap.size := ⟨_, rfl⟩
  rw [← hbx] at AB ⊢
  clear hV hbx
  replace PB := PB.next hb2
  replace FB := FB.next hb2
  replace hI := hI.next hb2
  replace MB := MB.next hb2
  replace hJ := hJ.next hb2
  replace XB := XB.next hb2
  replace hJ2 := hJ2.next hb2
  replace YB := YB.next hb2
  replace HB := Lib.hid (bw_trans HB.out hb2)
  clear hb2
  obtain ⟨w2, hV⟩ : ∃ w2, w2 = V := ⟨_, rfl⟩
  subst hV
  have kk := PB.cells
  obtain ⟨k0, k1, k2⟩ := kk
  have kk := FB.cells
  obtain ⟨c0, c1, c2, c3, c4, c5, c6⟩ := kk
  have kk := MB.cells
  obtain ⟨m0, m1, m2⟩ := kk
  have kk := XB.cells
  obtain ⟨x0, x1, x2⟩ := kk
  have kk := YB.cells
  obtain ⟨y0, y1, y2⟩ := kk
  have kk := AB.cells
  obtain ⟨g0, g1, g2, g3, g4, g5, g6⟩ := kk
  go_wp2_with fail
  have hpw := rout_w t n a len cap l d s ft p v ty pl vl w2 _ E4 hI hd'.out hs'.out hp'.out HO
  refine hpw.mono ?_
  clear hpw
  rintro e w2 ⟨rfl, hb⟩
  replace PB := PB.next hb
  replace FB := FB.next hb
  replace hI := hI.next hb
  replace MB := MB.next hb
  replace hJ := hJ.next hb
  replace XB := XB.next hb
  replace hJ2 := hJ2.next hb
  replace YB := YB.next hb
  replace AB := AB.next hb
  replace HB := Lib.hid (bw_trans HB.out hb)
  clear hb k0 k1 k2 c0 c1 c2 c3 c4 c5 c6 m0 m1 m2 x0 x1 x2 y0 y1 y2 g0 g1 g2 g3 g4 g5 g6
  simp only [Fr.val]
  obtain ⟨V, hV⟩ : ∃ V, V = w2.alloc (.cells #[.string od, .string os, .bool ot, .int .i64 op, .int .i64 ov, .int .i64 oy, .string opl] 26) := ⟨_, rfl⟩
  have hb2 := below_box w2 (.cells #[.string od, .string os, .bool ot, .int .i64 op, .int .i64 ov, .int .i64 oy, .string opl] 26)
  have OB := blk_new w2 od os ot op ov oy opl
  rw [← hV] at hb2 OB
  go_upto_region 14 with (fail)
  rw [← hV]
  obtain ⟨bOB, hbx⟩ : ∃ b, b = w2.heap.size := ⟨_, rfl⟩
  rw [← hbx] at OB ⊢
  clear hV hbx
  replace PB := PB.next hb2
  replace FB := FB.next hb2
  replace hI := hI.next hb2
  replace MB := MB.next hb2
  replace hJ := hJ.next hb2
  replace XB := XB.next hb2
  replace hJ2 := hJ2.next hb2
  replace YB := YB.next hb2
  replace AB := AB.next hb2
  replace HB := Lib.hid (bw_trans HB.out hb2)
  clear hb2
  obtain ⟨w2, hV⟩ : ∃ w2, w2 = V := ⟨_, rfl⟩
  subst hV
  have A0 : Alls w2 b bMB bXB bYB bAB bOB t n a len cap l xt xn a1 len1 cap1 a2 len2 cap2 xl od os ot op ov oy opl := ⟨PB, MB, XB, YB, AB, OB, hI, hJ, hJ2⟩
  have S0 := A0.cells
  have A1 := Lib.hid (show Alls w2.drew b bMB bXB bYB bAB bOB t n a len cap l xt xn a1 len1 cap1 a2 len2 cap2 xl od os ot op ov oy opl from A0.next ((Below.refl _ _).drew))
  have HB1 := Lib.hid (show Below w.heap.size w w2.drew from HB.out.drew)
  have C1 := Lib.hid (right_w t n a len cap l w2.drew RP A1.out.i HR)
  have hFE : ∀ w', Sem.run Try.prog (binOp .eql 26 (fv od os ot op ov oy opl) (fv od os ot op ov oy opl)) w' = .ok (.bool true) w' := fun w' => by rw [run_frEq, frEq_self]
  clear A0 PB MB XB YB AB OB hI hJ hJ2 FB HP HQ HN HO HF HB hg hg2
  go_region_held3 (fun w' => (w'.cell? ⟨b, 0, none⟩ = some (.bool t) ∧ w'.cell? ⟨b, 1, none⟩ = some (.int .i64 n) ∧ w'.cell? ⟨b, 2, none⟩ = some (.slice a len cap)) ∧ (w'.cell? ⟨bMB, 0, none⟩ = some (.bool t) ∧ w'.cell? ⟨bMB, 1, none⟩ = some (.int .i64 n) ∧ w'.cell? ⟨bMB, 2, none⟩ = some (.slice a len cap)) ∧ (w'.cell? ⟨bXB, 0, none⟩ = some (.bool xt) ∧ w'.cell? ⟨bXB, 1, none⟩ = some (.int .i64 xn) ∧ w'.cell? ⟨bXB, 2, none⟩ = some (.slice a1 len1 cap1)) ∧ (w'.cell? ⟨bYB, 0, none⟩ = some (.bool xt) ∧ w'.cell? ⟨bYB, 1, none⟩ = some (.int .i64 xn) ∧ w'.cell? ⟨bYB, 2, none⟩ = some (.slice a2 len2 cap2)) ∧ (w'.cell? ⟨bAB, 0, none⟩ = some (.string od) ∧ w'.cell? ⟨bAB, 1, none⟩ = some (.string os) ∧ w'.cell? ⟨bAB, 2, none⟩ = some (.bool ot) ∧ w'.cell? ⟨bAB, 3, none⟩ = some (.int .i64 op) ∧ w'.cell? ⟨bAB, 4, none⟩ = some (.int .i64 ov) ∧ w'.cell? ⟨bAB, 5, none⟩ = some (.int .i64 oy) ∧ w'.cell? ⟨bAB, 6, none⟩ = some (.string opl)) ∧ (w'.cell? ⟨bOB, 0, none⟩ = some (.string od) ∧ w'.cell? ⟨bOB, 1, none⟩ = some (.string os) ∧ w'.cell? ⟨bOB, 2, none⟩ = some (.bool ot) ∧ w'.cell? ⟨bOB, 3, none⟩ = some (.int .i64 op) ∧ w'.cell? ⟨bOB, 4, none⟩ = some (.int .i64 ov) ∧ w'.cell? ⟨bOB, 5, none⟩ = some (.int .i64 oy) ∧ w'.cell? ⟨bOB, 6, none⟩ = some (.string opl))) (first | exact S0 | exact T2 | exact T3 | exact T4 | exact T5 | exact T6) (first
    | (go_at_call 15; (with_reducible refine C1.out.mono ?_); rintro e y2 ⟨rfl, hb⟩; have A2 := Lib.hid (A1.out.next hb); have T2 := A2.out.cells; have HB2 := Lib.hid (bw_trans HB1.out hb); have C2 := Lib.hid (rright_w t n a len cap l y2 RP A2.out.i HR); clear hb)
    | (go_at_call 16; (with_reducible refine C2.out.mono ?_); rintro e y3 ⟨rfl, hb⟩; have A3 := Lib.hid (A2.out.next hb); have T3 := A3.out.cells; have HB3 := Lib.hid (bw_trans HB2.out hb); have C3 := Lib.hid (has_w t n a len cap l vl y3 RH A3.out.i HH); clear hb)
    | (go_at_call 17; (with_reducible refine C3.out.mono ?_); rintro e y4 ⟨rfl, hb⟩; have A4 := Lib.hid (A3.out.next hb); have T4 := A4.out.cells; have HB4 := Lib.hid (bw_trans HB3.out hb); have C4 := Lib.hid (rhas_w t n a len cap l vl y4 RH A4.out.i HH); clear hb)
    | (go_at_call 18; (with_reducible refine C4.out.mono ?_); rintro e y5 ⟨rfl, hb⟩; have A5 := Lib.hid (A4.out.next hb); have T5 := A5.out.cells; have HB5 := Lib.hid (bw_trans HB4.out hb); have C5 := Lib.hid (same_any xt xn a1 a2 len1 len2 cap1 cap2 xl y5 A5.out.j A5.out.j2); clear hb)
    | (go_at_call 19; (with_reducible refine C5.out.mono ?_); rintro e y6 ⟨rfl, hb⟩; have A6 := Lib.hid (A5.out.next hb); have T6 := A6.out.cells; have HB6 := Lib.hid (bw_trans HB5.out hb);  clear hb))
  all_goals go_wp2_with fail
  all_goals go_ret
  all_goals exact ⟨rfl, HB6.out⟩

theorem tells_any (t : Bool) (n : Int) (a : Option Addr) (len cap : Nat) (l : List Int) (z d s : ByteArray) (ft : Bool) (p v ty : Int) (pl : ByteArray) (vl : Int) (w : World) (h : IsRow w a len l) (hz : z.size ≤ maxLen) (hd : d.size ≤ maxLen) (hs : s.size ≤ maxLen) (hp : pl.size ≤ maxLen) :
    Calls Try.prog 3 #[pv t n a len cap, .string z, fv d s ft p v ty pl, .int .i64 vl] w fun e w' => e = .returned (.bool true) ∧ Below w.heap.size w w' := by
  by_cases h1 : 40 < len
  · exact tells_big t n a len cap l z d s ft p v ty pl vl w h hz hd hs hp h1
  · by_cases h2 : 200 < z.size
    · exact tells_long t n a len cap l z d s ft p v ty pl vl w h hz hd hs hp ⟨by omega, h2⟩
    · cases h3 : fewB ⟨d, s, ft, p, v, ty, pl⟩ with
      | false => exact tells_many t n a len cap l z d s ft p v ty pl vl w h hz hd hs hp ⟨by omega, by omega, h3⟩
      | true => exact tells_small t n a len cap l z d s ft p v ty pl vl w h hz hd hs hp (by omega) (by omega) h3
end Go.Proofs.Ytjabbbaiboaicaa
