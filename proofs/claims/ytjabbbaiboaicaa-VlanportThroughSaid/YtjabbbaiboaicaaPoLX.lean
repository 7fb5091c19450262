/-
  The walk of VlanportThrough. (Printed by gen_px.py.)
-/
import Derived.Test.YtjabbbaiboaicaaPoD
import Derived.Test.YtjabbbaiboaicaaPoK
namespace Go.Proofs.Ytjabbbaiboaicaa
set_option linter.unusedVariables false
set_option linter.unusedSimpArgs false
open Go.RowKit Fm Pm

theorem has_port {t : Bool} {n : Int} {l : List Int} {v : Int} (h : hasB ⟨t, n, l⟩ v = true) : portB ⟨t, n, l⟩ = true := by
  unfold hasB at h
  rw [Bool.and_eq_true] at h
  exact h.1
theorem has_other {t : Bool} {n : Int} {l : List Int} {v : Int} (h : hasB ⟨t, n, l⟩ v = true) (hv : ¬ v = n) : t = true := by
  cases t with
  | true => rfl
  | false =>
    unfold hasB at h
    rw [Bool.and_eq_true] at h
    simp at h
    exact absurd h.2 hv
theorem right_bare {d s : ByteArray} {t : Bool} {p v ty : Int} {pl : ByteArray} (h : rightB ⟨d, s, t, p, v, ty, pl⟩ = true) : rightB ⟨d, s, false, 0, 0, ty, pl⟩ = true := by
  rw [right_iff] at h ⊢
  obtain ⟨h1, h2, h3, h4, h5, h6⟩ := h
  exact ⟨h1, h2, h3, by omega, .inr ⟨rfl, rfl⟩, h6⟩
theorem right_tag {d s : ByteArray} {t : Bool} {p v ty : Int} {pl : ByteArray} {vl : Int} (h : rightB ⟨d, s, t, p, v, ty, pl⟩ = true) (h0 : 1 ≤ vl ∧ vl ≤ 4094) : rightB ⟨d, s, true, p, vl, ty, pl⟩ = true := by
  rw [right_iff] at h ⊢
  obtain ⟨h1, h2, h3, h4, h5, h6⟩ := h
  exact ⟨h1, h2, h3, by omega, .inl rfl, h6⟩
/-- What comes of a frame that is to go out. -/
theorem out_cases (t : Bool) (n : Int) (l : List Int) (d s : ByteArray) (ft : Bool) (p v ty : Int) (pl : ByteArray) (vl : Int) :
    outP ⟨t, n, l⟩ ⟨d, s, ft, p, v, ty, pl⟩ vl = (zero, 2) ∨ (outP ⟨t, n, l⟩ ⟨d, s, ft, p, v, ty, pl⟩ vl = (zero, 5) ∧ hasB ⟨t, n, l⟩ vl = false) ∨
    (hasB ⟨t, n, l⟩ vl = true ∧ rightB ⟨d, s, ft, p, v, ty, pl⟩ = true ∧ ((vl = n ∧ outP ⟨t, n, l⟩ ⟨d, s, ft, p, v, ty, pl⟩ vl = (⟨d, s, false, 0, 0, ty, pl⟩, 0)) ∨ (¬ vl = n ∧ outP ⟨t, n, l⟩ ⟨d, s, ft, p, v, ty, pl⟩ vl = (⟨d, s, true, p, vl, ty, pl⟩, 0)))) := by
  unfold outP
  cases h1 : portB ⟨t, n, l⟩ && rightB ⟨d, s, ft, p, v, ty, pl⟩ with
  | false => left; rfl
  | true =>
    right
    rw [Bool.and_eq_true] at h1
    cases h2 : hasB ⟨t, n, l⟩ vl with
    | false => left; exact ⟨rfl, rfl⟩
    | true =>
      right
      refine ⟨rfl, h1.2, ?_⟩
      by_cases hv : vl = n
      · left; refine ⟨hv, ?_⟩; rw [if_pos rfl, if_pos rfl, if_pos hv]
      · right; refine ⟨hv, ?_⟩; rw [if_pos rfl, if_pos rfl, if_neg hv]
theorem in_bare {t : Bool} {n : Int} {l : List Int} {d s : ByteArray} {ty : Int} {pl : ByteArray} (hp : portB ⟨t, n, l⟩ = true) (hr : rightB ⟨d, s, false, 0, 0, ty, pl⟩ = true) : inP ⟨t, n, l⟩ ⟨d, s, false, 0, 0, ty, pl⟩ = if hasB ⟨t, n, l⟩ n then (n, 0) else (0, 5) := by
  unfold inP
  rw [hp, hr]; rfl
theorem in_tag {n : Int} {l : List Int} {d s : ByteArray} {p ty : Int} {pl : ByteArray} {vl : Int} (hh : hasB ⟨true, n, l⟩ vl = true) (hr : rightB ⟨d, s, true, p, vl, ty, pl⟩ = true) : inP ⟨true, n, l⟩ ⟨d, s, true, p, vl, ty, pl⟩ = (vl, 0) := by
  unfold inP
  have h0 := has_vlan hh
  rw [has_port hh, hr]
  show (if vl = 0 then _ else _) = _
  rw [if_neg (by omega), if_pos rfl, if_pos hh]
/-- A copy of a set-up, with another native VLAN. -/
theorem copied (w : World) (t : Bool) (m : Int) (a : Option Addr) (len cap : Nat) : ∃ W : World, W = w.alloc (.cells #[.bool t, .int .i64 m, .slice a len cap] 24) ∧ PBlk 24 W w.heap.size t m a len cap ∧ Below w.heap.size w W :=
  ⟨_, rfl, pblk_new _ w t m a len cap, below_box w _⟩

set_option maxHeartbeats 1000000 in
set_option maxRecDepth 100000 in
theorem through_big (t : Bool) (n : Int) (a : Option Addr) (len cap : Nat) (l : List Int) (d s : ByteArray) (ft : Bool) (p v ty : Int) (pl : ByteArray) (vl nat : Int) (w : World) (h : IsRow w a len l) (hd : d.size ≤ maxLen) (hs : s.size ≤ maxLen) (hp : pl.size ≤ maxLen) (hc : 40 < len) :
    Calls Try.prog 4 #[pv t n a len cap, fv d s ft p v ty pl, .int .i64 vl, .int .i64 nat] w fun e w' => e = .returned (.bool true) ∧ Below w.heap.size w w' := by
  have hbd := h.bound
  have hd' := Lib.hid hd; have hs' := Lib.hid hs; have hp' := Lib.hid hp; clear hd hs hp
  unfold maxLen at hbd
  obtain ⟨W, hW, PB, FB, hI, BB⟩ := two_boxes 24 w t n a len cap l d s ft p v ty pl h
  clear h
  go_enter Try.func4, Try.ntmps4
  go_upto_region 1 with (fail)
  rw [← hW]
  obtain ⟨b, hb⟩ : ∃ b, b = w.heap.size := ⟨_, rfl⟩
  rw [← hb] at PB FB ⊢
  have HB := Lib.hid BB
  clear hW hb BB
  go_wp2_with fail
  have hpw := awake_any W
  refine hpw.mono ?_
  clear hpw
  rintro e w2 ⟨rfl, hb⟩
  replace PB := PB.next hb
  replace FB := FB.next hb
  replace hI := hI.next hb
  replace HB := Lib.hid (bw_trans HB.out hb)
  clear hb 
  have kk := PB.cells
  obtain ⟨k0, k1, k2⟩ := kk
  have kk := FB.cells
  obtain ⟨c0, c1, c2, c3, c4, c5, c6⟩ := kk
  have hg : decide ((len : Int) > 40) = true := by simp; omega
  clear PB FB hI
  go_wp2
  go_ret
  exact ⟨rfl, HB.out⟩

set_option maxHeartbeats 1000000 in
set_option maxRecDepth 100000 in
theorem through_many (t : Bool) (n : Int) (a : Option Addr) (len cap : Nat) (l : List Int) (d s : ByteArray) (ft : Bool) (p v ty : Int) (pl : ByteArray) (vl nat : Int) (w : World) (h : IsRow w a len l) (hd : d.size ≤ maxLen) (hs : s.size ≤ maxLen) (hp : pl.size ≤ maxLen) (h4 : len ≤ 40) (hc : fewB ⟨d, s, ft, p, v, ty, pl⟩ = false) :
    Calls Try.prog 4 #[pv t n a len cap, fv d s ft p v ty pl, .int .i64 vl, .int .i64 nat] w fun e w' => e = .returned (.bool true) ∧ Below w.heap.size w w' := by
  have hbd := h.bound
  have hd' := Lib.hid hd; have hs' := Lib.hid hs; have hp' := Lib.hid hp; clear hd hs hp
  unfold maxLen at hbd
  have hg : decide ((len : Int) > 40) = false := by simp; omega
  have HF := Lib.hid hc; clear hc
  obtain ⟨W, hW, PB, FB, hI, BB⟩ := two_boxes 24 w t n a len cap l d s ft p v ty pl h
  clear h
  go_enter Try.func4, Try.ntmps4
  go_upto_region 1 with (fail)
  rw [← hW]
  obtain ⟨b, hb⟩ : ∃ b, b = w.heap.size := ⟨_, rfl⟩
  rw [← hb] at PB FB ⊢
  have HB := Lib.hid BB
  clear hW hb BB
  go_wp2_with fail
  have hpw := awake_any W
  refine hpw.mono ?_
  clear hpw
  rintro e w2 ⟨rfl, hb⟩
  replace PB := PB.next hb
  replace FB := FB.next hb
  replace hI := hI.next hb
  replace HB := Lib.hid (bw_trans HB.out hb)
  clear hb 
  have kk := PB.cells
  obtain ⟨k0, k1, k2⟩ := kk
  have kk := FB.cells
  obtain ⟨c0, c1, c2, c3, c4, c5, c6⟩ := kk
  go_wp2_with fail
  have hpw := few_any d s ft p v ty pl w2 hd'.out hs'.out hp'.out
  refine hpw.mono ?_
  clear hpw
  rintro e w2 ⟨rfl, hb⟩
  rw [HF.out]
  replace PB := PB.next hb
  replace FB := FB.next hb
  replace hI := hI.next hb
  replace HB := Lib.hid (bw_trans HB.out hb)
  clear hb k0 k1 k2 c0 c1 c2 c3 c4 c5 c6
  have kk := PB.cells
  obtain ⟨k0, k1, k2⟩ := kk
  have kk := FB.cells
  obtain ⟨c0, c1, c2, c3, c4, c5, c6⟩ := kk
  clear PB FB hI
  go_wp2
  go_ret
  exact ⟨rfl, HB.out⟩

set_option maxHeartbeats 1000000 in
set_option maxRecDepth 100000 in
theorem through_e2 (t : Bool) (n : Int) (a : Option Addr) (len cap : Nat) (l : List Int) (d s : ByteArray) (ft : Bool) (p v ty : Int) (pl : ByteArray) (vl nat : Int) (w : World) (h : IsRow w a len l) (hd : d.size ≤ maxLen) (hs : s.size ≤ maxLen) (hp : pl.size ≤ maxLen) (h4 : len ≤ 40) (hc : fewB ⟨d, s, ft, p, v, ty, pl⟩ = true) (hO : Hid (outP ⟨t, n, l⟩ ⟨d, s, ft, p, v, ty, pl⟩ vl = (zero, 2))) :
    Calls Try.prog 4 #[pv t n a len cap, fv d s ft p v ty pl, .int .i64 vl, .int .i64 nat] w fun e w' => e = .returned (.bool true) ∧ Below w.heap.size w w' := by
  have hbd := h.bound
  have hd' := Lib.hid hd; have hs' := Lib.hid hs; have hp' := Lib.hid hp; clear hd hs hp
  unfold maxLen at hbd
  have hFE : ∀ w', Sem.run Try.prog (binOp .eql 26 (fv ⟨#[]⟩ ⟨#[]⟩ false 0 0 0 ⟨#[]⟩) (fv ⟨#[]⟩ ⟨#[]⟩ false 0 0 0 ⟨#[]⟩)) w' = .ok (.bool true) w' := fun w' => by rw [run_frEq, frEq_self]
  have hg : decide ((len : Int) > 40) = false := by simp; omega
  have HF := Lib.hid hc; clear hc
  obtain ⟨W, hW, PB, FB, hI, BB⟩ := two_boxes 24 w t n a len cap l d s ft p v ty pl h
  clear h
  go_enter Try.func4, Try.ntmps4
  go_upto_region 1 with (fail)
  rw [← hW]
  obtain ⟨b, hb⟩ : ∃ b, b = w.heap.size := ⟨_, rfl⟩
  rw [← hb] at PB FB ⊢
  have HB := Lib.hid BB
  clear hW hb BB
  go_wp2_with fail
  have hpw := awake_any W
  refine hpw.mono ?_
  clear hpw
  rintro e w2 ⟨rfl, hb⟩
  replace PB := PB.next hb
  replace FB := FB.next hb
  replace hI := hI.next hb
  replace HB := Lib.hid (bw_trans HB.out hb)
  clear hb 
  have kk := PB.cells
  obtain ⟨k0, k1, k2⟩ := kk
  have kk := FB.cells
  obtain ⟨c0, c1, c2, c3, c4, c5, c6⟩ := kk
  go_wp2_with fail
  have hpw := few_any d s ft p v ty pl w2 hd'.out hs'.out hp'.out
  refine hpw.mono ?_
  clear hpw
  rintro e w2 ⟨rfl, hb⟩
  rw [HF.out]
  replace PB := PB.next hb
  replace FB := FB.next hb
  replace hI := hI.next hb
  replace HB := Lib.hid (bw_trans HB.out hb)
  clear hb k0 k1 k2 c0 c1 c2 c3 c4 c5 c6
  have kk := PB.cells
  obtain ⟨k0, k1, k2⟩ := kk
  have kk := FB.cells
  obtain ⟨c0, c1, c2, c3, c4, c5, c6⟩ := kk
  go_wp2_with fail
  have hpw := out_w t n a len cap l d s ft p v ty pl vl w2 zero 2 hI hd'.out hs'.out hp'.out hO
  refine hpw.mono ?_
  clear hpw
  rintro e w2 ⟨rfl, hb⟩
  replace PB := PB.next hb
  replace FB := FB.next hb
  replace hI := hI.next hb
  replace HB := Lib.hid (bw_trans HB.out hb)
  clear hb k0 k1 k2 c0 c1 c2 c3 c4 c5 c6
  simp only [Fr.val, zero]
  obtain ⟨V, hV⟩ : ∃ V, V = w2.alloc (.cells #[.string ⟨#[]⟩, .string ⟨#[]⟩, .bool false, .int .i64 0, .int .i64 0, .int .i64 0, .string ⟨#[]⟩] 26) := ⟨_, rfl⟩
  have hb2 := below_box w2 (.cells #[.string ⟨#[]⟩, .string ⟨#[]⟩, .bool false, .int .i64 0, .int .i64 0, .int .i64 0, .string ⟨#[]⟩] 26)
  have OB := blk_new w2 ⟨#[]⟩ ⟨#[]⟩ false 0 0 0 ⟨#[]⟩
  rw [← hV] at hb2 OB
  go_upto_region 6 with (fail)
  rw [← hV]
  obtain ⟨bOB, hbx⟩ : ∃ b, b = w2.heap.size := ⟨_, rfl⟩
  rw [← hbx] at OB ⊢
  clear hV hbx
  replace PB := PB.next hb2
  replace FB := FB.next hb2
  replace hI := hI.next hb2
  replace HB := Lib.hid (bw_trans HB.out hb2)
  clear hb2
  obtain ⟨w2, hV⟩ : ∃ w2, w2 = V := ⟨_, rfl⟩
  subst hV
  have kk := PB.cells
  obtain ⟨k0, k1, k2⟩ := kk
  have kk := FB.cells
  obtain ⟨c0, c1, c2, c3, c4, c5, c6⟩ := kk
  have kk := OB.cells
  obtain ⟨g0, g1, g2, g3, g4, g5, g6⟩ := kk
  clear PB FB OB hI
  go_wp2
  go_ret
  exact ⟨rfl, HB.out⟩

set_option maxHeartbeats 1000000 in
set_option maxRecDepth 100000 in
theorem through_e5 (t : Bool) (n : Int) (a : Option Addr) (len cap : Nat) (l : List Int) (d s : ByteArray) (ft : Bool) (p v ty : Int) (pl : ByteArray) (vl nat : Int) (w : World) (h : IsRow w a len l) (hd : d.size ≤ maxLen) (hs : s.size ≤ maxLen) (hp : pl.size ≤ maxLen) (h4 : len ≤ 40) (hc : fewB ⟨d, s, ft, p, v, ty, pl⟩ = true) (hO : Hid (outP ⟨t, n, l⟩ ⟨d, s, ft, p, v, ty, pl⟩ vl = (zero, 5))) (hH : Hid (hasB ⟨t, n, l⟩ vl = false)) :
    Calls Try.prog 4 #[pv t n a len cap, fv d s ft p v ty pl, .int .i64 vl, .int .i64 nat] w fun e w' => e = .returned (.bool true) ∧ Below w.heap.size w w' := by
  have hbd := h.bound
  have hd' := Lib.hid hd; have hs' := Lib.hid hs; have hp' := Lib.hid hp; clear hd hs hp
  unfold maxLen at hbd
  have hFE : ∀ w', Sem.run Try.prog (binOp .eql 26 (fv ⟨#[]⟩ ⟨#[]⟩ false 0 0 0 ⟨#[]⟩) (fv ⟨#[]⟩ ⟨#[]⟩ false 0 0 0 ⟨#[]⟩)) w' = .ok (.bool true) w' := fun w' => by rw [run_frEq, frEq_self]
  have hg : decide ((len : Int) > 40) = false := by simp; omega
  have HF := Lib.hid hc; clear hc
  obtain ⟨W, hW, PB, FB, hI, BB⟩ := two_boxes 24 w t n a len cap l d s ft p v ty pl h
  clear h
  go_enter Try.func4, Try.ntmps4
  go_upto_region 1 with (fail)
  rw [← hW]
  obtain ⟨b, hb⟩ : ∃ b, b = w.heap.size := ⟨_, rfl⟩
  rw [← hb] at PB FB ⊢
  have HB := Lib.hid BB
  clear hW hb BB
  go_wp2_with fail
  have hpw := awake_any W
  refine hpw.mono ?_
  clear hpw
  rintro e w2 ⟨rfl, hb⟩
  replace PB := PB.next hb
  replace FB := FB.next hb
  replace hI := hI.next hb
  replace HB := Lib.hid (bw_trans HB.out hb)
  clear hb 
  have kk := PB.cells
  obtain ⟨k0, k1, k2⟩ := kk
  have kk := FB.cells
  obtain ⟨c0, c1, c2, c3, c4, c5, c6⟩ := kk
  go_wp2_with fail
  have hpw := few_any d s ft p v ty pl w2 hd'.out hs'.out hp'.out
  refine hpw.mono ?_
  clear hpw
  rintro e w2 ⟨rfl, hb⟩
  rw [HF.out]
  replace PB := PB.next hb
  replace FB := FB.next hb
  replace hI := hI.next hb
  replace HB := Lib.hid (bw_trans HB.out hb)
  clear hb k0 k1 k2 c0 c1 c2 c3 c4 c5 c6
  have kk := PB.cells
  obtain ⟨k0, k1, k2⟩ := kk
  have kk := FB.cells
  obtain ⟨c0, c1, c2, c3, c4, c5, c6⟩ := kk
  go_wp2_with fail
  have hpw := out_w t n a len cap l d s ft p v ty pl vl w2 zero 5 hI hd'.out hs'.out hp'.out hO
  refine hpw.mono ?_
  clear hpw
  rintro e w2 ⟨rfl, hb⟩
  replace PB := PB.next hb
  replace FB := FB.next hb
  replace hI := hI.next hb
  replace HB := Lib.hid (bw_trans HB.out hb)
  clear hb k0 k1 k2 c0 c1 c2 c3 c4 c5 c6
  simp only [Fr.val, zero]
  obtain ⟨V, hV⟩ : ∃ V, V = w2.alloc (.cells #[.string ⟨#[]⟩, .string ⟨#[]⟩, .bool false, .int .i64 0, .int .i64 0, .int .i64 0, .string ⟨#[]⟩] 26) := ⟨_, rfl⟩
  have hb2 := below_box w2 (.cells #[.string ⟨#[]⟩, .string ⟨#[]⟩, .bool false, .int .i64 0, .int .i64 0, .int .i64 0, .string ⟨#[]⟩] 26)
  have OB := blk_new w2 ⟨#[]⟩ ⟨#[]⟩ false 0 0 0 ⟨#[]⟩
  rw [← hV] at hb2 OB
  go_upto_region 6 with (fail)
  rw [← hV]
  obtain ⟨bOB, hbx⟩ : ∃ b, b = w2.heap.size := ⟨_, rfl⟩
  rw [← hbx] at OB ⊢
  clear hV hbx
  replace PB := PB.next hb2
  replace FB := FB.next hb2
  replace hI := hI.next hb2
  replace HB := Lib.hid (bw_trans HB.out hb2)
  clear hb2
  obtain ⟨w2, hV⟩ : ∃ w2, w2 = V := ⟨_, rfl⟩
  subst hV
  have kk := PB.cells
  obtain ⟨k0, k1, k2⟩ := kk
  have kk := FB.cells
  obtain ⟨c0, c1, c2, c3, c4, c5, c6⟩ := kk
  have kk := OB.cells
  obtain ⟨g0, g1, g2, g3, g4, g5, g6⟩ := kk
  go_wp2_with fail
  have hpw := has_any t n a len cap l vl w2 hI
  refine hpw.mono ?_
  clear hpw
  rintro e w2 ⟨rfl, hb⟩
  rw [hH.out]
  replace PB := PB.next hb
  replace FB := FB.next hb
  replace hI := hI.next hb
  replace OB := OB.next hb
  replace HB := Lib.hid (bw_trans HB.out hb)
  clear hb k0 k1 k2 c0 c1 c2 c3 c4 c5 c6 g0 g1 g2 g3 g4 g5 g6
  go_wp2
  go_ret
  exact ⟨rfl, HB.out⟩

set_option maxHeartbeats 1000000 in
set_option maxRecDepth 100000 in
theorem through_other (n : Int) (a : Option Addr) (len cap : Nat) (l : List Int) (d s : ByteArray) (ft : Bool) (p v ty : Int) (pl : ByteArray) (vl nat : Int) (w : World) (h : IsRow w a len l) (hd : d.size ≤ maxLen) (hs : s.size ≤ maxLen) (hp : pl.size ≤ maxLen) (h4 : len ≤ 40) (hc : fewB ⟨d, s, ft, p, v, ty, pl⟩ = true) (hR : Hid (rightB ⟨d, s, ft, p, v, ty, pl⟩ = true)) (hH : Hid (hasB ⟨true, n, l⟩ vl = true)) (hv : ¬ vl = n) (hO : Hid (outP ⟨true, n, l⟩ ⟨d, s, ft, p, v, ty, pl⟩ vl = (⟨d, s, true, p, vl, ty, pl⟩, 0))) :
    Calls Try.prog 4 #[pv true n a len cap, fv d s ft p v ty pl, .int .i64 vl, .int .i64 nat] w fun e w' => e = .returned (.bool true) ∧ Below w.heap.size w w' := by
  have hbd := h.bound
  have hd' := Lib.hid hd; have hs' := Lib.hid hs; have hp' := Lib.hid hp; clear hd hs hp
  unfold maxLen at hbd
  have hv0 : (vl == n) = false := by simpa using hv
  have hv1 : (vl != n) = true := by simpa using hv
  have hin : Hid (inP ⟨true, n, l⟩ ⟨d, s, true, p, vl, ty, pl⟩ = (vl, 0)) := by
    refine Lib.hid ?_
    exact in_tag hH.out (right_tag hR.out (has_vlan hH.out))
  have hRo : Hid (rightB ⟨d, s, true, p, vl, ty, pl⟩ = true) := Lib.hid (right_tag hR.out (has_vlan hH.out))
  have hg : decide ((len : Int) > 40) = false := by simp; omega
  have HF := Lib.hid hc; clear hc
  obtain ⟨W, hW, PB, FB, hI, BB⟩ := two_boxes 24 w true n a len cap l d s ft p v ty pl h
  clear h
  go_enter Try.func4, Try.ntmps4
  go_upto_region 1 with (fail)
  rw [← hW]
  obtain ⟨b, hb⟩ : ∃ b, b = w.heap.size := ⟨_, rfl⟩
  rw [← hb] at PB FB ⊢
  have HB := Lib.hid BB
  clear hW hb BB
  go_wp2_with fail
  have hpw := awake_any W
  refine hpw.mono ?_
  clear hpw
  rintro e w2 ⟨rfl, hb⟩
  replace PB := PB.next hb
  replace FB := FB.next hb
  replace hI := hI.next hb
  replace HB := Lib.hid (bw_trans HB.out hb)
  clear hb 
  have kk := PB.cells
  obtain ⟨k0, k1, k2⟩ := kk
  have kk := FB.cells
  obtain ⟨c0, c1, c2, c3, c4, c5, c6⟩ := kk
  go_wp2_with fail
  have hpw := few_any d s ft p v ty pl w2 hd'.out hs'.out hp'.out
  refine hpw.mono ?_
  clear hpw
  rintro e w2 ⟨rfl, hb⟩
  rw [HF.out]
  replace PB := PB.next hb
  replace FB := FB.next hb
  replace hI := hI.next hb
  replace HB := Lib.hid (bw_trans HB.out hb)
  clear hb k0 k1 k2 c0 c1 c2 c3 c4 c5 c6
  have kk := PB.cells
  obtain ⟨k0, k1, k2⟩ := kk
  have kk := FB.cells
  obtain ⟨c0, c1, c2, c3, c4, c5, c6⟩ := kk
  go_wp2_with fail
  have hpw := out_w true n a len cap l d s ft p v ty pl vl w2 _ 0 hI hd'.out hs'.out hp'.out hO
  refine hpw.mono ?_
  clear hpw
  rintro e w2 ⟨rfl, hb⟩
  replace PB := PB.next hb
  replace FB := FB.next hb
  replace hI := hI.next hb
  replace HB := Lib.hid (bw_trans HB.out hb)
  clear hb k0 k1 k2 c0 c1 c2 c3 c4 c5 c6
  simp only [Fr.val]
  obtain ⟨V, hV⟩ : ∃ V, V = w2.alloc (.cells #[.string d, .string s, .bool true, .int .i64 p, .int .i64 vl, .int .i64 ty, .string pl] 26) := ⟨_, rfl⟩
  have hb2 := below_box w2 (.cells #[.string d, .string s, .bool true, .int .i64 p, .int .i64 vl, .int .i64 ty, .string pl] 26)
  have OB := blk_new w2 d s true p vl ty pl
  rw [← hV] at hb2 OB
  go_upto_region 6 with (fail)
  rw [← hV]
  obtain ⟨bOB, hbx⟩ : ∃ b, b = w2.heap.size := ⟨_, rfl⟩
  rw [← hbx] at OB ⊢
  clear hV hbx
  replace PB := PB.next hb2
  replace FB := FB.next hb2
  replace hI := hI.next hb2
  replace HB := Lib.hid (bw_trans HB.out hb2)
  clear hb2
  obtain ⟨w2, hV⟩ : ∃ w2, w2 = V := ⟨_, rfl⟩
  subst hV
  have kk := PB.cells
  obtain ⟨k0, k1, k2⟩ := kk
  have kk := FB.cells
  obtain ⟨c0, c1, c2, c3, c4, c5, c6⟩ := kk
  have kk := OB.cells
  obtain ⟨g0, g1, g2, g3, g4, g5, g6⟩ := kk
  go_wp2_with fail
  have hpw := in_w true n a len cap l d s true p vl ty pl w2 vl 0 hI hd'.out hs'.out hp'.out hin
  refine hpw.mono ?_
  clear hpw
  rintro e w2 ⟨rfl, hb⟩
  replace PB := PB.next hb
  replace FB := FB.next hb
  replace hI := hI.next hb
  replace OB := OB.next hb
  replace HB := Lib.hid (bw_trans HB.out hb)
  clear hb k0 k1 k2 c0 c1 c2 c3 c4 c5 c6 g0 g1 g2 g3 g4 g5 g6
  have kk := PB.cells
  obtain ⟨k0, k1, k2⟩ := kk
  have kk := FB.cells
  obtain ⟨c0, c1, c2, c3, c4, c5, c6⟩ := kk
  have kk := OB.cells
  obtain ⟨g0, g1, g2, g3, g4, g5, g6⟩ := kk
  go_wp2_with fail
  have hpw := right_any d s true p vl ty pl w2 hd'.out hs'.out hp'.out
  refine hpw.mono ?_
  clear hpw
  rintro e w2 ⟨rfl, hb⟩
  rw [hRo.out]
  replace PB := PB.next hb
  replace FB := FB.next hb
  replace hI := hI.next hb
  replace OB := OB.next hb
  replace HB := Lib.hid (bw_trans HB.out hb)
  clear hb k0 k1 k2 c0 c1 c2 c3 c4 c5 c6 g0 g1 g2 g3 g4 g5 g6
  have kk := PB.cells
  obtain ⟨k0, k1, k2⟩ := kk
  have kk := FB.cells
  obtain ⟨c0, c1, c2, c3, c4, c5, c6⟩ := kk
  have kk := OB.cells
  obtain ⟨g0, g1, g2, g3, g4, g5, g6⟩ := kk
  obtain ⟨V, hV, QB, hb2⟩ := copied w2 true nat a len cap
  go_upto_region 13 with (fail)
  rw [← hV]
  obtain ⟨bQB, hbx⟩ : ∃ b, b = w2.heap.size := ⟨_, rfl⟩
  rw [← hbx] at QB ⊢
  clear hV hbx
  replace PB := PB.next hb2
  replace FB := FB.next hb2
  replace hI := hI.next hb2
  replace OB := OB.next hb2
  replace HB := Lib.hid (bw_trans HB.out hb2)
  clear hb2 k0 k1 k2 c0 c1 c2 c3 c4 c5 c6 g0 g1 g2 g3 g4 g5 g6
  obtain ⟨w2, hV⟩ : ∃ w2, w2 = V := ⟨_, rfl⟩
  subst hV
  have kk := PB.cells
  obtain ⟨k0, k1, k2⟩ := kk
  have kk := FB.cells
  obtain ⟨c0, c1, c2, c3, c4, c5, c6⟩ := kk
  have kk := OB.cells
  obtain ⟨g0, g1, g2, g3, g4, g5, g6⟩ := kk
  have kk := QB.cells
  obtain ⟨m0, m1, m2⟩ := kk
  obtain ⟨RQ, hRQ⟩ : ∃ r, portB ⟨true, nat, l⟩ = r := ⟨_, rfl⟩
  have HRQ := Lib.hid hRQ; clear hRQ
  go_wp2_with fail
  have hpw := portRight_any true nat a len cap l w2 hI
  refine hpw.mono ?_
  clear hpw
  rintro e w2 ⟨rfl, hb⟩
  rw [HRQ.out]
  replace PB := PB.next hb
  replace FB := FB.next hb
  replace hI := hI.next hb
  replace OB := OB.next hb
  replace QB := QB.next hb
  replace HB := Lib.hid (bw_trans HB.out hb)
  clear hb k0 k1 k2 c0 c1 c2 c3 c4 c5 c6 g0 g1 g2 g3 g4 g5 g6 m0 m1 m2
  have kk := PB.cells
  obtain ⟨k0, k1, k2⟩ := kk
  have kk := FB.cells
  obtain ⟨c0, c1, c2, c3, c4, c5, c6⟩ := kk
  have kk := OB.cells
  obtain ⟨g0, g1, g2, g3, g4, g5, g6⟩ := kk
  have kk := QB.cells
  obtain ⟨m0, m1, m2⟩ := kk
  clear PB FB OB QB hI hin hRo hO hH hR HRQ
  cases RQ
  all_goals go_wp2
  all_goals go_ret
  all_goals exact ⟨rfl, HB.out⟩

set_option maxHeartbeats 1000000 in
set_option maxRecDepth 100000 in
theorem through_access (n : Int) (a : Option Addr) (len cap : Nat) (l : List Int) (d s : ByteArray) (ft : Bool) (p v ty : Int) (pl : ByteArray) (vl nat : Int) (w : World) (h : IsRow w a len l) (hd : d.size ≤ maxLen) (hs : s.size ≤ maxLen) (hp : pl.size ≤ maxLen) (h4 : len ≤ 40) (hc : fewB ⟨d, s, ft, p, v, ty, pl⟩ = true) (hR : Hid (rightB ⟨d, s, ft, p, v, ty, pl⟩ = true)) (hH : Hid (hasB ⟨false, n, l⟩ vl = true)) (hv : vl = n) (hO : Hid (outP ⟨false, n, l⟩ ⟨d, s, ft, p, v, ty, pl⟩ vl = (⟨d, s, false, 0, 0, ty, pl⟩, 0))) :
    Calls Try.prog 4 #[pv false n a len cap, fv d s ft p v ty pl, .int .i64 vl, .int .i64 nat] w fun e w' => e = .returned (.bool true) ∧ Below w.heap.size w w' := by
  have hbd := h.bound
  have hd' := Lib.hid hd; have hs' := Lib.hid hs; have hp' := Lib.hid hp; clear hd hs hp
  unfold maxLen at hbd
  subst hv
  have hin : Hid (inP ⟨false, vl, l⟩ ⟨d, s, false, 0, 0, ty, pl⟩ = (vl, 0)) := by
    refine Lib.hid ?_
    rw [in_bare (has_port hH.out) (right_bare hR.out), if_pos hH.out]
  have hRo : Hid (rightB ⟨d, s, false, 0, 0, ty, pl⟩ = true) := Lib.hid (right_bare hR.out)
  have hg : decide ((len : Int) > 40) = false := by simp; omega
  have HF := Lib.hid hc; clear hc
  obtain ⟨W, hW, PB, FB, hI, BB⟩ := two_boxes 24 w false vl a len cap l d s ft p v ty pl h
  clear h
  go_enter Try.func4, Try.ntmps4
  go_upto_region 1 with (fail)
  rw [← hW]
  obtain ⟨b, hb⟩ : ∃ b, b = w.heap.size := ⟨_, rfl⟩
  rw [← hb] at PB FB ⊢
  have HB := Lib.hid BB
  clear hW hb BB
  go_wp2_with fail
  have hpw := awake_any W
  refine hpw.mono ?_
  clear hpw
  rintro e w2 ⟨rfl, hb⟩
  replace PB := PB.next hb
  replace FB := FB.next hb
  replace hI := hI.next hb
  replace HB := Lib.hid (bw_trans HB.out hb)
  clear hb 
  have kk := PB.cells
  obtain ⟨k0, k1, k2⟩ := kk
  have kk := FB.cells
  obtain ⟨c0, c1, c2, c3, c4, c5, c6⟩ := kk
  go_wp2_with fail
  have hpw := few_any d s ft p v ty pl w2 hd'.out hs'.out hp'.out
  refine hpw.mono ?_
  clear hpw
  rintro e w2 ⟨rfl, hb⟩
  rw [HF.out]
  replace PB := PB.next hb
  replace FB := FB.next hb
  replace hI := hI.next hb
  replace HB := Lib.hid (bw_trans HB.out hb)
  clear hb k0 k1 k2 c0 c1 c2 c3 c4 c5 c6
  have kk := PB.cells
  obtain ⟨k0, k1, k2⟩ := kk
  have kk := FB.cells
  obtain ⟨c0, c1, c2, c3, c4, c5, c6⟩ := kk
  go_wp2_with fail
  have hpw := out_w false vl a len cap l d s ft p v ty pl vl w2 _ 0 hI hd'.out hs'.out hp'.out hO
  refine hpw.mono ?_
  clear hpw
  rintro e w2 ⟨rfl, hb⟩
  replace PB := PB.next hb
  replace FB := FB.next hb
  replace hI := hI.next hb
  replace HB := Lib.hid (bw_trans HB.out hb)
  clear hb k0 k1 k2 c0 c1 c2 c3 c4 c5 c6
  simp only [Fr.val]
  obtain ⟨V, hV⟩ : ∃ V, V = w2.alloc (.cells #[.string d, .string s, .bool false, .int .i64 0, .int .i64 0, .int .i64 ty, .string pl] 26) := ⟨_, rfl⟩
  have hb2 := below_box w2 (.cells #[.string d, .string s, .bool false, .int .i64 0, .int .i64 0, .int .i64 ty, .string pl] 26)
  have OB := blk_new w2 d s false 0 0 ty pl
  rw [← hV] at hb2 OB
  go_upto_region 6 with (fail)
  rw [← hV]
  obtain ⟨bOB, hbx⟩ : ∃ b, b = w2.heap.size := ⟨_, rfl⟩
  rw [← hbx] at OB ⊢
  clear hV hbx
  replace PB := PB.next hb2
  replace FB := FB.next hb2
  replace hI := hI.next hb2
  replace HB := Lib.hid (bw_trans HB.out hb2)
  clear hb2
  obtain ⟨w2, hV⟩ : ∃ w2, w2 = V := ⟨_, rfl⟩
  subst hV
  have kk := PB.cells
  obtain ⟨k0, k1, k2⟩ := kk
  have kk := FB.cells
  obtain ⟨c0, c1, c2, c3, c4, c5, c6⟩ := kk
  have kk := OB.cells
  obtain ⟨g0, g1, g2, g3, g4, g5, g6⟩ := kk
  go_wp2_with fail
  have hpw := in_w false vl a len cap l d s false 0 0 ty pl w2 vl 0 hI hd'.out hs'.out hp'.out hin
  refine hpw.mono ?_
  clear hpw
  rintro e w2 ⟨rfl, hb⟩
  replace PB := PB.next hb
  replace FB := FB.next hb
  replace hI := hI.next hb
  replace OB := OB.next hb
  replace HB := Lib.hid (bw_trans HB.out hb)
  clear hb k0 k1 k2 c0 c1 c2 c3 c4 c5 c6 g0 g1 g2 g3 g4 g5 g6
  have kk := PB.cells
  obtain ⟨k0, k1, k2⟩ := kk
  have kk := FB.cells
  obtain ⟨c0, c1, c2, c3, c4, c5, c6⟩ := kk
  have kk := OB.cells
  obtain ⟨g0, g1, g2, g3, g4, g5, g6⟩ := kk
  go_wp2_with fail
  have hpw := right_any d s false 0 0 ty pl w2 hd'.out hs'.out hp'.out
  refine hpw.mono ?_
  clear hpw
  rintro e w2 ⟨rfl, hb⟩
  rw [hRo.out]
  replace PB := PB.next hb
  replace FB := FB.next hb
  replace hI := hI.next hb
  replace OB := OB.next hb
  replace HB := Lib.hid (bw_trans HB.out hb)
  clear hb k0 k1 k2 c0 c1 c2 c3 c4 c5 c6 g0 g1 g2 g3 g4 g5 g6
  have kk := PB.cells
  obtain ⟨k0, k1, k2⟩ := kk
  have kk := FB.cells
  obtain ⟨c0, c1, c2, c3, c4, c5, c6⟩ := kk
  have kk := OB.cells
  obtain ⟨g0, g1, g2, g3, g4, g5, g6⟩ := kk
  obtain ⟨V, hV, QB, hb2⟩ := copied w2 false nat a len cap
  go_upto_region 13 with (fail)
  rw [← hV]
  obtain ⟨bQB, hbx⟩ : ∃ b, b = w2.heap.size := ⟨_, rfl⟩
  rw [← hbx] at QB ⊢
  clear hV hbx
  replace PB := PB.next hb2
  replace FB := FB.next hb2
  replace hI := hI.next hb2
  replace OB := OB.next hb2
  replace HB := Lib.hid (bw_trans HB.out hb2)
  clear hb2 k0 k1 k2 c0 c1 c2 c3 c4 c5 c6 g0 g1 g2 g3 g4 g5 g6
  obtain ⟨w2, hV⟩ : ∃ w2, w2 = V := ⟨_, rfl⟩
  subst hV
  have kk := PB.cells
  obtain ⟨k0, k1, k2⟩ := kk
  have kk := FB.cells
  obtain ⟨c0, c1, c2, c3, c4, c5, c6⟩ := kk
  have kk := OB.cells
  obtain ⟨g0, g1, g2, g3, g4, g5, g6⟩ := kk
  have kk := QB.cells
  obtain ⟨m0, m1, m2⟩ := kk
  clear PB FB OB QB hI hin hRo hO hH hR
  go_wp2
  go_ret
  exact ⟨rfl, HB.out⟩

set_option maxHeartbeats 1000000 in
set_option maxRecDepth 100000 in
theorem through_noq (n : Int) (a : Option Addr) (len cap : Nat) (l : List Int) (d s : ByteArray) (ft : Bool) (p v ty : Int) (pl : ByteArray) (vl nat : Int) (w : World) (h : IsRow w a len l) (hd : d.size ≤ maxLen) (hs : s.size ≤ maxLen) (hp : pl.size ≤ maxLen) (h4 : len ≤ 40) (hc : fewB ⟨d, s, ft, p, v, ty, pl⟩ = true) (hR : Hid (rightB ⟨d, s, ft, p, v, ty, pl⟩ = true)) (hH : Hid (hasB ⟨true, n, l⟩ vl = true)) (hv : vl = n) (hO : Hid (outP ⟨true, n, l⟩ ⟨d, s, ft, p, v, ty, pl⟩ vl = (⟨d, s, false, 0, 0, ty, pl⟩, 0))) (hQ : Hid (portB ⟨true, nat, l⟩ = false)) :
    Calls Try.prog 4 #[pv true n a len cap, fv d s ft p v ty pl, .int .i64 vl, .int .i64 nat] w fun e w' => e = .returned (.bool true) ∧ Below w.heap.size w w' := by
  have hbd := h.bound
  have hd' := Lib.hid hd; have hs' := Lib.hid hs; have hp' := Lib.hid hp; clear hd hs hp
  unfold maxLen at hbd
  subst hv
  have hin : Hid (inP ⟨true, vl, l⟩ ⟨d, s, false, 0, 0, ty, pl⟩ = (vl, 0)) := by
    refine Lib.hid ?_
    rw [in_bare (has_port hH.out) (right_bare hR.out), if_pos hH.out]
  have hRo : Hid (rightB ⟨d, s, false, 0, 0, ty, pl⟩ = true) := Lib.hid (right_bare hR.out)
  have hg : decide ((len : Int) > 40) = false := by simp; omega
  have HF := Lib.hid hc; clear hc
  obtain ⟨W, hW, PB, FB, hI, BB⟩ := two_boxes 24 w true vl a len cap l d s ft p v ty pl h
  clear h
  go_enter Try.func4, Try.ntmps4
  go_upto_region 1 with (fail)
  rw [← hW]
  obtain ⟨b, hb⟩ : ∃ b, b = w.heap.size := ⟨_, rfl⟩
  rw [← hb] at PB FB ⊢
  have HB := Lib.hid BB
  clear hW hb BB
  go_wp2_with fail
  have hpw := awake_any W
  refine hpw.mono ?_
  clear hpw
  rintro e w2 ⟨rfl, hb⟩
  replace PB := PB.next hb
  replace FB := FB.next hb
  replace hI := hI.next hb
  replace HB := Lib.hid (bw_trans HB.out hb)
  clear hb 
  have kk := PB.cells
  obtain ⟨k0, k1, k2⟩ := kk
  have kk := FB.cells
  obtain ⟨c0, c1, c2, c3, c4, c5, c6⟩ := kk
  go_wp2_with fail
  have hpw := few_any d s ft p v ty pl w2 hd'.out hs'.out hp'.out
  refine hpw.mono ?_
  clear hpw
  rintro e w2 ⟨rfl, hb⟩
  rw [HF.out]
  replace PB := PB.next hb
  replace FB := FB.next hb
  replace hI := hI.next hb
  replace HB := Lib.hid (bw_trans HB.out hb)
  clear hb k0 k1 k2 c0 c1 c2 c3 c4 c5 c6
  have kk := PB.cells
  obtain ⟨k0, k1, k2⟩ := kk
  have kk := FB.cells
  obtain ⟨c0, c1, c2, c3, c4, c5, c6⟩ := kk
  go_wp2_with fail
  have hpw := out_w true vl a len cap l d s ft p v ty pl vl w2 _ 0 hI hd'.out hs'.out hp'.out hO
  refine hpw.mono ?_
  clear hpw
  rintro e w2 ⟨rfl, hb⟩
  replace PB := PB.next hb
  replace FB := FB.next hb
  replace hI := hI.next hb
  replace HB := Lib.hid (bw_trans HB.out hb)
  clear hb k0 k1 k2 c0 c1 c2 c3 c4 c5 c6
  simp only [Fr.val]
  obtain ⟨V, hV⟩ : ∃ V, V = w2.alloc (.cells #[.string d, .string s, .bool false, .int .i64 0, .int .i64 0, .int .i64 ty, .string pl] 26) := ⟨_, rfl⟩
  have hb2 := below_box w2 (.cells #[.string d, .string s, .bool false, .int .i64 0, .int .i64 0, .int .i64 ty, .string pl] 26)
  have OB := blk_new w2 d s false 0 0 ty pl
  rw [← hV] at hb2 OB
  go_upto_region 6 with (fail)
  rw [← hV]
  obtain ⟨bOB, hbx⟩ : ∃ b, b = w2.heap.size := ⟨_, rfl⟩
  rw [← hbx] at OB ⊢
  clear hV hbx
  replace PB := PB.next hb2
  replace FB := FB.next hb2
  replace hI := hI.next hb2
  replace HB := Lib.hid (bw_trans HB.out hb2)
  clear hb2
  obtain ⟨w2, hV⟩ : ∃ w2, w2 = V := ⟨_, rfl⟩
  subst hV
  have kk := PB.cells
  obtain ⟨k0, k1, k2⟩ := kk
  have kk := FB.cells
  obtain ⟨c0, c1, c2, c3, c4, c5, c6⟩ := kk
  have kk := OB.cells
  obtain ⟨g0, g1, g2, g3, g4, g5, g6⟩ := kk
  go_wp2_with fail
  have hpw := in_w true vl a len cap l d s false 0 0 ty pl w2 vl 0 hI hd'.out hs'.out hp'.out hin
  refine hpw.mono ?_
  clear hpw
  rintro e w2 ⟨rfl, hb⟩
  replace PB := PB.next hb
  replace FB := FB.next hb
  replace hI := hI.next hb
  replace OB := OB.next hb
  replace HB := Lib.hid (bw_trans HB.out hb)
  clear hb k0 k1 k2 c0 c1 c2 c3 c4 c5 c6 g0 g1 g2 g3 g4 g5 g6
  have kk := PB.cells
  obtain ⟨k0, k1, k2⟩ := kk
  have kk := FB.cells
  obtain ⟨c0, c1, c2, c3, c4, c5, c6⟩ := kk
  have kk := OB.cells
  obtain ⟨g0, g1, g2, g3, g4, g5, g6⟩ := kk
  go_wp2_with fail
  have hpw := right_any d s false 0 0 ty pl w2 hd'.out hs'.out hp'.out
  refine hpw.mono ?_
  clear hpw
  rintro e w2 ⟨rfl, hb⟩
  rw [hRo.out]
  replace PB := PB.next hb
  replace FB := FB.next hb
  replace hI := hI.next hb
  replace OB := OB.next hb
  replace HB := Lib.hid (bw_trans HB.out hb)
  clear hb k0 k1 k2 c0 c1 c2 c3 c4 c5 c6 g0 g1 g2 g3 g4 g5 g6
  have kk := PB.cells
  obtain ⟨k0, k1, k2⟩ := kk
  have kk := FB.cells
  obtain ⟨c0, c1, c2, c3, c4, c5, c6⟩ := kk
  have kk := OB.cells
  obtain ⟨g0, g1, g2, g3, g4, g5, g6⟩ := kk
  obtain ⟨V, hV, QB, hb2⟩ := copied w2 true nat a len cap
  go_upto_region 13 with (fail)
  rw [← hV]
  obtain ⟨bQB, hbx⟩ : ∃ b, b = w2.heap.size := ⟨_, rfl⟩
  rw [← hbx] at QB ⊢
  clear hV hbx
  replace PB := PB.next hb2
  replace FB := FB.next hb2
  replace hI := hI.next hb2
  replace OB := OB.next hb2
  replace HB := Lib.hid (bw_trans HB.out hb2)
  clear hb2 k0 k1 k2 c0 c1 c2 c3 c4 c5 c6 g0 g1 g2 g3 g4 g5 g6
  obtain ⟨w2, hV⟩ : ∃ w2, w2 = V := ⟨_, rfl⟩
  subst hV
  have kk := PB.cells
  obtain ⟨k0, k1, k2⟩ := kk
  have kk := FB.cells
  obtain ⟨c0, c1, c2, c3, c4, c5, c6⟩ := kk
  have kk := OB.cells
  obtain ⟨g0, g1, g2, g3, g4, g5, g6⟩ := kk
  have kk := QB.cells
  obtain ⟨m0, m1, m2⟩ := kk
  go_wp2_with fail
  have hpw := portRight_any true nat a len cap l w2 hI
  refine hpw.mono ?_
  clear hpw
  rintro e w2 ⟨rfl, hb⟩
  rw [hQ.out]
  replace PB := PB.next hb
  replace FB := FB.next hb
  replace hI := hI.next hb
  replace OB := OB.next hb
  replace QB := QB.next hb
  replace HB := Lib.hid (bw_trans HB.out hb)
  clear hb k0 k1 k2 c0 c1 c2 c3 c4 c5 c6 g0 g1 g2 g3 g4 g5 g6 m0 m1 m2
  have kk := PB.cells
  obtain ⟨k0, k1, k2⟩ := kk
  have kk := FB.cells
  obtain ⟨c0, c1, c2, c3, c4, c5, c6⟩ := kk
  have kk := OB.cells
  obtain ⟨g0, g1, g2, g3, g4, g5, g6⟩ := kk
  have kk := QB.cells
  obtain ⟨m0, m1, m2⟩ := kk
  clear PB FB OB QB hI hin hRo hO hH hR
  go_wp2
  go_ret
  exact ⟨rfl, HB.out⟩

set_option maxHeartbeats 1000000 in
set_option maxRecDepth 100000 in
theorem through_q0 (n : Int) (a : Option Addr) (len cap : Nat) (l : List Int) (d s : ByteArray) (ft : Bool) (p v ty : Int) (pl : ByteArray) (vl nat : Int) (w : World) (h : IsRow w a len l) (hd : d.size ≤ maxLen) (hs : s.size ≤ maxLen) (hp : pl.size ≤ maxLen) (h4 : len ≤ 40) (hc : fewB ⟨d, s, ft, p, v, ty, pl⟩ = true) (hR : Hid (rightB ⟨d, s, ft, p, v, ty, pl⟩ = true)) (hH : Hid (hasB ⟨true, n, l⟩ vl = true)) (hv : vl = n) (hO : Hid (outP ⟨true, n, l⟩ ⟨d, s, ft, p, v, ty, pl⟩ vl = (⟨d, s, false, 0, 0, ty, pl⟩, 0))) (hQ : Hid (portB ⟨true, nat, l⟩ = true)) (hN : Hid (hasB ⟨true, nat, l⟩ nat = false)) :
    Calls Try.prog 4 #[pv true n a len cap, fv d s ft p v ty pl, .int .i64 vl, .int .i64 nat] w fun e w' => e = .returned (.bool true) ∧ Below w.heap.size w w' := by
  have hbd := h.bound
  have hd' := Lib.hid hd; have hs' := Lib.hid hs; have hp' := Lib.hid hp; clear hd hs hp
  unfold maxLen at hbd
  subst hv
  have hin : Hid (inP ⟨true, vl, l⟩ ⟨d, s, false, 0, 0, ty, pl⟩ = (vl, 0)) := by
    refine Lib.hid ?_
    rw [in_bare (has_port hH.out) (right_bare hR.out), if_pos hH.out]
  have hRo : Hid (rightB ⟨d, s, false, 0, 0, ty, pl⟩ = true) := Lib.hid (right_bare hR.out)
  have hg : decide ((len : Int) > 40) = false := by simp; omega
  have HF := Lib.hid hc; clear hc
  obtain ⟨W, hW, PB, FB, hI, BB⟩ := two_boxes 24 w true vl a len cap l d s ft p v ty pl h
  clear h
  go_enter Try.func4, Try.ntmps4
  go_upto_region 1 with (fail)
  rw [← hW]
  obtain ⟨b, hb⟩ : ∃ b, b = w.heap.size := ⟨_, rfl⟩
  rw [← hb] at PB FB ⊢
  have HB := Lib.hid BB
  clear hW hb BB
  go_wp2_with fail
  have hpw := awake_any W
  refine hpw.mono ?_
  clear hpw
  rintro e w2 ⟨rfl, hb⟩
  replace PB := PB.next hb
  replace FB := FB.next hb
  replace hI := hI.next hb
  replace HB := Lib.hid (bw_trans HB.out hb)
  clear hb 
  have kk := PB.cells
  obtain ⟨k0, k1, k2⟩ := kk
  have kk := FB.cells
  obtain ⟨c0, c1, c2, c3, c4, c5, c6⟩ := kk
  go_wp2_with fail
  have hpw := few_any d s ft p v ty pl w2 hd'.out hs'.out hp'.out
  refine hpw.mono ?_
  clear hpw
  rintro e w2 ⟨rfl, hb⟩
  rw [HF.out]
  replace PB := PB.next hb
  replace FB := FB.next hb
  replace hI := hI.next hb
  replace HB := Lib.hid (bw_trans HB.out hb)
  clear hb k0 k1 k2 c0 c1 c2 c3 c4 c5 c6
  have kk := PB.cells
  obtain ⟨k0, k1, k2⟩ := kk
  have kk := FB.cells
  obtain ⟨c0, c1, c2, c3, c4, c5, c6⟩ := kk
  go_wp2_with fail
  have hpw := out_w true vl a len cap l d s ft p v ty pl vl w2 _ 0 hI hd'.out hs'.out hp'.out hO
  refine hpw.mono ?_
  clear hpw
  rintro e w2 ⟨rfl, hb⟩
  replace PB := PB.next hb
  replace FB := FB.next hb
  replace hI := hI.next hb
  replace HB := Lib.hid (bw_trans HB.out hb)
  clear hb k0 k1 k2 c0 c1 c2 c3 c4 c5 c6
  simp only [Fr.val]
  obtain ⟨V, hV⟩ : ∃ V, V = w2.alloc (.cells #[.string d, .string s, .bool false, .int .i64 0, .int .i64 0, .int .i64 ty, .string pl] 26) := ⟨_, rfl⟩
  have hb2 := below_box w2 (.cells #[.string d, .string s, .bool false, .int .i64 0, .int .i64 0, .int .i64 ty, .string pl] 26)
  have OB := blk_new w2 d s false 0 0 ty pl
  rw [← hV] at hb2 OB
  go_upto_region 6 with (fail)
  rw [← hV]
  obtain ⟨bOB, hbx⟩ : ∃ b, b = w2.heap.size := ⟨_, rfl⟩
  rw [← hbx] at OB ⊢
  clear hV hbx
  replace PB := PB.next hb2
  replace FB := FB.next hb2
  replace hI := hI.next hb2
  replace HB := Lib.hid (bw_trans HB.out hb2)
  clear hb2
  obtain ⟨w2, hV⟩ : ∃ w2, w2 = V := ⟨_, rfl⟩
  subst hV
  have kk := PB.cells
  obtain ⟨k0, k1, k2⟩ := kk
  have kk := FB.cells
  obtain ⟨c0, c1, c2, c3, c4, c5, c6⟩ := kk
  have kk := OB.cells
  obtain ⟨g0, g1, g2, g3, g4, g5, g6⟩ := kk
  go_wp2_with fail
  have hpw := in_w true vl a len cap l d s false 0 0 ty pl w2 vl 0 hI hd'.out hs'.out hp'.out hin
  refine hpw.mono ?_
  clear hpw
  rintro e w2 ⟨rfl, hb⟩
  replace PB := PB.next hb
  replace FB := FB.next hb
  replace hI := hI.next hb
  replace OB := OB.next hb
  replace HB := Lib.hid (bw_trans HB.out hb)
  clear hb k0 k1 k2 c0 c1 c2 c3 c4 c5 c6 g0 g1 g2 g3 g4 g5 g6
  have kk := PB.cells
  obtain ⟨k0, k1, k2⟩ := kk
  have kk := FB.cells
  obtain ⟨c0, c1, c2, c3, c4, c5, c6⟩ := kk
  have kk := OB.cells
  obtain ⟨g0, g1, g2, g3, g4, g5, g6⟩ := kk
  go_wp2_with fail
  have hpw := right_any d s false 0 0 ty pl w2 hd'.out hs'.out hp'.out
  refine hpw.mono ?_
  clear hpw
  rintro e w2 ⟨rfl, hb⟩
  rw [hRo.out]
  replace PB := PB.next hb
  replace FB := FB.next hb
  replace hI := hI.next hb
  replace OB := OB.next hb
  replace HB := Lib.hid (bw_trans HB.out hb)
  clear hb k0 k1 k2 c0 c1 c2 c3 c4 c5 c6 g0 g1 g2 g3 g4 g5 g6
  have kk := PB.cells
  obtain ⟨k0, k1, k2⟩ := kk
  have kk := FB.cells
  obtain ⟨c0, c1, c2, c3, c4, c5, c6⟩ := kk
  have kk := OB.cells
  obtain ⟨g0, g1, g2, g3, g4, g5, g6⟩ := kk
  obtain ⟨V, hV, QB, hb2⟩ := copied w2 true nat a len cap
  go_upto_region 13 with (fail)
  rw [← hV]
  obtain ⟨bQB, hbx⟩ : ∃ b, b = w2.heap.size := ⟨_, rfl⟩
  rw [← hbx] at QB ⊢
  clear hV hbx
  replace PB := PB.next hb2
  replace FB := FB.next hb2
  replace hI := hI.next hb2
  replace OB := OB.next hb2
  replace HB := Lib.hid (bw_trans HB.out hb2)
  clear hb2 k0 k1 k2 c0 c1 c2 c3 c4 c5 c6 g0 g1 g2 g3 g4 g5 g6
  obtain ⟨w2, hV⟩ : ∃ w2, w2 = V := ⟨_, rfl⟩
  subst hV
  have kk := PB.cells
  obtain ⟨k0, k1, k2⟩ := kk
  have kk := FB.cells
  obtain ⟨c0, c1, c2, c3, c4, c5, c6⟩ := kk
  have kk := OB.cells
  obtain ⟨g0, g1, g2, g3, g4, g5, g6⟩ := kk
  have kk := QB.cells
  obtain ⟨m0, m1, m2⟩ := kk
  go_wp2_with fail
  have hpw := portRight_any true nat a len cap l w2 hI
  refine hpw.mono ?_
  clear hpw
  rintro e w2 ⟨rfl, hb⟩
  rw [hQ.out]
  replace PB := PB.next hb
  replace FB := FB.next hb
  replace hI := hI.next hb
  replace OB := OB.next hb
  replace QB := QB.next hb
  replace HB := Lib.hid (bw_trans HB.out hb)
  clear hb k0 k1 k2 c0 c1 c2 c3 c4 c5 c6 g0 g1 g2 g3 g4 g5 g6 m0 m1 m2
  have kk := PB.cells
  obtain ⟨k0, k1, k2⟩ := kk
  have kk := FB.cells
  obtain ⟨c0, c1, c2, c3, c4, c5, c6⟩ := kk
  have kk := OB.cells
  obtain ⟨g0, g1, g2, g3, g4, g5, g6⟩ := kk
  have kk := QB.cells
  obtain ⟨m0, m1, m2⟩ := kk
  have hin2 : Hid (inP ⟨true, nat, l⟩ ⟨d, s, false, 0, 0, ty, pl⟩ = (0, 5)) := by
    refine Lib.hid ?_
    rw [in_bare hQ.out hRo.out, hN.out]; rfl
  go_wp2_with fail
  have hpw := in_w true nat a len cap l d s false 0 0 ty pl w2 0 5 hI hd'.out hs'.out hp'.out hin2
  refine hpw.mono ?_
  clear hpw
  rintro e w2 ⟨rfl, hb⟩
  replace PB := PB.next hb
  replace FB := FB.next hb
  replace hI := hI.next hb
  replace OB := OB.next hb
  replace QB := QB.next hb
  replace HB := Lib.hid (bw_trans HB.out hb)
  clear hb k0 k1 k2 c0 c1 c2 c3 c4 c5 c6 g0 g1 g2 g3 g4 g5 g6 m0 m1 m2
  have kk := PB.cells
  obtain ⟨k0, k1, k2⟩ := kk
  have kk := FB.cells
  obtain ⟨c0, c1, c2, c3, c4, c5, c6⟩ := kk
  have kk := OB.cells
  obtain ⟨g0, g1, g2, g3, g4, g5, g6⟩ := kk
  have kk := QB.cells
  obtain ⟨m0, m1, m2⟩ := kk
  go_wp2_with fail
  have hpw := has_any true nat a len cap l nat w2 hI
  refine hpw.mono ?_
  clear hpw
  rintro e w2 ⟨rfl, hb⟩
  rw [hN.out]
  replace PB := PB.next hb
  replace FB := FB.next hb
  replace hI := hI.next hb
  replace OB := OB.next hb
  replace QB := QB.next hb
  replace HB := Lib.hid (bw_trans HB.out hb)
  clear hb k0 k1 k2 c0 c1 c2 c3 c4 c5 c6 g0 g1 g2 g3 g4 g5 g6 m0 m1 m2
  clear PB FB OB QB hI hin hRo hO hH hR hin2
  go_wp2
  go_ret
  exact ⟨rfl, HB.out⟩

set_option maxHeartbeats 1000000 in
set_option maxRecDepth 100000 in
theorem through_q1 (n : Int) (a : Option Addr) (len cap : Nat) (l : List Int) (d s : ByteArray) (ft : Bool) (p v ty : Int) (pl : ByteArray) (vl nat : Int) (w : World) (h : IsRow w a len l) (hd : d.size ≤ maxLen) (hs : s.size ≤ maxLen) (hp : pl.size ≤ maxLen) (h4 : len ≤ 40) (hc : fewB ⟨d, s, ft, p, v, ty, pl⟩ = true) (hR : Hid (rightB ⟨d, s, ft, p, v, ty, pl⟩ = true)) (hH : Hid (hasB ⟨true, n, l⟩ vl = true)) (hv : vl = n) (hO : Hid (outP ⟨true, n, l⟩ ⟨d, s, ft, p, v, ty, pl⟩ vl = (⟨d, s, false, 0, 0, ty, pl⟩, 0))) (hQ : Hid (portB ⟨true, nat, l⟩ = true)) (hN : Hid (hasB ⟨true, nat, l⟩ nat = true)) :
    Calls Try.prog 4 #[pv true n a len cap, fv d s ft p v ty pl, .int .i64 vl, .int .i64 nat] w fun e w' => e = .returned (.bool true) ∧ Below w.heap.size w w' := by
  have hbd := h.bound
  have hd' := Lib.hid hd; have hs' := Lib.hid hs; have hp' := Lib.hid hp; clear hd hs hp
  unfold maxLen at hbd
  subst hv
  have hin : Hid (inP ⟨true, vl, l⟩ ⟨d, s, false, 0, 0, ty, pl⟩ = (vl, 0)) := by
    refine Lib.hid ?_
    rw [in_bare (has_port hH.out) (right_bare hR.out), if_pos hH.out]
  have hRo : Hid (rightB ⟨d, s, false, 0, 0, ty, pl⟩ = true) := Lib.hid (right_bare hR.out)
  have hg : decide ((len : Int) > 40) = false := by simp; omega
  have HF := Lib.hid hc; clear hc
  obtain ⟨W, hW, PB, FB, hI, BB⟩ := two_boxes 24 w true vl a len cap l d s ft p v ty pl h
  clear h
  go_enter Try.func4, Try.ntmps4
  go_upto_region 1 with (fail)
  rw [← hW]
  obtain ⟨b, hb⟩ : ∃ b, b = w.heap.size := ⟨_, rfl⟩
  rw [← hb] at PB FB ⊢
  have HB := Lib.hid BB
  clear hW hb BB
  go_wp2_with fail
  have hpw := awake_any W
  refine hpw.mono ?_
  clear hpw
  rintro e w2 ⟨rfl, hb⟩
  replace PB := PB.next hb
  replace FB := FB.next hb
  replace hI := hI.next hb
  replace HB := Lib.hid (bw_trans HB.out hb)
  clear hb 
  have kk := PB.cells
  obtain ⟨k0, k1, k2⟩ := kk
  have kk := FB.cells
  obtain ⟨c0, c1, c2, c3, c4, c5, c6⟩ := kk
  go_wp2_with fail
  have hpw := few_any d s ft p v ty pl w2 hd'.out hs'.out hp'.out
  refine hpw.mono ?_
  clear hpw
  rintro e w2 ⟨rfl, hb⟩
  rw [HF.out]
  replace PB := PB.next hb
  replace FB := FB.next hb
  replace hI := hI.next hb
  replace HB := Lib.hid (bw_trans HB.out hb)
  clear hb k0 k1 k2 c0 c1 c2 c3 c4 c5 c6
  have kk := PB.cells
  obtain ⟨k0, k1, k2⟩ := kk
  have kk := FB.cells
  obtain ⟨c0, c1, c2, c3, c4, c5, c6⟩ := kk
  go_wp2_with fail
  have hpw := out_w true vl a len cap l d s ft p v ty pl vl w2 _ 0 hI hd'.out hs'.out hp'.out hO
  refine hpw.mono ?_
  clear hpw
  rintro e w2 ⟨rfl, hb⟩
  replace PB := PB.next hb
  replace FB := FB.next hb
  replace hI := hI.next hb
  replace HB := Lib.hid (bw_trans HB.out hb)
  clear hb k0 k1 k2 c0 c1 c2 c3 c4 c5 c6
  simp only [Fr.val]
  obtain ⟨V, hV⟩ : ∃ V, V = w2.alloc (.cells #[.string d, .string s, .bool false, .int .i64 0, .int .i64 0, .int .i64 ty, .string pl] 26) := ⟨_, rfl⟩
  have hb2 := below_box w2 (.cells #[.string d, .string s, .bool false, .int .i64 0, .int .i64 0, .int .i64 ty, .string pl] 26)
  have OB := blk_new w2 d s false 0 0 ty pl
  rw [← hV] at hb2 OB
  go_upto_region 6 with (fail)
  rw [← hV]
  obtain ⟨bOB, hbx⟩ : ∃ b, b = w2.heap.size := ⟨_, rfl⟩
  rw [← hbx] at OB ⊢
  clear hV hbx
  replace PB := PB.next hb2
  replace FB := FB.next hb2
  replace hI := hI.next hb2
  replace HB := Lib.hid (bw_trans HB.out hb2)
  clear hb2
  obtain ⟨w2, hV⟩ : ∃ w2, w2 = V := ⟨_, rfl⟩
  subst hV
  have kk := PB.cells
  obtain ⟨k0, k1, k2⟩ := kk
  have kk := FB.cells
  obtain ⟨c0, c1, c2, c3, c4, c5, c6⟩ := kk
  have kk := OB.cells
  obtain ⟨g0, g1, g2, g3, g4, g5, g6⟩ := kk
  go_wp2_with fail
  have hpw := in_w true vl a len cap l d s false 0 0 ty pl w2 vl 0 hI hd'.out hs'.out hp'.out hin
  refine hpw.mono ?_
  clear hpw
  rintro e w2 ⟨rfl, hb⟩
  replace PB := PB.next hb
  replace FB := FB.next hb
  replace hI := hI.next hb
  replace OB := OB.next hb
  replace HB := Lib.hid (bw_trans HB.out hb)
  clear hb k0 k1 k2 c0 c1 c2 c3 c4 c5 c6 g0 g1 g2 g3 g4 g5 g6
  have kk := PB.cells
  obtain ⟨k0, k1, k2⟩ := kk
  have kk := FB.cells
  obtain ⟨c0, c1, c2, c3, c4, c5, c6⟩ := kk
  have kk := OB.cells
  obtain ⟨g0, g1, g2, g3, g4, g5, g6⟩ := kk
  go_wp2_with fail
  have hpw := right_any d s false 0 0 ty pl w2 hd'.out hs'.out hp'.out
  refine hpw.mono ?_
  clear hpw
  rintro e w2 ⟨rfl, hb⟩
  rw [hRo.out]
  replace PB := PB.next hb
  replace FB := FB.next hb
  replace hI := hI.next hb
  replace OB := OB.next hb
  replace HB := Lib.hid (bw_trans HB.out hb)
  clear hb k0 k1 k2 c0 c1 c2 c3 c4 c5 c6 g0 g1 g2 g3 g4 g5 g6
  have kk := PB.cells
  obtain ⟨k0, k1, k2⟩ := kk
  have kk := FB.cells
  obtain ⟨c0, c1, c2, c3, c4, c5, c6⟩ := kk
  have kk := OB.cells
  obtain ⟨g0, g1, g2, g3, g4, g5, g6⟩ := kk
  obtain ⟨V, hV, QB, hb2⟩ := copied w2 true nat a len cap
  go_upto_region 13 with (fail)
  rw [← hV]
  obtain ⟨bQB, hbx⟩ : ∃ b, b = w2.heap.size := ⟨_, rfl⟩
  rw [← hbx] at QB ⊢
  clear hV hbx
  replace PB := PB.next hb2
  replace FB := FB.next hb2
  replace hI := hI.next hb2
  replace OB := OB.next hb2
  replace HB := Lib.hid (bw_trans HB.out hb2)
  clear hb2 k0 k1 k2 c0 c1 c2 c3 c4 c5 c6 g0 g1 g2 g3 g4 g5 g6
  obtain ⟨w2, hV⟩ : ∃ w2, w2 = V := ⟨_, rfl⟩
  subst hV
  have kk := PB.cells
  obtain ⟨k0, k1, k2⟩ := kk
  have kk := FB.cells
  obtain ⟨c0, c1, c2, c3, c4, c5, c6⟩ := kk
  have kk := OB.cells
  obtain ⟨g0, g1, g2, g3, g4, g5, g6⟩ := kk
  have kk := QB.cells
  obtain ⟨m0, m1, m2⟩ := kk
  go_wp2_with fail
  have hpw := portRight_any true nat a len cap l w2 hI
  refine hpw.mono ?_
  clear hpw
  rintro e w2 ⟨rfl, hb⟩
  rw [hQ.out]
  replace PB := PB.next hb
  replace FB := FB.next hb
  replace hI := hI.next hb
  replace OB := OB.next hb
  replace QB := QB.next hb
  replace HB := Lib.hid (bw_trans HB.out hb)
  clear hb k0 k1 k2 c0 c1 c2 c3 c4 c5 c6 g0 g1 g2 g3 g4 g5 g6 m0 m1 m2
  have kk := PB.cells
  obtain ⟨k0, k1, k2⟩ := kk
  have kk := FB.cells
  obtain ⟨c0, c1, c2, c3, c4, c5, c6⟩ := kk
  have kk := OB.cells
  obtain ⟨g0, g1, g2, g3, g4, g5, g6⟩ := kk
  have kk := QB.cells
  obtain ⟨m0, m1, m2⟩ := kk
  have hin2 : Hid (inP ⟨true, nat, l⟩ ⟨d, s, false, 0, 0, ty, pl⟩ = (nat, 0)) := by
    refine Lib.hid ?_
    rw [in_bare hQ.out hRo.out, hN.out]; rfl
  go_wp2_with fail
  have hpw := in_w true nat a len cap l d s false 0 0 ty pl w2 nat 0 hI hd'.out hs'.out hp'.out hin2
  refine hpw.mono ?_
  clear hpw
  rintro e w2 ⟨rfl, hb⟩
  replace PB := PB.next hb
  replace FB := FB.next hb
  replace hI := hI.next hb
  replace OB := OB.next hb
  replace QB := QB.next hb
  replace HB := Lib.hid (bw_trans HB.out hb)
  clear hb k0 k1 k2 c0 c1 c2 c3 c4 c5 c6 g0 g1 g2 g3 g4 g5 g6 m0 m1 m2
  have kk := PB.cells
  obtain ⟨k0, k1, k2⟩ := kk
  have kk := FB.cells
  obtain ⟨c0, c1, c2, c3, c4, c5, c6⟩ := kk
  have kk := OB.cells
  obtain ⟨g0, g1, g2, g3, g4, g5, g6⟩ := kk
  have kk := QB.cells
  obtain ⟨m0, m1, m2⟩ := kk
  go_wp2_with fail
  have hpw := has_any true nat a len cap l nat w2 hI
  refine hpw.mono ?_
  clear hpw
  rintro e w2 ⟨rfl, hb⟩
  rw [hN.out]
  replace PB := PB.next hb
  replace FB := FB.next hb
  replace hI := hI.next hb
  replace OB := OB.next hb
  replace QB := QB.next hb
  replace HB := Lib.hid (bw_trans HB.out hb)
  clear hb k0 k1 k2 c0 c1 c2 c3 c4 c5 c6 g0 g1 g2 g3 g4 g5 g6 m0 m1 m2
  clear PB FB OB QB hI hin hRo hO hH hR hin2
  go_wp2
  go_ret
  exact ⟨rfl, HB.out⟩

theorem through_any (t : Bool) (n : Int) (a : Option Addr) (len cap : Nat) (l : List Int) (d s : ByteArray) (ft : Bool) (p v ty : Int) (pl : ByteArray) (vl nat : Int) (w : World) (h : IsRow w a len l) (hd : d.size ≤ maxLen) (hs : s.size ≤ maxLen) (hp : pl.size ≤ maxLen) :
    Calls Try.prog 4 #[pv t n a len cap, fv d s ft p v ty pl, .int .i64 vl, .int .i64 nat] w fun e w' => e = .returned (.bool true) ∧ Below w.heap.size w w' := by
  by_cases h1 : 40 < len
  · exact through_big t n a len cap l d s ft p v ty pl vl nat w h hd hs hp h1
  have h4 : len ≤ 40 := by omega
  cases hc : fewB ⟨d, s, ft, p, v, ty, pl⟩ with
  | false => exact through_many t n a len cap l d s ft p v ty pl vl nat w h hd hs hp h4 hc
  | true =>
    rcases out_cases t n l d s ft p v ty pl vl with hO | ⟨hO, hH⟩ | ⟨hH, hR, ⟨hv, hO⟩ | ⟨hv, hO⟩⟩
    · exact through_e2 t n a len cap l d s ft p v ty pl vl nat w h hd hs hp h4 hc (Lib.hid hO)
    · exact through_e5 t n a len cap l d s ft p v ty pl vl nat w h hd hs hp h4 hc (Lib.hid hO) (Lib.hid hH)
    · cases t with
      | false => exact through_access n a len cap l d s ft p v ty pl vl nat w h hd hs hp h4 hc (Lib.hid hR) (Lib.hid hH) hv (Lib.hid hO)
      | true =>
        cases hQ : portB ⟨true, nat, l⟩ with
        | false => exact through_noq n a len cap l d s ft p v ty pl vl nat w h hd hs hp h4 hc (Lib.hid hR) (Lib.hid hH) hv (Lib.hid hO) (Lib.hid hQ)
        | true =>
          cases hN : hasB ⟨true, nat, l⟩ nat with
          | false => exact through_q0 n a len cap l d s ft p v ty pl vl nat w h hd hs hp h4 hc (Lib.hid hR) (Lib.hid hH) hv (Lib.hid hO) (Lib.hid hQ) (Lib.hid hN)
          | true => exact through_q1 n a len cap l d s ft p v ty pl vl nat w h hd hs hp h4 hc (Lib.hid hR) (Lib.hid hH) hv (Lib.hid hO) (Lib.hid hQ) (Lib.hid hN)
    · obtain rfl := has_other hH hv
      exact through_other n a len cap l d s ft p v ty pl vl nat w h hd hs hp h4 hc (Lib.hid hR) (Lib.hid hH) hv (Lib.hid hO)
end Go.Proofs.Ytjabbbaiboaicaa
