/-
  Walks of layer 6: awake. (Printed by gen_pk.py.)
-/
import Derived.Test.YtjabbbaiboaicaaPoD
import Derived.Test.YtjabbbaiboaicaaPoH
import Derived.Test.YtjabbbaiboaicaaPoJ
namespace Go.Proofs.Ytjabbbaiboaicaa
set_option linter.unusedVariables false
set_option linter.unusedSimpArgs false
open Go.RowKit Fm Pm

def pA : Po := ⟨true, 1, [1, 2]⟩
def tA : ByteArray := ⟨#[84, 0, 1, 2, 0, 1, 0, 2]⟩
def dA : ByteArray := ⟨#[2, 97, 97, 97, 97, 97]⟩
def sA : ByteArray := ⟨#[2, 98, 98, 98, 98, 98]⟩
theorem printA : printR ⟨true, 1, [1, 2]⟩ = (⟨#[84, 0, 1, 2, 0, 1, 0, 2]⟩, 0) := by decide
theorem lenA : lenB ⟨#[84, 0, 1, 2, 0, 1, 0, 2]⟩ = true := by decide
theorem takenA : takenR ⟨#[84, 0, 1, 2, 0, 1, 0, 2]⟩ = ⟨true, 1, [1, 2]⟩ := by rfl
theorem parseA : parseP ⟨#[84, 0, 1, 2, 0, 1, 0, 2]⟩ = (⟨true, 1, [1, 2]⟩, 0) := by
  unfold parseP
  rw [lenA, takenA]; rfl
theorem outA : outP ⟨true, 1, [1, 2]⟩ ⟨⟨#[2, 97, 97, 97, 97, 97]⟩, ⟨#[2, 98, 98, 98, 98, 98]⟩, false, 0, 0, 2048, ⟨#[]⟩⟩ 2 = (⟨⟨#[2, 97, 97, 97, 97, 97]⟩, ⟨#[2, 98, 98, 98, 98, 98]⟩, true, 0, 2, 2048, ⟨#[]⟩⟩, 0) := by rfl
theorem inA : inP ⟨true, 1, [1, 2]⟩ ⟨⟨#[2, 97, 97, 97, 97, 97]⟩, ⟨#[2, 98, 98, 98, 98, 98]⟩, true, 0, 2, 2048, ⟨#[]⟩⟩ = (2, 0) := by rfl
theorem out3A : outP ⟨true, 1, [1, 2]⟩ ⟨⟨#[2, 97, 97, 97, 97, 97]⟩, ⟨#[2, 98, 98, 98, 98, 98]⟩, false, 0, 0, 2048, ⟨#[]⟩⟩ 3 = (zero, 5) := by rfl
theorem parse1A : parseP ⟨#[65]⟩ = (zeroP, 2) := by unfold parseP; rfl
theorem rightA : portB ⟨true, 1, [1, 2]⟩ = true := by rfl
theorem hasA : hasB ⟨true, 1, [1, 2]⟩ 1 = true := by rfl

/-- The set-up and the frame that awake builds. -/
theorem awake_start (w : World) : ∃ W : World, W = ((w.alloc (.cells #[.int .i64 1, .int .i64 2] 3)).alloc (.cells #[.bool true, .int .i64 1, .slice (some ⟨w.heap.size, 0, none⟩) 2 2] 24)).alloc (.cells #[.string ⟨#[2, 97, 97, 97, 97, 97]⟩, .string ⟨#[2, 98, 98, 98, 98, 98]⟩, .bool false, .int .i64 0, .int .i64 0, .int .i64 2048, .string ⟨#[]⟩] 26) ∧
    ∃ pb fb : Nat, pb = w.heap.size + 1 ∧ fb = w.heap.size + 2 ∧ PBlk 24 W pb true 1 (some ⟨w.heap.size, 0, none⟩) 2 2 ∧ Blk W fb ⟨#[2, 97, 97, 97, 97, 97]⟩ ⟨#[2, 98, 98, 98, 98, 98]⟩ false 0 0 2048 ⟨#[]⟩ ∧ IsRow W (some ⟨w.heap.size, 0, none⟩) 2 [1, 2] ∧ Below w.heap.size w W := by
  have B1 := below_box w (.cells #[.int .i64 1, .int .i64 2] 3)
  have e1 := size_box w (.cells #[.int .i64 1, .int .i64 2] 3)
  have I1 : IsRow (w.alloc (.cells #[.int .i64 1, .int .i64 2] 3)) (some ⟨w.heap.size, 0, none⟩) 2 [1, 2] := by
    refine ⟨rfl, by decide, fun k n hk => ⟨w.heap.size, 0, rfl, by rw [e1]; omega, ?_⟩⟩
    match k, hk with
    | 0, hk => simp at hk; subst hk; simp
    | 1, hk => simp at hk; subst hk; simp
  generalize hW1 : w.alloc (.cells #[.int .i64 1, .int .i64 2] 3) = W1 at B1 e1 I1 ⊢
  have PB := pblk_new 24 W1 true 1 (some ⟨w.heap.size, 0, none⟩) 2 2
  have B2 := below_box W1 (.cells #[.bool true, .int .i64 1, .slice (some ⟨w.heap.size, 0, none⟩) 2 2] 24)
  have e2 := size_box W1 (.cells #[.bool true, .int .i64 1, .slice (some ⟨w.heap.size, 0, none⟩) 2 2] 24)
  generalize hW2 : W1.alloc (.cells #[.bool true, .int .i64 1, .slice (some ⟨w.heap.size, 0, none⟩) 2 2] 24) = W2 at PB B2 e2 ⊢
  have FB := blk_new W2 ⟨#[2, 97, 97, 97, 97, 97]⟩ ⟨#[2, 98, 98, 98, 98, 98]⟩ false 0 0 2048 ⟨#[]⟩
  have B3 := below_box W2 (.cells #[.string ⟨#[2, 97, 97, 97, 97, 97]⟩, .string ⟨#[2, 98, 98, 98, 98, 98]⟩, .bool false, .int .i64 0, .int .i64 0, .int .i64 2048, .string ⟨#[]⟩] 26)
  rw [e2, e1] at FB
  rw [e1] at PB
  exact ⟨_, rfl, _, _, rfl, rfl, PB.next B3, FB, (I1.next B2).next B3, bw_trans (bw_trans B1 B2) B3⟩

set_option maxHeartbeats 4000000 in
set_option maxRecDepth 100000 in
theorem awake_any (w : World) : Calls Try.prog 5 #[] w fun e w' => e = .returned (.bool true) ∧ Below w.heap.size w w' := by
  obtain ⟨W, hW, pb, fb, hpb, hfb, PB, FB, hI, BB⟩ := awake_start w
  have HP := Lib.hid printA
  have HQ := Lib.hid parseA
  have HO := Lib.hid outA
  have HN := Lib.hid inA
  have HO3 := Lib.hid out3A
  have HQ1 := Lib.hid parse1A
  go_enter Try.func5, Try.ntmps5
  go_upto_region 3 with (fail)
  rw [← hW, show w.heap.size + 1 + 1 = fb from hfb.symm, ← hpb]
  obtain ⟨xs, hxs⟩ : ∃ xs, xs = w.heap.size := ⟨_, rfl⟩
  have HB := Lib.hid BB
  rw [← hxs] at PB hI ⊢
  clear hW hpb hfb hxs BB
  have kk := PB.cells
  obtain ⟨k0, k1, k2⟩ := kk
  have kk := FB.cells
  obtain ⟨c0, c1, c2, c3, c4, c5, c6⟩ := kk
  go_wp2_with fail
  have hpw := print_w true 1 _ 2 2 [1, 2] _ _ _ hI HP
  refine hpw.mono ?_
  clear hpw
  rintro e w2 ⟨rfl, hb⟩
  replace PB := PB.next hb
  replace FB := FB.next hb
  replace hI := hI.next hb
  replace HB := Lib.hid (bw_trans HB.out hb)
  clear hb k0 k1 k2 c0 c1 c2 c3 c4 c5 c6
  have kk := PB.cells
  obtain ⟨k0, k1, k2⟩ := kk
  have kk := FB.cells
  obtain ⟨c0, c1, c2, c3, c4, c5, c6⟩ := kk
  go_wp2_with fail
  have hpw := parse_w ⟨#[84, 0, 1, 2, 0, 1, 0, 2]⟩ w2 _ _ (by decide) HQ
  refine hpw.mono ?_
  clear hpw
  rintro e w2 ⟨⟨a', len', cap', rfl, hJ⟩, hb⟩
  replace PB := PB.next hb
  replace FB := FB.next hb
  replace hI := hI.next hb
  replace HB := Lib.hid (bw_trans HB.out hb)
  clear hb k0 k1 k2 c0 c1 c2 c3 c4 c5 c6
  simp only at hJ
  obtain ⟨V, hV⟩ : ∃ V, V = w2.alloc (.cells #[.bool true, .int .i64 1, .slice a' len' cap'] 24) := ⟨_, rfl⟩
  have hb2 := below_box w2 (.cells #[.bool true, .int .i64 1, .slice a' len' cap'] 24)
  have QB := pblk_new 24 w2 true 1 a' len' cap'
  rw [← hV] at hb2 QB
  go_upto_region 5 with (fail)
  rw [← hV]
  obtain ⟨bQB, hbx⟩ : ∃ b, b = w2.heap.size := ⟨_, rfl⟩
  rw [← hbx] at QB ⊢
  clear hV hbx
  replace PB := PB.next hb2
  replace FB := FB.next hb2
  replace hI := hI.next hb2
  replace hJ := hJ.next hb2
  replace HB := Lib.hid (bw_trans HB.out hb2)
  clear hb2
  have kk := PB.cells
  obtain ⟨k0, k1, k2⟩ := kk
  have kk := FB.cells
  obtain ⟨c0, c1, c2, c3, c4, c5, c6⟩ := kk
  have kk := QB.cells
  obtain ⟨m0, m1, m2⟩ := kk
  go_wp2_with fail
  have hpw := out_w true 1 _ 2 2 [1, 2] ⟨#[2, 97, 97, 97, 97, 97]⟩ ⟨#[2, 98, 98, 98, 98, 98]⟩ false 0 0 2048 ⟨#[]⟩ 2 _ _ _ hI (by decide) (by decide) (by decide) HO
  refine hpw.mono ?_
  clear hpw
  rintro e w2 ⟨rfl, hb⟩
  replace PB := PB.next hb
  replace FB := FB.next hb
  replace hI := hI.next hb
  replace hJ := hJ.next hb
  replace QB := QB.next hb
  replace HB := Lib.hid (bw_trans HB.out hb)
  clear hb k0 k1 k2 c0 c1 c2 c3 c4 c5 c6 m0 m1 m2
  obtain ⟨V, hV⟩ : ∃ V, V = w2.alloc (.cells #[.string ⟨#[2, 97, 97, 97, 97, 97]⟩, .string ⟨#[2, 98, 98, 98, 98, 98]⟩, .bool true, .int .i64 0, .int .i64 2, .int .i64 2048, .string ⟨#[]⟩] 26) := ⟨_, rfl⟩
  have hb2 := below_box w2 (.cells #[.string ⟨#[2, 97, 97, 97, 97, 97]⟩, .string ⟨#[2, 98, 98, 98, 98, 98]⟩, .bool true, .int .i64 0, .int .i64 2, .int .i64 2048, .string ⟨#[]⟩] 26)
  have OB := blk_new w2 ⟨#[2, 97, 97, 97, 97, 97]⟩ ⟨#[2, 98, 98, 98, 98, 98]⟩ true 0 2 2048 ⟨#[]⟩
  rw [← hV] at hb2 OB
  go_upto_region 6 with (fail)
  rw [← hV]
  obtain ⟨bOB, hbx⟩ : ∃ b, b = w2.heap.size := ⟨_, rfl⟩
  rw [← hbx] at OB ⊢
  clear hV hbx
  replace PB := PB.next hb2
  replace FB := FB.next hb2
  replace hI := hI.next hb2
  replace hJ := hJ.next hb2
  replace QB := QB.next hb2
  replace HB := Lib.hid (bw_trans HB.out hb2)
  clear hb2
  have kk := PB.cells
  obtain ⟨k0, k1, k2⟩ := kk
  have kk := FB.cells
  obtain ⟨c0, c1, c2, c3, c4, c5, c6⟩ := kk
  have kk := QB.cells
  obtain ⟨m0, m1, m2⟩ := kk
  have kk := OB.cells
  obtain ⟨d0, d1, d2, d3, d4, d5, d6⟩ := kk
  go_wp2_with fail
  have hpw := in_w true 1 _ 2 2 [1, 2] ⟨#[2, 97, 97, 97, 97, 97]⟩ ⟨#[2, 98, 98, 98, 98, 98]⟩ true 0 2 2048 ⟨#[]⟩ _ _ _ hI (by decide) (by decide) (by decide) HN
  refine hpw.mono ?_
  clear hpw
  rintro e w2 ⟨rfl, hb⟩
  replace PB := PB.next hb
  replace FB := FB.next hb
  replace hI := hI.next hb
  replace hJ := hJ.next hb
  replace QB := QB.next hb
  replace OB := OB.next hb
  replace HB := Lib.hid (bw_trans HB.out hb)
  clear hb k0 k1 k2 c0 c1 c2 c3 c4 c5 c6 m0 m1 m2 d0 d1 d2 d3 d4 d5 d6
  have kk := PB.cells
  obtain ⟨k0, k1, k2⟩ := kk
  have kk := FB.cells
  obtain ⟨c0, c1, c2, c3, c4, c5, c6⟩ := kk
  have kk := QB.cells
  obtain ⟨m0, m1, m2⟩ := kk
  have kk := OB.cells
  obtain ⟨d0, d1, d2, d3, d4, d5, d6⟩ := kk
  go_wp2_with fail
  have hpw := out_w true 1 _ 2 2 [1, 2] ⟨#[2, 97, 97, 97, 97, 97]⟩ ⟨#[2, 98, 98, 98, 98, 98]⟩ false 0 0 2048 ⟨#[]⟩ 3 _ _ _ hI (by decide) (by decide) (by decide) HO3
  refine hpw.mono ?_
  clear hpw
  rintro e w2 ⟨rfl, hb⟩
  replace PB := PB.next hb
  replace FB := FB.next hb
  replace hI := hI.next hb
  replace hJ := hJ.next hb
  replace QB := QB.next hb
  replace OB := OB.next hb
  replace HB := Lib.hid (bw_trans HB.out hb)
  clear hb k0 k1 k2 c0 c1 c2 c3 c4 c5 c6 m0 m1 m2 d0 d1 d2 d3 d4 d5 d6
  simp only [zero, Fr.val]
  obtain ⟨V, hV⟩ : ∃ V, V = w2.alloc (.cells #[.string ⟨#[]⟩, .string ⟨#[]⟩, .bool false, .int .i64 0, .int .i64 0, .int .i64 0, .string ⟨#[]⟩] 26) := ⟨_, rfl⟩
  have hb2 := below_box w2 (.cells #[.string ⟨#[]⟩, .string ⟨#[]⟩, .bool false, .int .i64 0, .int .i64 0, .int .i64 0, .string ⟨#[]⟩] 26)
  have ZB := blk_new w2 ⟨#[]⟩ ⟨#[]⟩ false 0 0 0 ⟨#[]⟩
  rw [← hV] at hb2 ZB
  go_upto_region 8 with (fail)
  rw [← hV]
  obtain ⟨bZB, hbx⟩ : ∃ b, b = w2.heap.size := ⟨_, rfl⟩
  rw [← hbx] at ZB ⊢
  clear hV hbx
  replace PB := PB.next hb2
  replace FB := FB.next hb2
  replace hI := hI.next hb2
  replace hJ := hJ.next hb2
  replace QB := QB.next hb2
  replace OB := OB.next hb2
  replace HB := Lib.hid (bw_trans HB.out hb2)
  clear hb2
  clear ZB
  have kk := PB.cells
  obtain ⟨k0, k1, k2⟩ := kk
  have kk := FB.cells
  obtain ⟨c0, c1, c2, c3, c4, c5, c6⟩ := kk
  have kk := QB.cells
  obtain ⟨m0, m1, m2⟩ := kk
  have kk := OB.cells
  obtain ⟨d0, d1, d2, d3, d4, d5, d6⟩ := kk
  go_wp2_with fail
  have hpw := parse_w ⟨#[65]⟩ V _ _ (by decide) HQ1
  refine hpw.mono ?_
  clear hpw
  rintro e w2 ⟨⟨a3, len3, cap3, rfl, hZ⟩, hb⟩
  replace PB := PB.next hb
  replace FB := FB.next hb
  replace hI := hI.next hb
  replace hJ := hJ.next hb
  replace QB := QB.next hb
  replace OB := OB.next hb
  replace HB := Lib.hid (bw_trans HB.out hb)
  clear hb k0 k1 k2 c0 c1 c2 c3 c4 c5 c6 m0 m1 m2 d0 d1 d2 d3 d4 d5 d6
  simp only [zeroP] at hZ ⊢
  obtain ⟨V, hV⟩ : ∃ V, V = w2.alloc (.cells #[.bool false, .int .i64 0, .slice a3 len3 cap3] 24) := ⟨_, rfl⟩
  have hb2 := below_box w2 (.cells #[.bool false, .int .i64 0, .slice a3 len3 cap3] 24)
  have ZB := pblk_new 24 w2 false 0 a3 len3 cap3
  rw [← hV] at hb2 ZB
  go_upto_region 9 with (fail)
  rw [← hV]
  obtain ⟨bZB, hbx⟩ : ∃ b, b = w2.heap.size := ⟨_, rfl⟩
  rw [← hbx] at ZB ⊢
  clear hV hbx
  replace PB := PB.next hb2
  replace FB := FB.next hb2
  replace hI := hI.next hb2
  replace hJ := hJ.next hb2
  replace QB := QB.next hb2
  replace OB := OB.next hb2
  replace HB := Lib.hid (bw_trans HB.out hb2)
  clear hb2
  clear ZB hZ
  have kk := PB.cells
  obtain ⟨k0, k1, k2⟩ := kk
  have kk := FB.cells
  obtain ⟨c0, c1, c2, c3, c4, c5, c6⟩ := kk
  have kk := QB.cells
  obtain ⟨m0, m1, m2⟩ := kk
  have kk := OB.cells
  obtain ⟨d0, d1, d2, d3, d4, d5, d6⟩ := kk
  go_wp2_with fail
  have hpw := same_any true 1 _ _ 2 len' 2 cap' [1, 2] _ hI hJ
  refine hpw.mono ?_
  clear hpw
  rintro e w2 ⟨rfl, hb⟩
  replace PB := PB.next hb
  replace FB := FB.next hb
  replace hI := hI.next hb
  replace hJ := hJ.next hb
  replace QB := QB.next hb
  replace OB := OB.next hb
  replace HB := Lib.hid (bw_trans HB.out hb)
  clear hb k0 k1 k2 c0 c1 c2 c3 c4 c5 c6 m0 m1 m2 d0 d1 d2 d3 d4 d5 d6
  have kk := PB.cells
  obtain ⟨k0, k1, k2⟩ := kk
  have kk := FB.cells
  obtain ⟨c0, c1, c2, c3, c4, c5, c6⟩ := kk
  have kk := QB.cells
  obtain ⟨m0, m1, m2⟩ := kk
  have kk := OB.cells
  obtain ⟨d0, d1, d2, d3, d4, d5, d6⟩ := kk
  go_wp2_with fail
  have hpw := portRight_any true 1 _ 2 2 [1, 2] _ hI
  refine hpw.mono ?_
  clear hpw
  rintro e w2 ⟨rfl, hb⟩
  rw [rightA]
  replace PB := PB.next hb
  replace FB := FB.next hb
  replace hI := hI.next hb
  replace hJ := hJ.next hb
  replace QB := QB.next hb
  replace OB := OB.next hb
  replace HB := Lib.hid (bw_trans HB.out hb)
  clear hb k0 k1 k2 c0 c1 c2 c3 c4 c5 c6 m0 m1 m2 d0 d1 d2 d3 d4 d5 d6
  have kk := PB.cells
  obtain ⟨k0, k1, k2⟩ := kk
  have kk := FB.cells
  obtain ⟨c0, c1, c2, c3, c4, c5, c6⟩ := kk
  have kk := QB.cells
  obtain ⟨m0, m1, m2⟩ := kk
  have kk := OB.cells
  obtain ⟨d0, d1, d2, d3, d4, d5, d6⟩ := kk
  go_wp2_with fail
  have hpw := has_any true 1 _ 2 2 [1, 2] 1 _ hI
  refine hpw.mono ?_
  clear hpw
  rintro e w2 ⟨rfl, hb⟩
  rw [hasA]
  replace PB := PB.next hb
  replace FB := FB.next hb
  replace hI := hI.next hb
  replace hJ := hJ.next hb
  replace QB := QB.next hb
  replace OB := OB.next hb
  replace HB := Lib.hid (bw_trans HB.out hb)
  clear hb k0 k1 k2 c0 c1 c2 c3 c4 c5 c6 m0 m1 m2 d0 d1 d2 d3 d4 d5 d6
  go_wp2
  go_ret
  exact ⟨rfl, HB.out⟩
end Go.Proofs.Ytjabbbaiboaicaa
