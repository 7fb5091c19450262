/-
  For every source, inner bytes, address and number: what llc makes is of its kind, and has its inner bytes, tagged or not; to another address it is of another kind (the statement LlcBack, whole: no condition; the table of heads as the program's text lays it, tied).
-/
import Derived.Test.YtledabmmomgkoaaDoorL2W
import Derived.Test.YtledabmmomgkoaaDoorL2Back
namespace Go.Proofs.YtledabmmomgkoaaDoor.llcBack
set_option linter.unusedVariables false
set_option linter.unusedSimpArgs false
open Go.ChangeShapes Go.WideShapes Go.ChangeAt Go.RowKit Fm

/-- Behind a round: the table stands, nothing that was there has turned. -/
def LInv (w : World) (i : Value) (wr : World) : Prop := (i = .int .i64 1 ∨ i = .int .i64 2 ∨ i = .int .i64 3) ∧ Heads wr ∧ Below w.heap.size w wr

set_option maxHeartbeats 16000000 in
set_option maxRecDepth 100000 in
theorem walk (src inner dst : ByteArray) (vl : Int) (w : World) (hH : Heads w) (hs : src.size ≤ maxLen) (hi : inner.size ≤ maxLen) (hd : dst.size ≤ maxLen) :
    Calls Tryd.prog 4 #[.string src, .string inner, .string dst, .int .i64 vl] w fun e w' => e = .returned (.bool true) ∧ Below w.heap.size w w' := by
  have hd' := hd
  unfold maxLen at hs hi hd
  go_enter Tryd.func4, Tryd.ntmps4
  go_wp2_with fail
  refine (awake_any _ hH).mono ?_
  rintro e w1 ⟨rfl, hb1⟩
  have H1 := hH.next hb1
  clear hH
  by_cases g1' : 20 < src.size
  · go_wp2
    go_ret
    exact ⟨rfl, hb1⟩
  by_cases g2' : 1600 < inner.size
  · go_wp2
    go_ret
    exact ⟨rfl, hb1⟩
  by_cases g3' : dst.size = 6
  case neg =>
    have hx : ((dst.size : Int) != 6) = true := by rw [bne_iff_ne]; omega
    go_wp2
    go_ret
    exact ⟨rfl, hb1⟩
  have hs' : src.size ≤ 20 := by omega
  have hi' : inner.size ≤ 1600 := by omega
  clear hs hi hd g1' g2'
  go_wp2_with fail
  clear g3'
  go_loopw [9] (fun i wr => LInv w i wr) (fun i _ => 3 - (intOf i).toNat)
  case atStart => exact ⟨Or.inl rfl, H1, hb1⟩
  case round =>
    clear H1 hb1
    obtain ⟨hk, HR, BR⟩ := hrel
    rcases hk with rfl | rfl | rfl
    · obtain ⟨fd, fs, ft, fp, fvl, fty, fpl, E, hm, hc⟩ := made1 src inner
      have HM := Lib.hid hm; clear hm
      have HC := Lib.hid hc; clear hc
      go_wp2_with fail
      refine (ieee_w src inner _ fd fs ft fp fvl fty fpl E HM HR hs' hi').mono ?_
      rintro e w2 ⟨rfl, hb2⟩
      have H2 := HR.next hb2
      have B2 := bw_trans BR hb2
      have k3 := blk_new w2 fd fs ft fp fvl fty fpl
      have H3 := H2.next (below_box w2 (.cells #[.string fd, .string fs, .bool ft, .int .i64 fp, .int .i64 fvl, .int .i64 fty, .string fpl] 23))
      have B3 := bw_alloc B2 (.cells #[.string fd, .string fs, .bool ft, .int .i64 fp, .int .i64 fvl, .int .i64 fty, .string fpl] 23)
      clear hb2 H2 B2 HR BR HM
      rcases HC.out with hE | ⟨rfl, rfl, hG⟩
      · clear HC
        rcases hE with rfl | rfl
        all_goals (
          go_wp2
          go_roundw
          case rel => exact ⟨Or.inr (Or.inl rfl), H3, B3⟩
          case measure => simp [intOf])
      · have GG := Lib.hid hG
        obtain ⟨hz1, hz2, _, _, _, _, hz3⟩ := right_parts hG.right
        clear HC hG
        have hz1 : fd.size ≤ maxLen := by rw [hz1]; decide
        have hz2 : fs.size ≤ maxLen := by rw [hz2]; decide
        have hz3 : fpl.size ≤ maxLen := by unfold maxLen; omega
        have y := k3.cells
        obtain ⟨c0, c1, c2, c3, c4, c5, c6⟩ := y
        go_wp2_with fail
        refine (inner_w _ _ _ _ _ _ _ _ _ _ (Lib.hid GG.out.inn) H3 hz1 hz2 hz3).mono ?_
        rintro e w4 ⟨rfl, hb4⟩
        have k4 := k3.below hb4 k3.lt
        have H4 := H3.next hb4
        have B4 := bw_trans B3 hb4
        clear hb4 k3 H3 B3 c0 c1 c2 c3 c4 c5 c6
        have y := k4.cells
        obtain ⟨c0, c1, c2, c3, c4, c5, c6⟩ := y
        go_wp2_with fail
        refine (kind_w _ _ _ _ _ _ _ _ _ (Lib.hid GG.out.kind) H4 hz1 hz2 hz3).mono ?_
        rintro e w5 ⟨rfl, hb5⟩
        have k5 := k4.below hb5 k4.lt
        have H5 := H4.next hb5
        have B5 := bw_trans B4 hb5
        clear hb5 k4 H4 B4 c0 c1 c2 c3 c4 c5 c6
        have y := k5.cells
        obtain ⟨c0, c1, c2, c3, c4, c5, c6⟩ := y
        go_wp2_with fail
        refine (right_w _ _ _ _ _ _ _ _ true (Lib.hid GG.out.right) hz1 hz2 hz3).mono ?_
        rintro e w6 ⟨rfl, hb6⟩
        have k6 := k5.below hb6 k5.lt
        have H6 := H5.next hb6
        have B6 := bw_trans B5 hb6
        clear hb6 k5 H5 B5 c0 c1 c2 c3 c4 c5 c6
        have y := k6.cells
        obtain ⟨c0, c1, c2, c3, c4, c5, c6⟩ := y
        go_wp2_with fail
        cases hv : withinB vl 4094 with
        | false =>
          refine (with_is _ _ _ _ _ _ _ _ _ _ _ _ _ _ _ _ 1 (Lib.hid (show withR ⟨fd, fs, false, fp, fvl, fty, fpl⟩ vl = (⟨⟨#[]⟩, ⟨#[]⟩, false, 0, 0, 0, ⟨#[]⟩⟩, 1) by simp [withR, GG.out.right, hv, zero])) hz1 hz2 hz3).mono ?_
          rintro e w8 ⟨rfl, hb8⟩
          have k8 := (k6.below hb8 k6.lt).below (below_box w8 (.cells #[.string ⟨#[]⟩, .string ⟨#[]⟩, .bool false, .int .i64 0, .int .i64 0, .int .i64 0, .string ⟨#[]⟩] 23)) (k6.below hb8 k6.lt).lt
          have H8 := (H6.next hb8).next (below_box w8 (.cells #[.string ⟨#[]⟩, .string ⟨#[]⟩, .bool false, .int .i64 0, .int .i64 0, .int .i64 0, .string ⟨#[]⟩] 23))
          have B8 := bw_alloc (bw_trans B6 hb8) (.cells #[.string ⟨#[]⟩, .string ⟨#[]⟩, .bool false, .int .i64 0, .int .i64 0, .int .i64 0, .string ⟨#[]⟩] 23)
          clear hb8 k6 H6 B6 c0 c1 c2 c3 c4 c5 c6
          obtain ⟨w9, hw9⟩ : ∃ w9, w9 = w8.alloc (.cells #[.string ⟨#[]⟩, .string ⟨#[]⟩, .bool false, .int .i64 0, .int .i64 0, .int .i64 0, .string ⟨#[]⟩] 23) := ⟨_, rfl⟩
          rw [← hw9] at k8 H8 B8
          go_upto_region 20 with (fail)
          rw [← hw9]
          clear hw9 hv
          have y := k8.cells
          obtain ⟨c0, c1, c2, c3, c4, c5, c6⟩ := y
          obtain ⟨WW, hWW⟩ : ∃ WW, WW = w9.alloc (.cells #[.string dst, .string fs, .bool false, .int .i64 fp, .int .i64 fvl, .int .i64 fty, .string fpl] 23) := ⟨_, rfl⟩
          have m2 : Blk WW w9.heap.size dst fs false fp fvl fty fpl := by rw [hWW]; exact blk_new w9 dst fs false fp fvl fty fpl
          have k12 : Blk WW w2.heap.size fd fs false fp fvl fty fpl := by rw [hWW]; exact k8.below (below_box w9 _) k8.lt
          have H12 : Heads WW := by rw [hWW]; exact H8.next (below_box w9 _)
          have B12 : Below w.heap.size w WW := by rw [hWW]; exact bw_alloc B8 _
          go_upto_region 22 with (fail)
          rw [← hWW]
          clear hWW c0 c1 c2 c3 c4 c5 c6
          clear k8 H8 B8
          go_cut [118] (fun r wx => r = .bool false ∧ Heads wx ∧ Below w.heap.size w wx)
          case first =>
            have l1 := k12.lt
            have l2 := m2.lt
            have S0 : (WW.cell? ⟨w2.heap.size, 0, none⟩ = some (Value.string fd) ∧ WW.cell? ⟨w2.heap.size, 1, none⟩ = some (Value.string fs) ∧ WW.cell? ⟨w2.heap.size, 2, none⟩ = some (Value.bool false) ∧ WW.cell? ⟨w2.heap.size, 3, none⟩ = some (Value.int .i64 fp) ∧ WW.cell? ⟨w2.heap.size, 4, none⟩ = some (Value.int .i64 fvl) ∧ WW.cell? ⟨w2.heap.size, 5, none⟩ = some (Value.int .i64 fty) ∧ WW.cell? ⟨w2.heap.size, 6, none⟩ = some (Value.string fpl)) ∧ (WW.cell? ⟨w9.heap.size, 0, none⟩ = some (Value.string dst) ∧ WW.cell? ⟨w9.heap.size, 1, none⟩ = some (Value.string fs) ∧ WW.cell? ⟨w9.heap.size, 2, none⟩ = some (Value.bool false) ∧ WW.cell? ⟨w9.heap.size, 3, none⟩ = some (Value.int .i64 fp) ∧ WW.cell? ⟨w9.heap.size, 4, none⟩ = some (Value.int .i64 fvl) ∧ WW.cell? ⟨w9.heap.size, 5, none⟩ = some (Value.int .i64 fty) ∧ WW.cell? ⟨w9.heap.size, 6, none⟩ = some (Value.string fpl)) := ⟨k12.cells, m2.cells⟩
            obtain ⟨K, hK⟩ : ∃ K, kindN ⟨dst, fs, false, fp, fvl, fty, fpl⟩ = K := ⟨_, rfl⟩
            have hcmp : (K == 1) = (dst.toList == fd.toList) := by
              by_cases hdd : dst = fd
              · rw [← hK, GG.out.same dst hdd, hdd]; simp
              · rw [ne_list hdd, beq_eq_false_iff_ne, ← hK]; exact GG.out.other dst hdd
            have HK := Lib.hid hK; clear hK
            go_region_held3 (fun w' => (w'.cell? ⟨w2.heap.size, 0, none⟩ = some (Value.string fd) ∧ w'.cell? ⟨w2.heap.size, 1, none⟩ = some (Value.string fs) ∧ w'.cell? ⟨w2.heap.size, 2, none⟩ = some (Value.bool false) ∧ w'.cell? ⟨w2.heap.size, 3, none⟩ = some (Value.int .i64 fp) ∧ w'.cell? ⟨w2.heap.size, 4, none⟩ = some (Value.int .i64 fvl) ∧ w'.cell? ⟨w2.heap.size, 5, none⟩ = some (Value.int .i64 fty) ∧ w'.cell? ⟨w2.heap.size, 6, none⟩ = some (Value.string fpl)) ∧ (w'.cell? ⟨w9.heap.size, 0, none⟩ = some (Value.string dst) ∧ w'.cell? ⟨w9.heap.size, 1, none⟩ = some (Value.string fs) ∧ w'.cell? ⟨w9.heap.size, 2, none⟩ = some (Value.bool false) ∧ w'.cell? ⟨w9.heap.size, 3, none⟩ = some (Value.int .i64 fp) ∧ w'.cell? ⟨w9.heap.size, 4, none⟩ = some (Value.int .i64 fvl) ∧ w'.cell? ⟨w9.heap.size, 5, none⟩ = some (Value.int .i64 fty) ∧ w'.cell? ⟨w9.heap.size, 6, none⟩ = some (Value.string fpl))) (first | exact S0 | exact S5) (first | (go_at_call 14; refine (kind_w dst fs false fp fvl fty fpl _ K HK (H12.next ((Below.refl _ _).drew)) hd' hz2 hz3).mono ?_; rintro e w7 ⟨rfl, hb7⟩; have D7 := ((Below.refl WW.heap.size WW).drew).trans hb7; have S5 : (w7.cell? ⟨w2.heap.size, 0, none⟩ = some (Value.string fd) ∧ w7.cell? ⟨w2.heap.size, 1, none⟩ = some (Value.string fs) ∧ w7.cell? ⟨w2.heap.size, 2, none⟩ = some (Value.bool false) ∧ w7.cell? ⟨w2.heap.size, 3, none⟩ = some (Value.int .i64 fp) ∧ w7.cell? ⟨w2.heap.size, 4, none⟩ = some (Value.int .i64 fvl) ∧ w7.cell? ⟨w2.heap.size, 5, none⟩ = some (Value.int .i64 fty) ∧ w7.cell? ⟨w2.heap.size, 6, none⟩ = some (Value.string fpl)) ∧ (w7.cell? ⟨w9.heap.size, 0, none⟩ = some (Value.string dst) ∧ w7.cell? ⟨w9.heap.size, 1, none⟩ = some (Value.string fs) ∧ w7.cell? ⟨w9.heap.size, 2, none⟩ = some (Value.bool false) ∧ w7.cell? ⟨w9.heap.size, 3, none⟩ = some (Value.int .i64 fp) ∧ w7.cell? ⟨w9.heap.size, 4, none⟩ = some (Value.int .i64 fvl) ∧ w7.cell? ⟨w9.heap.size, 5, none⟩ = some (Value.int .i64 fty) ∧ w7.cell? ⟨w9.heap.size, 6, none⟩ = some (Value.string fpl)) := ⟨(k12.below D7 l1).cells, (m2.below D7 l2).cells⟩))
            all_goals go_wp2_with fail
            all_goals go_meet
            all_goals exact ⟨rfl, H12.next D7, bw_trans B12 D7⟩
          case rest =>
            obtain ⟨rfl, HZ, BZ⟩ := hcut
            go_wp2
            go_roundw
            case rel => exact ⟨Or.inr (Or.inl rfl), HZ, BZ⟩
            case measure => simp [intOf]
        | true =>
          refine (with_is _ _ _ _ _ _ _ _ _ _ _ _ _ _ _ _ 0 (Lib.hid (show withR ⟨fd, fs, false, fp, fvl, fty, fpl⟩ vl = (⟨fd, fs, true, fp, vl, fty, fpl⟩, 0) by simp [withR, GG.out.right, hv])) hz1 hz2 hz3).mono ?_
          rintro e w8 ⟨rfl, hb8⟩
          have GT := Lib.hid (GG.out.tagged vl hv)
          have o8 : Obj := (.cells #[.string fd, .string fs, .bool true, .int .i64 fp, .int .i64 vl, .int .i64 fty, .string fpl] 23)
          have k8 := (k6.below hb8 k6.lt).below (below_box w8 (.cells #[.string fd, .string fs, .bool true, .int .i64 fp, .int .i64 vl, .int .i64 fty, .string fpl] 23)) (k6.below hb8 k6.lt).lt
          have n8 := blk_new w8 fd fs true fp vl fty fpl
          have H8 := (H6.next hb8).next (below_box w8 (.cells #[.string fd, .string fs, .bool true, .int .i64 fp, .int .i64 vl, .int .i64 fty, .string fpl] 23))
          have B8 := bw_alloc (bw_trans B6 hb8) (.cells #[.string fd, .string fs, .bool true, .int .i64 fp, .int .i64 vl, .int .i64 fty, .string fpl] 23)
          clear hb8 k6 H6 B6 c0 c1 c2 c3 c4 c5 c6 hv o8
          have y := n8.cells
          obtain ⟨c0, c1, c2, c3, c4, c5, c6⟩ := y
          go_wp2_with fail
          refine (inner_w _ _ _ _ _ _ _ _ _ _ (Lib.hid GT.out.2) H8 hz1 hz2 hz3).mono ?_
          rintro e w9 ⟨rfl, hb9⟩
          have k9 := k8.below hb9 k8.lt
          have n9 := n8.below hb9 n8.lt
          have H9 := H8.next hb9
          have B9 := bw_trans B8 hb9
          clear hb9 k8 n8 H8 B8 c0 c1 c2 c3 c4 c5 c6
          have y := n9.cells
          obtain ⟨c0, c1, c2, c3, c4, c5, c6⟩ := y
          go_wp2_with fail
          refine (kind_w _ _ _ _ _ _ _ _ _ (Lib.hid GT.out.1) H9 hz1 hz2 hz3).mono ?_
          rintro e w10 ⟨rfl, hb10⟩
          have k10 := k9.below hb10 k9.lt
          have H10 := H9.next hb10
          have B10 := bw_trans B9 hb10
          clear hb10 k9 n9 H9 B9 c0 c1 c2 c3 c4 c5 c6
          have y := k10.cells
          obtain ⟨c0, c1, c2, c3, c4, c5, c6⟩ := y
          obtain ⟨WW, hWW⟩ : ∃ WW, WW = w10.alloc (.cells #[.string dst, .string fs, .bool false, .int .i64 fp, .int .i64 fvl, .int .i64 fty, .string fpl] 23) := ⟨_, rfl⟩
          have m2 : Blk WW w10.heap.size dst fs false fp fvl fty fpl := by rw [hWW]; exact blk_new w10 dst fs false fp fvl fty fpl
          have k12 : Blk WW w2.heap.size fd fs false fp fvl fty fpl := by rw [hWW]; exact k10.below (below_box w10 _) k10.lt
          have H12 : Heads WW := by rw [hWW]; exact H10.next (below_box w10 _)
          have B12 : Below w.heap.size w WW := by rw [hWW]; exact bw_alloc B10 _
          go_upto_region 22 with (fail)
          rw [← hWW]
          clear hWW c0 c1 c2 c3 c4 c5 c6
          clear k10 H10 B10
          go_cut [118] (fun r wx => r = .bool false ∧ Heads wx ∧ Below w.heap.size w wx)
          case first =>
            have l1 := k12.lt
            have l2 := m2.lt
            have S0 : (WW.cell? ⟨w2.heap.size, 0, none⟩ = some (Value.string fd) ∧ WW.cell? ⟨w2.heap.size, 1, none⟩ = some (Value.string fs) ∧ WW.cell? ⟨w2.heap.size, 2, none⟩ = some (Value.bool false) ∧ WW.cell? ⟨w2.heap.size, 3, none⟩ = some (Value.int .i64 fp) ∧ WW.cell? ⟨w2.heap.size, 4, none⟩ = some (Value.int .i64 fvl) ∧ WW.cell? ⟨w2.heap.size, 5, none⟩ = some (Value.int .i64 fty) ∧ WW.cell? ⟨w2.heap.size, 6, none⟩ = some (Value.string fpl)) ∧ (WW.cell? ⟨w10.heap.size, 0, none⟩ = some (Value.string dst) ∧ WW.cell? ⟨w10.heap.size, 1, none⟩ = some (Value.string fs) ∧ WW.cell? ⟨w10.heap.size, 2, none⟩ = some (Value.bool false) ∧ WW.cell? ⟨w10.heap.size, 3, none⟩ = some (Value.int .i64 fp) ∧ WW.cell? ⟨w10.heap.size, 4, none⟩ = some (Value.int .i64 fvl) ∧ WW.cell? ⟨w10.heap.size, 5, none⟩ = some (Value.int .i64 fty) ∧ WW.cell? ⟨w10.heap.size, 6, none⟩ = some (Value.string fpl)) := ⟨k12.cells, m2.cells⟩
            obtain ⟨K, hK⟩ : ∃ K, kindN ⟨dst, fs, false, fp, fvl, fty, fpl⟩ = K := ⟨_, rfl⟩
            have hcmp : (K == 1) = (dst.toList == fd.toList) := by
              by_cases hdd : dst = fd
              · rw [← hK, GG.out.same dst hdd, hdd]; simp
              · rw [ne_list hdd, beq_eq_false_iff_ne, ← hK]; exact GG.out.other dst hdd
            have HK := Lib.hid hK; clear hK
            go_region_held3 (fun w' => (w'.cell? ⟨w2.heap.size, 0, none⟩ = some (Value.string fd) ∧ w'.cell? ⟨w2.heap.size, 1, none⟩ = some (Value.string fs) ∧ w'.cell? ⟨w2.heap.size, 2, none⟩ = some (Value.bool false) ∧ w'.cell? ⟨w2.heap.size, 3, none⟩ = some (Value.int .i64 fp) ∧ w'.cell? ⟨w2.heap.size, 4, none⟩ = some (Value.int .i64 fvl) ∧ w'.cell? ⟨w2.heap.size, 5, none⟩ = some (Value.int .i64 fty) ∧ w'.cell? ⟨w2.heap.size, 6, none⟩ = some (Value.string fpl)) ∧ (w'.cell? ⟨w10.heap.size, 0, none⟩ = some (Value.string dst) ∧ w'.cell? ⟨w10.heap.size, 1, none⟩ = some (Value.string fs) ∧ w'.cell? ⟨w10.heap.size, 2, none⟩ = some (Value.bool false) ∧ w'.cell? ⟨w10.heap.size, 3, none⟩ = some (Value.int .i64 fp) ∧ w'.cell? ⟨w10.heap.size, 4, none⟩ = some (Value.int .i64 fvl) ∧ w'.cell? ⟨w10.heap.size, 5, none⟩ = some (Value.int .i64 fty) ∧ w'.cell? ⟨w10.heap.size, 6, none⟩ = some (Value.string fpl))) (first | exact S0 | exact S5) (first | (go_at_call 14; refine (kind_w dst fs false fp fvl fty fpl _ K HK (H12.next ((Below.refl _ _).drew)) hd' hz2 hz3).mono ?_; rintro e w7 ⟨rfl, hb7⟩; have D7 := ((Below.refl WW.heap.size WW).drew).trans hb7; have S5 : (w7.cell? ⟨w2.heap.size, 0, none⟩ = some (Value.string fd) ∧ w7.cell? ⟨w2.heap.size, 1, none⟩ = some (Value.string fs) ∧ w7.cell? ⟨w2.heap.size, 2, none⟩ = some (Value.bool false) ∧ w7.cell? ⟨w2.heap.size, 3, none⟩ = some (Value.int .i64 fp) ∧ w7.cell? ⟨w2.heap.size, 4, none⟩ = some (Value.int .i64 fvl) ∧ w7.cell? ⟨w2.heap.size, 5, none⟩ = some (Value.int .i64 fty) ∧ w7.cell? ⟨w2.heap.size, 6, none⟩ = some (Value.string fpl)) ∧ (w7.cell? ⟨w10.heap.size, 0, none⟩ = some (Value.string dst) ∧ w7.cell? ⟨w10.heap.size, 1, none⟩ = some (Value.string fs) ∧ w7.cell? ⟨w10.heap.size, 2, none⟩ = some (Value.bool false) ∧ w7.cell? ⟨w10.heap.size, 3, none⟩ = some (Value.int .i64 fp) ∧ w7.cell? ⟨w10.heap.size, 4, none⟩ = some (Value.int .i64 fvl) ∧ w7.cell? ⟨w10.heap.size, 5, none⟩ = some (Value.int .i64 fty) ∧ w7.cell? ⟨w10.heap.size, 6, none⟩ = some (Value.string fpl)) := ⟨(k12.below D7 l1).cells, (m2.below D7 l2).cells⟩))
            all_goals go_wp2_with fail
            all_goals go_meet
            all_goals exact ⟨rfl, H12.next D7, bw_trans B12 D7⟩
          case rest =>
            obtain ⟨rfl, HZ, BZ⟩ := hcut
            go_wp2
            go_roundw
            case rel => exact ⟨Or.inr (Or.inl rfl), HZ, BZ⟩
            case measure => simp [intOf]
    · obtain ⟨fd, fs, ft, fp, fvl, fty, fpl, E, hm, hc⟩ := made2 src inner
      have HM := Lib.hid hm; clear hm
      have HC := Lib.hid hc; clear hc
      obtain ⟨ad, as', at', ap, av, ay, al, E1, hm1, hc1⟩ := made1 src inner
      have HM1 := Lib.hid hm1; clear hm1 hc1
      go_wp2_with fail
      refine (ieee_w src inner _ ad as' at' ap av ay al E1 HM1 HR hs' hi').mono ?_
      rintro e w0 ⟨rfl, hb0⟩
      have l0 := (bw_trans BR hb0).size
      have H0 := (HR.next hb0).next (below_box w0 (.cells #[.string ad, .string as', .bool at', .int .i64 ap, .int .i64 av, .int .i64 ay, .string al] 23))
      have p0 := (HR.next hb0).pos
      have B0 := bw_alloc (bw_trans BR hb0) (.cells #[.string ad, .string as', .bool at', .int .i64 ap, .int .i64 av, .int .i64 ay, .string al] 23)
      have k0 := blk_new w0 ad as' at' ap av ay al
      clear hb0 HR BR HM1
      go_wp2_with fail
      refine (sstp_w src inner _ fd fs ft fp fvl fty fpl E HM H0 hs' hi').mono ?_
      rintro e w2 ⟨rfl, hb2⟩
      have H2 := H0.next hb2
      have k2 := k0.below hb2 k0.lt
      have B2 := bw_trans B0 hb2
      clear hb2 H0 B0 k0 HM
      have f0 := k2.free 0
      have f1 := k2.free 1
      have f2 := k2.free 2
      have f3 := k2.free 3
      have f4 := k2.free 4
      have f5 := k2.free 5
      have f6 := k2.free 6
      have y := k2.cells
      obtain ⟨q0, q1, q2, q3, q4, q5, q6⟩ := y
      have k3 := k2.set7 fd fs ft fp fvl fty fpl
      have H3 := H2.set7 p0 (.string fd) (.string fs) (.bool ft) (.int .i64 fp) (.int .i64 fvl) (.int .i64 fty) (.string fpl)
      have B3 := below_set7 B2 l0 (.string fd) (.string fs) (.bool ft) (.int .i64 fp) (.int .i64 fvl) (.int .i64 fty) (.string fpl)
      clear k2 H2 B2
      rcases HC.out with hE | ⟨rfl, rfl, hG⟩
      · clear HC
        rcases hE with rfl | rfl
        all_goals (
          go_wp2
          go_roundw
          case rel => exact ⟨Or.inr (Or.inr rfl), H3, B3⟩
          case measure => simp [intOf])
      · have GG := Lib.hid hG
        obtain ⟨hz1, hz2, _, _, _, _, hz3⟩ := right_parts hG.right
        clear HC hG
        have hz1 : fd.size ≤ maxLen := by rw [hz1]; decide
        have hz2 : fs.size ≤ maxLen := by rw [hz2]; decide
        have hz3 : fpl.size ≤ maxLen := by unfold maxLen; omega
        have y := k3.cells
        obtain ⟨c0, c1, c2, c3, c4, c5, c6⟩ := y
        go_wp2_with fail
        refine (inner_w _ _ _ _ _ _ _ _ _ _ (Lib.hid GG.out.inn) H3 hz1 hz2 hz3).mono ?_
        rintro e w4 ⟨rfl, hb4⟩
        have k4 := k3.below hb4 k3.lt
        have H4 := H3.next hb4
        have B4 := bw_trans B3 hb4
        clear hb4 k3 H3 B3 c0 c1 c2 c3 c4 c5 c6 f0 f1 f2 f3 f4 f5 f6 q0 q1 q2 q3 q4 q5 q6
        have y := k4.cells
        obtain ⟨c0, c1, c2, c3, c4, c5, c6⟩ := y
        go_wp2_with fail
        refine (kind_w _ _ _ _ _ _ _ _ _ (Lib.hid GG.out.kind) H4 hz1 hz2 hz3).mono ?_
        rintro e w5 ⟨rfl, hb5⟩
        have k5 := k4.below hb5 k4.lt
        have H5 := H4.next hb5
        have B5 := bw_trans B4 hb5
        clear hb5 k4 H4 B4 c0 c1 c2 c3 c4 c5 c6
        have y := k5.cells
        obtain ⟨c0, c1, c2, c3, c4, c5, c6⟩ := y
        go_wp2_with fail
        refine (right_w _ _ _ _ _ _ _ _ true (Lib.hid GG.out.right) hz1 hz2 hz3).mono ?_
        rintro e w6 ⟨rfl, hb6⟩
        have k6 := k5.below hb6 k5.lt
        have H6 := H5.next hb6
        have B6 := bw_trans B5 hb6
        clear hb6 k5 H5 B5 c0 c1 c2 c3 c4 c5 c6
        have y := k6.cells
        obtain ⟨c0, c1, c2, c3, c4, c5, c6⟩ := y
        go_wp2_with fail
        cases hv : withinB vl 4094 with
        | false =>
          refine (with_is _ _ _ _ _ _ _ _ _ _ _ _ _ _ _ _ 1 (Lib.hid (show withR ⟨fd, fs, false, fp, fvl, fty, fpl⟩ vl = (⟨⟨#[]⟩, ⟨#[]⟩, false, 0, 0, 0, ⟨#[]⟩⟩, 1) by simp [withR, GG.out.right, hv, zero])) hz1 hz2 hz3).mono ?_
          rintro e w8 ⟨rfl, hb8⟩
          have k8 := (k6.below hb8 k6.lt).below (below_box w8 (.cells #[.string ⟨#[]⟩, .string ⟨#[]⟩, .bool false, .int .i64 0, .int .i64 0, .int .i64 0, .string ⟨#[]⟩] 23)) (k6.below hb8 k6.lt).lt
          have H8 := (H6.next hb8).next (below_box w8 (.cells #[.string ⟨#[]⟩, .string ⟨#[]⟩, .bool false, .int .i64 0, .int .i64 0, .int .i64 0, .string ⟨#[]⟩] 23))
          have B8 := bw_alloc (bw_trans B6 hb8) (.cells #[.string ⟨#[]⟩, .string ⟨#[]⟩, .bool false, .int .i64 0, .int .i64 0, .int .i64 0, .string ⟨#[]⟩] 23)
          clear hb8 k6 H6 B6 c0 c1 c2 c3 c4 c5 c6
          obtain ⟨w9, hw9⟩ : ∃ w9, w9 = w8.alloc (.cells #[.string ⟨#[]⟩, .string ⟨#[]⟩, .bool false, .int .i64 0, .int .i64 0, .int .i64 0, .string ⟨#[]⟩] 23) := ⟨_, rfl⟩
          rw [← hw9] at k8 H8 B8
          go_upto_region 20 with (fail)
          rw [← hw9]
          clear hw9 hv
          have y := k8.cells
          obtain ⟨c0, c1, c2, c3, c4, c5, c6⟩ := y
          obtain ⟨WW, hWW⟩ : ∃ WW, WW = w9.alloc (.cells #[.string dst, .string fs, .bool false, .int .i64 fp, .int .i64 fvl, .int .i64 fty, .string fpl] 23) := ⟨_, rfl⟩
          have m2 : Blk WW w9.heap.size dst fs false fp fvl fty fpl := by rw [hWW]; exact blk_new w9 dst fs false fp fvl fty fpl
          have k12 : Blk WW w0.heap.size fd fs false fp fvl fty fpl := by rw [hWW]; exact k8.below (below_box w9 _) k8.lt
          have H12 : Heads WW := by rw [hWW]; exact H8.next (below_box w9 _)
          have B12 : Below w.heap.size w WW := by rw [hWW]; exact bw_alloc B8 _
          go_upto_region 22 with (fail)
          rw [← hWW]
          clear hWW c0 c1 c2 c3 c4 c5 c6
          clear k8 H8 B8
          go_cut [118] (fun r wx => r = .bool false ∧ Heads wx ∧ Below w.heap.size w wx)
          case first =>
            have l1 := k12.lt
            have l2 := m2.lt
            have S0 : (WW.cell? ⟨w0.heap.size, 0, none⟩ = some (Value.string fd) ∧ WW.cell? ⟨w0.heap.size, 1, none⟩ = some (Value.string fs) ∧ WW.cell? ⟨w0.heap.size, 2, none⟩ = some (Value.bool false) ∧ WW.cell? ⟨w0.heap.size, 3, none⟩ = some (Value.int .i64 fp) ∧ WW.cell? ⟨w0.heap.size, 4, none⟩ = some (Value.int .i64 fvl) ∧ WW.cell? ⟨w0.heap.size, 5, none⟩ = some (Value.int .i64 fty) ∧ WW.cell? ⟨w0.heap.size, 6, none⟩ = some (Value.string fpl)) ∧ (WW.cell? ⟨w9.heap.size, 0, none⟩ = some (Value.string dst) ∧ WW.cell? ⟨w9.heap.size, 1, none⟩ = some (Value.string fs) ∧ WW.cell? ⟨w9.heap.size, 2, none⟩ = some (Value.bool false) ∧ WW.cell? ⟨w9.heap.size, 3, none⟩ = some (Value.int .i64 fp) ∧ WW.cell? ⟨w9.heap.size, 4, none⟩ = some (Value.int .i64 fvl) ∧ WW.cell? ⟨w9.heap.size, 5, none⟩ = some (Value.int .i64 fty) ∧ WW.cell? ⟨w9.heap.size, 6, none⟩ = some (Value.string fpl)) := ⟨k12.cells, m2.cells⟩
            obtain ⟨K, hK⟩ : ∃ K, kindN ⟨dst, fs, false, fp, fvl, fty, fpl⟩ = K := ⟨_, rfl⟩
            have hcmp : (K == 2) = (dst.toList == fd.toList) := by
              by_cases hdd : dst = fd
              · rw [← hK, GG.out.same dst hdd, hdd]; simp
              · rw [ne_list hdd, beq_eq_false_iff_ne, ← hK]; exact GG.out.other dst hdd
            have HK := Lib.hid hK; clear hK
            go_region_held3 (fun w' => (w'.cell? ⟨w0.heap.size, 0, none⟩ = some (Value.string fd) ∧ w'.cell? ⟨w0.heap.size, 1, none⟩ = some (Value.string fs) ∧ w'.cell? ⟨w0.heap.size, 2, none⟩ = some (Value.bool false) ∧ w'.cell? ⟨w0.heap.size, 3, none⟩ = some (Value.int .i64 fp) ∧ w'.cell? ⟨w0.heap.size, 4, none⟩ = some (Value.int .i64 fvl) ∧ w'.cell? ⟨w0.heap.size, 5, none⟩ = some (Value.int .i64 fty) ∧ w'.cell? ⟨w0.heap.size, 6, none⟩ = some (Value.string fpl)) ∧ (w'.cell? ⟨w9.heap.size, 0, none⟩ = some (Value.string dst) ∧ w'.cell? ⟨w9.heap.size, 1, none⟩ = some (Value.string fs) ∧ w'.cell? ⟨w9.heap.size, 2, none⟩ = some (Value.bool false) ∧ w'.cell? ⟨w9.heap.size, 3, none⟩ = some (Value.int .i64 fp) ∧ w'.cell? ⟨w9.heap.size, 4, none⟩ = some (Value.int .i64 fvl) ∧ w'.cell? ⟨w9.heap.size, 5, none⟩ = some (Value.int .i64 fty) ∧ w'.cell? ⟨w9.heap.size, 6, none⟩ = some (Value.string fpl))) (first | exact S0 | exact S5) (first | (go_at_call 14; refine (kind_w dst fs false fp fvl fty fpl _ K HK (H12.next ((Below.refl _ _).drew)) hd' hz2 hz3).mono ?_; rintro e w7 ⟨rfl, hb7⟩; have D7 := ((Below.refl WW.heap.size WW).drew).trans hb7; have S5 : (w7.cell? ⟨w0.heap.size, 0, none⟩ = some (Value.string fd) ∧ w7.cell? ⟨w0.heap.size, 1, none⟩ = some (Value.string fs) ∧ w7.cell? ⟨w0.heap.size, 2, none⟩ = some (Value.bool false) ∧ w7.cell? ⟨w0.heap.size, 3, none⟩ = some (Value.int .i64 fp) ∧ w7.cell? ⟨w0.heap.size, 4, none⟩ = some (Value.int .i64 fvl) ∧ w7.cell? ⟨w0.heap.size, 5, none⟩ = some (Value.int .i64 fty) ∧ w7.cell? ⟨w0.heap.size, 6, none⟩ = some (Value.string fpl)) ∧ (w7.cell? ⟨w9.heap.size, 0, none⟩ = some (Value.string dst) ∧ w7.cell? ⟨w9.heap.size, 1, none⟩ = some (Value.string fs) ∧ w7.cell? ⟨w9.heap.size, 2, none⟩ = some (Value.bool false) ∧ w7.cell? ⟨w9.heap.size, 3, none⟩ = some (Value.int .i64 fp) ∧ w7.cell? ⟨w9.heap.size, 4, none⟩ = some (Value.int .i64 fvl) ∧ w7.cell? ⟨w9.heap.size, 5, none⟩ = some (Value.int .i64 fty) ∧ w7.cell? ⟨w9.heap.size, 6, none⟩ = some (Value.string fpl)) := ⟨(k12.below D7 l1).cells, (m2.below D7 l2).cells⟩))
            all_goals go_wp2_with fail
            all_goals go_meet
            all_goals exact ⟨rfl, H12.next D7, bw_trans B12 D7⟩
          case rest =>
            obtain ⟨rfl, HZ, BZ⟩ := hcut
            go_wp2
            go_roundw
            case rel => exact ⟨Or.inr (Or.inr rfl), HZ, BZ⟩
            case measure => simp [intOf]
        | true =>
          refine (with_is _ _ _ _ _ _ _ _ _ _ _ _ _ _ _ _ 0 (Lib.hid (show withR ⟨fd, fs, false, fp, fvl, fty, fpl⟩ vl = (⟨fd, fs, true, fp, vl, fty, fpl⟩, 0) by simp [withR, GG.out.right, hv])) hz1 hz2 hz3).mono ?_
          rintro e w8 ⟨rfl, hb8⟩
          have GT := Lib.hid (GG.out.tagged vl hv)
          have o8 : Obj := (.cells #[.string fd, .string fs, .bool true, .int .i64 fp, .int .i64 vl, .int .i64 fty, .string fpl] 23)
          have k8 := (k6.below hb8 k6.lt).below (below_box w8 (.cells #[.string fd, .string fs, .bool true, .int .i64 fp, .int .i64 vl, .int .i64 fty, .string fpl] 23)) (k6.below hb8 k6.lt).lt
          have n8 := blk_new w8 fd fs true fp vl fty fpl
          have H8 := (H6.next hb8).next (below_box w8 (.cells #[.string fd, .string fs, .bool true, .int .i64 fp, .int .i64 vl, .int .i64 fty, .string fpl] 23))
          have B8 := bw_alloc (bw_trans B6 hb8) (.cells #[.string fd, .string fs, .bool true, .int .i64 fp, .int .i64 vl, .int .i64 fty, .string fpl] 23)
          clear hb8 k6 H6 B6 c0 c1 c2 c3 c4 c5 c6 hv o8
          have y := n8.cells
          obtain ⟨c0, c1, c2, c3, c4, c5, c6⟩ := y
          go_wp2_with fail
          refine (inner_w _ _ _ _ _ _ _ _ _ _ (Lib.hid GT.out.2) H8 hz1 hz2 hz3).mono ?_
          rintro e w9 ⟨rfl, hb9⟩
          have k9 := k8.below hb9 k8.lt
          have n9 := n8.below hb9 n8.lt
          have H9 := H8.next hb9
          have B9 := bw_trans B8 hb9
          clear hb9 k8 n8 H8 B8 c0 c1 c2 c3 c4 c5 c6
          have y := n9.cells
          obtain ⟨c0, c1, c2, c3, c4, c5, c6⟩ := y
          go_wp2_with fail
          refine (kind_w _ _ _ _ _ _ _ _ _ (Lib.hid GT.out.1) H9 hz1 hz2 hz3).mono ?_
          rintro e w10 ⟨rfl, hb10⟩
          have k10 := k9.below hb10 k9.lt
          have H10 := H9.next hb10
          have B10 := bw_trans B9 hb10
          clear hb10 k9 n9 H9 B9 c0 c1 c2 c3 c4 c5 c6
          have y := k10.cells
          obtain ⟨c0, c1, c2, c3, c4, c5, c6⟩ := y
          obtain ⟨WW, hWW⟩ : ∃ WW, WW = w10.alloc (.cells #[.string dst, .string fs, .bool false, .int .i64 fp, .int .i64 fvl, .int .i64 fty, .string fpl] 23) := ⟨_, rfl⟩
          have m2 : Blk WW w10.heap.size dst fs false fp fvl fty fpl := by rw [hWW]; exact blk_new w10 dst fs false fp fvl fty fpl
          have k12 : Blk WW w0.heap.size fd fs false fp fvl fty fpl := by rw [hWW]; exact k10.below (below_box w10 _) k10.lt
          have H12 : Heads WW := by rw [hWW]; exact H10.next (below_box w10 _)
          have B12 : Below w.heap.size w WW := by rw [hWW]; exact bw_alloc B10 _
          go_upto_region 22 with (fail)
          rw [← hWW]
          clear hWW c0 c1 c2 c3 c4 c5 c6
          clear k10 H10 B10
          go_cut [118] (fun r wx => r = .bool false ∧ Heads wx ∧ Below w.heap.size w wx)
          case first =>
            have l1 := k12.lt
            have l2 := m2.lt
            have S0 : (WW.cell? ⟨w0.heap.size, 0, none⟩ = some (Value.string fd) ∧ WW.cell? ⟨w0.heap.size, 1, none⟩ = some (Value.string fs) ∧ WW.cell? ⟨w0.heap.size, 2, none⟩ = some (Value.bool false) ∧ WW.cell? ⟨w0.heap.size, 3, none⟩ = some (Value.int .i64 fp) ∧ WW.cell? ⟨w0.heap.size, 4, none⟩ = some (Value.int .i64 fvl) ∧ WW.cell? ⟨w0.heap.size, 5, none⟩ = some (Value.int .i64 fty) ∧ WW.cell? ⟨w0.heap.size, 6, none⟩ = some (Value.string fpl)) ∧ (WW.cell? ⟨w10.heap.size, 0, none⟩ = some (Value.string dst) ∧ WW.cell? ⟨w10.heap.size, 1, none⟩ = some (Value.string fs) ∧ WW.cell? ⟨w10.heap.size, 2, none⟩ = some (Value.bool false) ∧ WW.cell? ⟨w10.heap.size, 3, none⟩ = some (Value.int .i64 fp) ∧ WW.cell? ⟨w10.heap.size, 4, none⟩ = some (Value.int .i64 fvl) ∧ WW.cell? ⟨w10.heap.size, 5, none⟩ = some (Value.int .i64 fty) ∧ WW.cell? ⟨w10.heap.size, 6, none⟩ = some (Value.string fpl)) := ⟨k12.cells, m2.cells⟩
            obtain ⟨K, hK⟩ : ∃ K, kindN ⟨dst, fs, false, fp, fvl, fty, fpl⟩ = K := ⟨_, rfl⟩
            have hcmp : (K == 2) = (dst.toList == fd.toList) := by
              by_cases hdd : dst = fd
              · rw [← hK, GG.out.same dst hdd, hdd]; simp
              · rw [ne_list hdd, beq_eq_false_iff_ne, ← hK]; exact GG.out.other dst hdd
            have HK := Lib.hid hK; clear hK
            go_region_held3 (fun w' => (w'.cell? ⟨w0.heap.size, 0, none⟩ = some (Value.string fd) ∧ w'.cell? ⟨w0.heap.size, 1, none⟩ = some (Value.string fs) ∧ w'.cell? ⟨w0.heap.size, 2, none⟩ = some (Value.bool false) ∧ w'.cell? ⟨w0.heap.size, 3, none⟩ = some (Value.int .i64 fp) ∧ w'.cell? ⟨w0.heap.size, 4, none⟩ = some (Value.int .i64 fvl) ∧ w'.cell? ⟨w0.heap.size, 5, none⟩ = some (Value.int .i64 fty) ∧ w'.cell? ⟨w0.heap.size, 6, none⟩ = some (Value.string fpl)) ∧ (w'.cell? ⟨w10.heap.size, 0, none⟩ = some (Value.string dst) ∧ w'.cell? ⟨w10.heap.size, 1, none⟩ = some (Value.string fs) ∧ w'.cell? ⟨w10.heap.size, 2, none⟩ = some (Value.bool false) ∧ w'.cell? ⟨w10.heap.size, 3, none⟩ = some (Value.int .i64 fp) ∧ w'.cell? ⟨w10.heap.size, 4, none⟩ = some (Value.int .i64 fvl) ∧ w'.cell? ⟨w10.heap.size, 5, none⟩ = some (Value.int .i64 fty) ∧ w'.cell? ⟨w10.heap.size, 6, none⟩ = some (Value.string fpl))) (first | exact S0 | exact S5) (first | (go_at_call 14; refine (kind_w dst fs false fp fvl fty fpl _ K HK (H12.next ((Below.refl _ _).drew)) hd' hz2 hz3).mono ?_; rintro e w7 ⟨rfl, hb7⟩; have D7 := ((Below.refl WW.heap.size WW).drew).trans hb7; have S5 : (w7.cell? ⟨w0.heap.size, 0, none⟩ = some (Value.string fd) ∧ w7.cell? ⟨w0.heap.size, 1, none⟩ = some (Value.string fs) ∧ w7.cell? ⟨w0.heap.size, 2, none⟩ = some (Value.bool false) ∧ w7.cell? ⟨w0.heap.size, 3, none⟩ = some (Value.int .i64 fp) ∧ w7.cell? ⟨w0.heap.size, 4, none⟩ = some (Value.int .i64 fvl) ∧ w7.cell? ⟨w0.heap.size, 5, none⟩ = some (Value.int .i64 fty) ∧ w7.cell? ⟨w0.heap.size, 6, none⟩ = some (Value.string fpl)) ∧ (w7.cell? ⟨w10.heap.size, 0, none⟩ = some (Value.string dst) ∧ w7.cell? ⟨w10.heap.size, 1, none⟩ = some (Value.string fs) ∧ w7.cell? ⟨w10.heap.size, 2, none⟩ = some (Value.bool false) ∧ w7.cell? ⟨w10.heap.size, 3, none⟩ = some (Value.int .i64 fp) ∧ w7.cell? ⟨w10.heap.size, 4, none⟩ = some (Value.int .i64 fvl) ∧ w7.cell? ⟨w10.heap.size, 5, none⟩ = some (Value.int .i64 fty) ∧ w7.cell? ⟨w10.heap.size, 6, none⟩ = some (Value.string fpl)) := ⟨(k12.below D7 l1).cells, (m2.below D7 l2).cells⟩))
            all_goals go_wp2_with fail
            all_goals go_meet
            all_goals exact ⟨rfl, H12.next D7, bw_trans B12 D7⟩
          case rest =>
            obtain ⟨rfl, HZ, BZ⟩ := hcut
            go_wp2
            go_roundw
            case rel => exact ⟨Or.inr (Or.inr rfl), HZ, BZ⟩
            case measure => simp [intOf]
    · go_wp2
      go_ret
      exact ⟨rfl, BR⟩
end Go.Proofs.YtledabmmomgkoaaDoor.llcBack
