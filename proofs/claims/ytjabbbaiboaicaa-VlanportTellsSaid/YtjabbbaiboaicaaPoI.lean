/-
  Walks of layer 6: the document's Parse.
-/
import Derived.Test.YtjabbbaiboaicaaPoH
import Derived.Test.YtjabbbaiboaicaaPoF
import Derived.Test.YtjabbbaiboaicaaPoBk
import Derived.StillTailTactics
namespace Go.Proofs.Ytjabbbaiboaicaa
set_option linter.unusedVariables false
set_option linter.unusedSimpArgs false
open Go.RowKit Fm Pm

theorem num_sum (b c : UInt8) : wrap64 (wrap64 (wrap64 (b.toNat : Int) * 256) + wrap64 (c.toNat : Int)) = (b.toNat : Int) * 256 + c.toNat := by
  have h1 := UInt8.toNat_lt b
  have h2 := UInt8.toNat_lt c
  unfold wrap64; omega
theorem num_at (s : ByteArray) (k : Nat) (h : k + 1 < s.size) : (s[k].toNat : Int) * 256 + s[k + 1].toNat = numN s k := by
  unfold numN
  rw [getD_byte s k (by omega), getD_byte s (k + 1) h]

set_option maxHeartbeats 1000000 in
theorem rparse_short (s : ByteArray) (w : World) (h3 : s.size < 3) :
    Calls Try.prog 10 #[.string s] w (PPost w zeroP 2) := by
  go_enter Try.func10, Try.ntmps10
  go_wp2
  exact bodyPost_ret (v := .tuple #[pv false 0 none 0 0, .int .i64 2]) (by simp [results, Try.results10, go_sem]) rfl ⟨⟨none, 0, 0, rfl, row_none _ _⟩, below_box _ _⟩

/-- Behind j rounds. -/
def RTak (s : ByteArray) (base pb rb k : Nat) (t0 : Bool) (n : Int) (w : World) (i : Value) (wr : World) : Prop :=
  ∃ (j : Nat) (v : Value), j ≤ k ∧ i = .int .i64 ((4 + 2 * j : Nat) : Int) ∧ QBlk 29 wr pb t0 n v ∧ QBlk 29 wr rb false 0 (.slice none 0 0) ∧
    wr.ownsRow base 3 1 v j (cellsI (rowsN s 4 j)) ∧ Below w.heap.size w wr ∧ base ≤ wr.heap.size

set_option maxHeartbeats 1000000 in
theorem rparse_long (s : ByteArray) (w : World) (F : Po) (E : Int) (h3 : 3 ≤ s.size) (hs : s.size ≤ 1000) (hX : Hid (parseP s = (F, E))) :
    Calls Try.prog 10 #[.string s] w (PPost w F E) := by
  obtain ⟨t0, ht0⟩ : ∃ t0 : Bool, t0 = ((s[0].toNat : Int) == 84) := ⟨_, rfl⟩
  obtain ⟨n, hn⟩ : ∃ n, numN s 1 = n := ⟨_, rfl⟩
  have j0 : (0 : Int) < s.size := by omega
  have n0 : 0 < s.size := by omega
  have j1 : (1 : Int) < s.size := by omega
  have j2 : (2 : Int) < s.size := by omega
  have hwr : Hid (wrap64 (wrap64 (wrap64 (s[1].toNat : Int) * 256) + wrap64 (s[2].toNat : Int)) = n) := by refine Lib.hid ?_; rw [num_sum, ← hn]; exact num_at s 1 (by omega)
  have HT := Lib.hid ht0; have HN := Lib.hid hn; clear ht0 hn
  have R := qblk_new 29 w false 0 (.slice none 0 0)
  have B := below_box w (.cells #[.bool false, .int .i64 0, .slice none 0 0] 29)
  have eW := size_box w (.cells #[.bool false, .int .i64 0, .slice none 0 0] 29)
  go_enter Try.func10, Try.ntmps10
  go_upto_region 3 with (fail)
  go_region
  rw [hwr.out, ← HT.out]
  obtain ⟨W, hW⟩ : ∃ W, W = w.alloc (.cells #[.bool false, .int .i64 0, .slice none 0 0] 29) := ⟨_, rfl⟩
  obtain ⟨V, hV⟩ : ∃ V, V = (W.alloc (.cells #[.bool t0, .int .i64 n, .slice none 0 0] 29)).drew := ⟨_, rfl⟩
  rw [← hW] at R B eW ⊢
  rw [← hV]
  have K : QBlk 29 V (w.heap.size + 1) t0 n (.slice none 0 0) := by rw [hV, ← eW]; exact qblk_new _ W t0 n _
  have BV : Below W.heap.size W V := by rw [hV]; exact (below_box W _).drew
  replace R := R.next BV
  replace B := bw_trans B BV
  obtain ⟨rb, hrb⟩ : ∃ rb, rb = w.heap.size := ⟨_, rfl⟩
  have L0 : w.heap.size ≤ rb := by omega
  rw [← hrb] at R K ⊢
  have q3 := R.lt
  have q4 := K.lt
  clear hW hV hrb eW BV hwr
  go_wp2_with fail
  go_loopw [5] (fun i wr => RTak s V.heap.size (rb + 1) rb ((s.size - 4) / 2) t0 n w i wr) (fun i _ => s.size - (intOf i).toNat)
  case atStart => exact ⟨0, .slice none 0 0, Nat.zero_le _, rfl, K, R, World.ownsRow_nil V V.heap.size 3 1, B, Nat.le_refl _⟩
  case round =>
    clear R K B
    obtain ⟨j, v, hj, rfl, K, R, own, B, zs⟩ := hrel
    obtain ⟨base, hbase⟩ : ∃ base, base = V.heap.size := ⟨_, rfl⟩
    rw [← hbase] at own zs q3 q4 ⊢
    clear hbase
    have kk := K.cells
    obtain ⟨k0, k1, k2⟩ := kk
    by_cases hjk : 4 + 2 * j + 1 < s.size
    · obtain ⟨i0, hi, hz0, hz1, hz2⟩ := info_parts infoInt
      have F3 := K.free 2
      obtain ⟨I, hI⟩ : ∃ I, 4 + 2 * j = I := ⟨_, rfl⟩
      rw [hI] at hjk ⊢
      have HI := Lib.hid hI
      have c1 : I < s.size := by omega
      have c2 : I + 1 < s.size := hjk
      obtain ⟨M, hM⟩ : ∃ M, numN s I = M := ⟨_, rfl⟩
      have HM := Lib.hid hM; clear hM
      have hj2 : j + 1 ≤ (s.size - 4) / 2 := by omega
      have hm2 : (IntKind.i64.wrap (IntKind.i64.wrap (IntKind.i64.wrap ((s[I]'c1).toNat : Int) * 256) + IntKind.i64.wrap ((s[I + 1]'c2).toNat : Int))) = M := by
        have e : ∀ x : Int, IntKind.i64.wrap x = wrap64 x := fun x => by rw [IntKind.wrap_i64]; unfold wrap64; omega
        rw [e, e, e, e, num_sum, ← HM.out]; exact num_at s I (by omega)
      have HW := Lib.hid hm2; clear hm2
      have hne : some (rb + 1) ≠ v.ownBlock := fun e => by have := (own.lt _ e.symm).1; omega
      have HNE := Lib.hid hne; clear hne
      have HNR := Lib.hid (show some rb ≠ v.ownBlock from fun e => by have := (own.lt _ e.symm).1; omega)
      have HO := Lib.hid own; clear own
      have HB := Lib.hid B; clear B
      have HR := Lib.hid R; clear R
      have HK := Lib.hid K; clear K
      have hjs : j ≤ 500 := by omega
      clear hI k0 k1 hj
      have a1 : (I : Int) < s.size := by omega
      have a2 : (I : Int) + 1 < s.size := by omega
      have a3 : 0 ≤ (I : Int) := by omega
      have a4 : 0 ≤ (I : Int) + 1 := by omega
      have a5 : IntKind.i64.wrap ((I : Int) + 1) = (I : Int) + 1 := by rw [IntKind.wrap_i64]; omega
      have a6 : ((I : Int) + 1).toNat = I + 1 := by omega
      go_upto_block 1 with (fail)
      go_cut [] (fun wx => ∃ v', QBlk 29 wx (rb + 1) t0 n v' ∧ QBlk 29 wx rb false 0 (.slice none 0 0) ∧ wx.ownsRow base 3 1 v' (j + 1) (cellsI (rowsN s 4 (j + 1))) ∧ Below w.heap.size w wx ∧ base ≤ wx.heap.size)
      case first =>
        go_upto_region 7 with (fail)
        have T2 : (wr.alloc (.cells #[.int .i64 (IntKind.i64.wrap (IntKind.i64.wrap (IntKind.i64.wrap ((s[I]'c1).toNat : Int) * 256) + IntKind.i64.wrap ((s[I + 1]'c2).toNat : Int)))] 3)).cell? ⟨rb + 1, 2, none⟩ = some v := (HK.out.next (below_box wr _)).cells.2.2
        go_region_law (first
          | (refine step_append_lies _ (by rfl) _ _ _ (by rfl) base 3 i0 (.int .i64 0) 1 8 Try.underlying22 hi hz0 hz1 hz2 rfl (by decide) v j (cellsI (rowsN s 4 j)) (by rfl) (by exact (HO.out.alloc _).drew) ⟨wr.heap.size, 0, none⟩ 1 1 [.int .i64 (IntKind.i64.wrap (IntKind.i64.wrap (IntKind.i64.wrap ((s[I]'c1).toNat : Int) * 256) + IntKind.i64.wrap ((s[I + 1]'c2).toNat : Int)))] (by rfl) rfl (by exact World.news_of_block (heap_alloc_new wr _)) (fun u hu => by simp at hu; subst hu; rfl) (by decide) (by unfold maxLen; omega) (by omega) (by simp; omega) _ rfl ?_; intro g cap y1 hown1 hgrow hat hlt; have KZ := Lib.hid ((show QBlk 29 _ (rb + 1) t0 n v from HK.out.next ((below_box wr (.cells #[.int .i64 (IntKind.i64.wrap (IntKind.i64.wrap (IntKind.i64.wrap ((s[I]'c1).toNat : Int) * 256) + IntKind.i64.wrap ((s[I + 1]'c2).toNat : Int)))] 3)).drew)).grown (w' := y1) hgrow HNE.out); have T3 := KZ.out.cells.2.2; have F3 := KZ.out.free 2))
        all_goals (have BW := ((below_box wr (.cells #[.int .i64 (IntKind.i64.wrap (IntKind.i64.wrap (IntKind.i64.wrap ((s[I]'c1).toNat : Int) * 256) + IntKind.i64.wrap ((s[I + 1]'c2).toNat : Int)))] 3)).drew))
        all_goals (have RZ := (show QBlk 29 _ rb false 0 (.slice none 0 0) from HR.out.next BW).grown (w' := y1) hgrow HNR.out)
        all_goals (have BZ : Below w.heap.size w y1 := (bw_trans HB.out BW).grown hgrow (bw_trans HB.out BW).size (fun x hx => Nat.le_trans (by omega) ((HO.out.lt x hx).1)))
        all_goals (have zz : base ≤ y1.heap.size := Nat.le_trans (Nat.le_trans zs BW.size) hgrow.size)
        all_goals (have OZ := hown1.kept (grown_set y1 (rb + 1) 2 (.slice (some ⟨g, 0, none⟩) (j + 1) cap)) (own_ne hown1 q4))
        all_goals (rw [HW.out] at OZ)
        all_goals (have HOZ := Lib.hid OZ; have HBZ := Lib.hid BZ; have HRZ := Lib.hid RZ)
        all_goals clear hgrow hat BW RZ BZ OZ hown1
        all_goals go_wp2_with fail
        all_goals go_meet
        all_goals refine ⟨_, KZ.out.set2 _, HRZ.out.other 2 _ (by omega), ?_, HBZ.out.setCell (p := ⟨rb + 1, 2, none⟩) (Nat.le_succ_of_le L0) _, by simp; omega⟩
        all_goals (rw [cellsI_succ, HI.out, HM.out])
        all_goals exact HOZ.out
      case rest =>
      obtain ⟨v', n3, n4, n5, n6, n7⟩ := hcut
      have RN : RTak s base (rb + 1) rb ((s.size - 4) / 2) t0 n w (.int .i64 ((I + 2 : Nat) : Int)) _ := ⟨j + 1, v', hj2, by rw [← HI.out, show 4 + 2 * j + 2 = 4 + 2 * (j + 1) by omega], n3, n4, n5, n6, n7⟩
      have RR := Lib.hid RN
      clear RN n3 n4 n5 n6 n7 HNE HNR HO HB HR HK k2 a5 a6
      go_wp2
      refine ⟨?_, by simp [intOf]; omega⟩
      exact RR.out
    · have hj2 : j = (s.size - 4) / 2 := by omega
      obtain ⟨a, cap, rfl, hrow⟩ := row_owned own (by unfold maxLen; omega)
      have hfr : Hid (∀ g, a = some g → g.block ≠ rb) := Lib.hid (fun g hg => by have := (own.lt g.block (by rw [hg]; rfl)).1; omega)
      have HRef : Hid (refT s = ⟨t0, n, rowsN s 4 j⟩) := by
        refine Lib.hid ?_
        unfold refT
        rw [← hj2, HN.out, HT.out, bt_get s 0 n0]
        congr 1
      have HPR : Hid (parseP s = if (printR ⟨t0, n, rowsN s 4 j⟩).2 = 0 ∧ (printR ⟨t0, n, rowsN s 4 j⟩).1 = s then (⟨t0, n, rowsN s 4 j⟩, 0) else (zeroP, 2)) := by
        refine Lib.hid ?_
        rw [← HRef.out]; exact parse_ref s h3
      obtain ⟨⟨S, E1⟩, hSE⟩ : ∃ r, printR ⟨t0, n, rowsN s 4 j⟩ = r := ⟨_, rfl⟩
      have HSE := Lib.hid hSE
      rw [hSE] at HPR
      clear hSE own hj2
      go_wp2_with fail
      have hpw := rprint_w t0 n a j cap (rowsN s 4 j) wr S E1 hrow HSE
      refine hpw.mono ?_
      clear hpw
      rintro e w5 ⟨rfl, hb⟩
      replace hrow := hrow.next hb
      replace K := K.next hb
      replace R := R.next hb
      replace B := bw_trans B hb
      clear hb k0 k1 k2
      have kk := K.cells
      obtain ⟨k0, k1, k2⟩ := kk
      have kk := R.cells
      obtain ⟨r0, r1, r2⟩ := kk
      have f0 := R.free 0
      have f1 := R.free 1
      have f2 := R.free 2
      have HB := Lib.hid B
      have HR := Lib.hid (((hrow.set 0 (.bool t0) hfr.out).set 1 (.int .i64 n) hfr.out).set 2 (.slice a j cap) hfr.out)
      clear B K R hrow
      by_cases h0 : E1 = 0
      · by_cases hS : S = s
        · have e := hX.out.symm.trans HPR.out
          rw [if_pos ⟨h0, hS⟩] at e
          simp only [Prod.mk.injEq] at e
          obtain ⟨rfl, rfl⟩ := e
          subst h0 hS
          clear hX HPR HSE HRef
          go_wp2
          exact bodyPost_ret (v := .tuple #[pv t0 n a j cap, .int .i64 0]) (by simp [results, Try.results10, go_sem, r0, r1, r2]) rfl ⟨⟨a, j, cap, rfl, HR.out⟩, below_set3 HB.out L0 _ _ _⟩
        · have e := hX.out.symm.trans HPR.out
          rw [if_neg (fun h => hS h.2)] at e
          simp only [Prod.mk.injEq] at e
          obtain ⟨rfl, rfl⟩ := e
          subst h0
          have hd : (S.toList == s.toList) = false := by
            cases hc : S.toList == s.toList with
            | false => rfl
            | true => exact absurd (list_eq (by simpa using hc)) hS
          clear hX HPR HSE HRef hS
          go_wp2
          exact bodyPost_ret (v := .tuple #[pv false 0 none 0 0, .int .i64 2]) (by simp [results, Try.results10, go_sem, r0, r1, r2]) rfl ⟨⟨none, 0, 0, rfl, row_none _ _⟩, below_set3 HB.out L0 _ _ _⟩
      · have e := hX.out.symm.trans HPR.out
        rw [if_neg (fun h => h0 h.1)] at e
        simp only [Prod.mk.injEq] at e
        obtain ⟨rfl, rfl⟩ := e
        have hd : (E1 != 0) = true := by simpa using h0
        clear hX HPR HSE HRef h0
        go_wp2
        exact bodyPost_ret (v := .tuple #[pv false 0 none 0 0, .int .i64 2]) (by simp [results, Try.results10, go_sem, r0, r1, r2]) rfl ⟨⟨none, 0, 0, rfl, row_none _ _⟩, below_set3 HB.out L0 _ _ _⟩

theorem rparse_w (s : ByteArray) (w : World) (F : Po) (E : Int) (hs : s.size ≤ 1000) (hX : Hid (parseP s = (F, E))) :
    Calls Try.prog 10 #[.string s] w (PPost w F E) := by
  by_cases h3 : s.size < 3
  · have e := hX.out.symm.trans (parse_short0 s h3)
    simp only [Prod.mk.injEq] at e
    obtain ⟨rfl, rfl⟩ := e
    exact rparse_short s w h3
  · exact rparse_long s w F E (by omega) hs hX
end Go.Proofs.Ytjabbbaiboaicaa
