/-
  Walks of layer 6: taken, Parse.
-/
import Derived.Test.YtjabbbaiboaicaaPoG
import Derived.Deep.AppendLies
import Derived.Deep.RegionLaw
import Derived.Deep.CutBlock
namespace Go.Proofs.Ytjabbbaiboaicaa
set_option linter.unusedVariables false
set_option linter.unusedSimpArgs false
open Go.RowKit Fm Pm

/-- A set-up's block whose allowed ones are whatever value. -/
def QBlk (T : TypeId) (w : World) (b : Nat) (t : Bool) (n : Int) (v : Value) : Prop := w.heap[b]? = some (.cells #[.bool t, .int .i64 n, v] T (0, 0))
theorem QBlk.below {T : TypeId} {w w' : World} {b B : Nat} {t : Bool} {n : Int} {v : Value} (h : QBlk T w b t n v) (hb : Below B w w') (hB : b < B) : QBlk T w' b t n v := (hb.block b hB).trans h
theorem QBlk.lt {T : TypeId} {w : World} {b : Nat} {t : Bool} {n : Int} {v : Value} (h : QBlk T w b t n v) : b < w.heap.size := (Array.getElem?_eq_some_iff.1 h).1
theorem QBlk.next {T : TypeId} {w w' : World} {b : Nat} {t : Bool} {n : Int} {v : Value} (h : QBlk T w b t n v) (hb : Below w.heap.size w w') : QBlk T w' b t n v := h.below hb h.lt
theorem QBlk.grown {T : TypeId} {w w' : World} {b : Nat} {t : Bool} {n : Int} {v : Value} {r : Option Nat} (h : QBlk T w b t n v) (hg : w.grownBy w' r) (hne : some b ≠ r) : QBlk T w' b t n v := (hg.block b h.lt hne).trans h
theorem qblk_new (T : TypeId) (w : World) (t : Bool) (n : Int) (v : Value) : QBlk T (w.alloc (.cells #[.bool t, .int .i64 n, v] T)) w.heap.size t n v := heap_alloc_new w _
theorem QBlk.cells {T : TypeId} {w : World} {b : Nat} {t : Bool} {n : Int} {v : Value} (H : QBlk T w b t n v) :
    w.cell? ⟨b, 0, none⟩ = some (.bool t) ∧ w.cell? ⟨b, 1, none⟩ = some (.int .i64 n) ∧ w.cell? ⟨b, 2, none⟩ = some v := by
  unfold QBlk at H
  refine ⟨?_, ?_, ?_⟩ <;> simp [World.cell?, H]
theorem QBlk.free {T : TypeId} {w : World} {b : Nat} {t : Bool} {n : Int} {v : Value} (h : QBlk T w b t n v) (j : Nat) : w.frozen? ⟨b, j, none⟩ = false := by
  unfold QBlk at h
  simp [World.frozen?, h]
theorem QBlk.set2 {T : TypeId} {w : World} {b : Nat} {t : Bool} {n : Int} {v : Value} (h : QBlk T w b t n v) (u : Value) : QBlk T (w.setCell ⟨b, 2, none⟩ u) b t n u := blk_set (i := 2) (x := u) (cs' := #[.bool t, .int .i64 n, u]) h rfl
theorem QBlk.other {T : TypeId} {w : World} {b : Nat} {t : Bool} {n : Int} {v : Value} (h : QBlk T w b t n v) {c : Nat} (i : Nat) (u : Value) (hne : b ≠ c) : QBlk T (w.setCell ⟨c, i, none⟩ u) b t n v :=
  (Below.heap_setCell w ⟨c, i, none⟩ u b hne).trans h
theorem below_set3 {B b : Nat} {a w : World} (h : Below B a w) (hb : B ≤ b) (v0 v1 v2 : Value) : Below B a (((w.setCell ⟨b, 0, none⟩ v0).setCell ⟨b, 1, none⟩ v1).setCell ⟨b, 2, none⟩ v2) :=
  ((h.setCell (p := ⟨b, 0, none⟩) hb v0).setCell (p := ⟨b, 1, none⟩) hb v1).setCell (p := ⟨b, 2, none⟩) hb v2

theorem taker_w (s : ByteArray) (w : World) :
    Calls Try.prog 35 #[.string s] w fun e w' => ∃ b1 b2 : Nat, e = .returned (.func (.func 38) #[] #[.pointer (some ⟨b1, 0, none⟩), .pointer (some ⟨b2, 0, none⟩)]) ∧ One 9 w' b1 (.string s) ∧ One 3 w' b2 (.int .i64 ((0 : Nat) : Int)) ∧ b1 ≠ b2 ∧ w.heap.size ≤ b1 ∧ w.heap.size ≤ b2 ∧ Below w.heap.size w w' :=
  (taker_any s w).mono fun e w' ⟨he, h1, h2, hb, _⟩ => ⟨w.heap.size, w.heap.size + 1, he, h1, h2, by omega, by omega, by omega, hb⟩

theorem infoInt : (Try.prog.info? 3).map (fun i => (i.zero, i.size, i.bytes)) = some (some (.int .i64 0), 1, 8) := by kernel_rfl
def cellsI (l : List Int) : List Value := l.map (fun n => .int .i64 n)
theorem cellsI_length (l : List Int) : (cellsI l).length = l.length := by simp [cellsI]
/-- An owned row of ints, as the walks know rows. -/
theorem row_owned {w : World} {base : Nat} {v : Value} {k : Nat} {l : List Int} (h : w.ownsRow base 3 1 v k (cellsI l)) (hk : k ≤ maxLen) : ∃ (a : Option Addr) (cap : Nat), v = .slice a k cap ∧ IsRow w a k l := by
  have hl : l.length = k := by have := h.1; rw [cellsI_length] at this; omega
  rcases h.2 with ⟨rfl, rfl⟩ | ⟨g, cap, cur, rfl, hbg, hg, hnc, hcm, hcs, htake⟩
  · have : l = [] := List.eq_nil_of_length_eq_zero hl
    subst this
    exact ⟨none, 0, rfl, row_none w none⟩
  · refine ⟨_, cap, rfl, hl, hk, fun j n hj => ⟨g, 0, rfl, (Array.getElem?_eq_some_iff.1 hg).1, ?_⟩⟩
    have hjl : j < k := by have := (List.getElem?_eq_some_iff.1 hj).1; omega
    have hc := h.cellAt j (by omega)
    rw [Nat.zero_add, hc]
    simp [cellsI, hj]

/-- A row that lies in new memory. -/
def Fresh (n : Nat) (a : Option Addr) : Prop := ∀ g, a = some g → n ≤ g.block
theorem cellsI_succ (s : ByteArray) (A k : Nat) : cellsI (rowsN s A (k + 1)) = cellsI (rowsN s A k) ++ [.int .i64 (numN s (A + 2 * k))] := by rw [rowsN_succ]; simp [cellsI]
theorem own_ne {w : World} {base x : Nat} {v : Value} {k : Nat} {xs : List Value} (h : w.ownsRow base 3 1 v k xs) (hx : x < base) : v.ownBlock = none ∨ v.ownBlock ≠ some x := by
  cases hv : v.ownBlock with
  | none => exact .inl rfl
  | some g =>
    right
    intro e
    have e2 : g = x := by cases e; rfl
    have := (h.lt g hv).1
    omega

set_option maxHeartbeats 2000000 in
theorem taken_access (s : ByteArray) (w : World) (n : Int) (hN : Hid (numN s 1 = n)) (hs : s.size ≤ maxLen) (h3 : s.size = 3) (hL : Hid (bt s 0 = 65)) :
    Calls Try.prog 24 #[.string s] w fun e w' => e = .returned (pv false n none 0 0) ∧ Below w.heap.size w w' := by
  have hs' := Lib.hid hs
  unfold maxLen at hs
  have HS := Lib.hid h3; clear h3 hs
  go_enter Try.func24, Try.ntmps24
  go_wp2_with fail
  refine (taker_w s _).mono ?_
  rintro e w1 ⟨b1, b2, rfl, o1, o2, hne, l1, l2, hb1⟩
  have R := (qblk_new 24 w false 0 (.slice none 0 0)).next hb1
  have B := bw_trans (below_box w _) hb1
  simp at l1 l2
  obtain ⟨rb, hrb⟩ : ∃ rb, rb = w.heap.size := ⟨_, rfl⟩
  have L0 : w.heap.size ≤ rb := by omega
  have L2 : w.heap.size ≤ b2 := by omega
  rw [← hrb] at R l1 l2 ⊢
  clear hb1 hrb
  go_wp2_with fail
  have hpw := take_w s 0 1 b1 b2 1 65 w1 rfl (Lib.hid (by rw [numK_1, hL.out])) o1 o2 hne (by omega) hs'.out (by have := HS.out; omega)
  refine hpw.mono ?_
  clear hpw o1 o2
  rintro e w2 ⟨rfl, o1, o2, hg⟩
  replace R := R.grown hg (by simp; omega)
  replace B := B.grown hg B.size (fun k hk => by cases hk; exact L2)
  clear hg
  go_wp2_with fail
  have hpw := take_w s 1 2 b1 b2 2 n w2 rfl (Lib.hid (by rw [numK_2, hN.out])) o1 o2 hne (by omega) hs'.out (by have := HS.out; omega)
  refine hpw.mono ?_
  clear hpw o1 o2
  rintro e w3 ⟨rfl, o1, o2, hg⟩
  replace R := R.grown hg (by simp; omega)
  replace B := B.grown hg B.size (fun k hk => by cases hk; exact L2)
  clear hg
  have K := qblk_new 24 w3 false n (.slice none 0 0)
  have B4 := below_box w3 (.cells #[.bool false, .int .i64 n, .slice none 0 0] 24)
  have l3 := o1.lt
  have l4 := o2.lt
  have l5 := R.lt
  obtain ⟨W, hW⟩ : ∃ W, W = w3.alloc (.cells #[.bool false, .int .i64 n, .slice none 0 0] 24) := ⟨_, rfl⟩
  obtain ⟨pb, hpb⟩ : ∃ pb, pb = w3.heap.size := ⟨_, rfl⟩
  rw [← hW] at K B4
  rw [← hpb] at K l3 l4 l5
  have Lp : w.heap.size ≤ pb := by rw [hpb]; exact B.size
  replace o1 := o1.next B4
  replace o2 := o2.next B4
  replace R := R.next B4
  replace B := bw_trans B B4
  clear B4
  go_upto_region 3 with (fail)
  rw [← hW, ← hpb]
  clear hW hpb
  obtain ⟨k0, k1, k2⟩ := K.cells
  have kk := R.cells
  obtain ⟨r0, r1, r2⟩ := kk
  have f0 := R.free 0
  have f1 := R.free 1
  have f2 := R.free 2
  have HB := Lib.hid B
  clear B R K o1 o2
  go_wp2
  exact bodyPost_ret (v := pv false n none 0 0) (by simp [results, Try.results24, go_sem, r0, r1, r2]) rfl ⟨rfl, below_set3 HB.out L0 _ _ _⟩

/-- Behind j rounds. -/
def KTak (s : ByteArray) (base b1 b2 pb rb k : Nat) (n : Int) (w : World) (i : Value) (wr : World) : Prop :=
  ∃ (j : Nat) (v : Value), j ≤ k ∧ i = .int .i64 (j : Nat) ∧ One 9 wr b1 (.string s) ∧ One 3 wr b2 (.int .i64 ((4 + 2 * j : Nat) : Int)) ∧ QBlk 24 wr pb true n v ∧ QBlk 24 wr rb false 0 (.slice none 0 0) ∧
    wr.ownsRow base 3 1 v j (cellsI (rowsN s 4 j)) ∧ Below w.heap.size w wr ∧ base ≤ wr.heap.size

set_option maxHeartbeats 2000000 in
theorem taken_trunk (s : ByteArray) (w : World) (n : Int) (k : Nat) (hN : Hid (numN s 1 = n)) (hs : s.size ≤ maxLen) (h3 : s.size = 4 + 2 * k) (hL : Hid (bt s 0 = 84)) (hK : Hid (bt s 3 = k)) (hk : k ≤ 255) :
    Calls Try.prog 24 #[.string s] w fun e w' => (∃ (a : Option Addr) (cap : Nat), e = .returned (pv true n a k cap) ∧ IsRow w' a k (rowsN s 4 k) ∧ Fresh w.heap.size a) ∧ Below w.heap.size w w' := by
  have hs' := Lib.hid hs
  unfold maxLen at hs
  obtain ⟨i0, hi, hz0, hz1, hz2⟩ := info_parts infoInt
  have HS := Lib.hid h3; clear h3 hs
  go_enter Try.func24, Try.ntmps24
  go_wp2_with fail
  refine (taker_w s _).mono ?_
  rintro e w1 ⟨b1, b2, rfl, o1, o2, hne, l1, l2, hb1⟩
  have R := (qblk_new 24 w false 0 (.slice none 0 0)).next hb1
  have B := bw_trans (below_box w _) hb1
  simp at l1 l2
  obtain ⟨rb, hrb⟩ : ∃ rb, rb = w.heap.size := ⟨_, rfl⟩
  have L0 : w.heap.size ≤ rb := by omega
  have L2 : w.heap.size ≤ b2 := by omega
  rw [← hrb] at R l1 l2 ⊢
  clear hb1 hrb
  go_wp2_with fail
  have hpw := take_w s 0 1 b1 b2 1 84 w1 rfl (Lib.hid (by rw [numK_1, hL.out])) o1 o2 hne (by omega) hs'.out (by have := HS.out; omega)
  refine hpw.mono ?_
  clear hpw o1 o2
  rintro e w2 ⟨rfl, o1, o2, hg⟩
  replace R := R.grown hg (by simp; omega)
  replace B := B.grown hg B.size (fun k hk => by cases hk; exact L2)
  clear hg
  go_wp2_with fail
  have hpw := take_w s 1 2 b1 b2 2 n w2 rfl (Lib.hid (by rw [numK_2, hN.out])) o1 o2 hne (by omega) hs'.out (by have := HS.out; omega)
  refine hpw.mono ?_
  clear hpw o1 o2
  rintro e w3 ⟨rfl, o1, o2, hg⟩
  replace R := R.grown hg (by simp; omega)
  replace B := B.grown hg B.size (fun k hk => by cases hk; exact L2)
  clear hg
  have K := qblk_new 24 w3 true n (.slice none 0 0)
  have B4 := below_box w3 (.cells #[.bool true, .int .i64 n, .slice none 0 0] 24)
  have l3 := o1.lt
  have l4 := o2.lt
  have l5 := R.lt
  obtain ⟨W, hW⟩ : ∃ W, W = w3.alloc (.cells #[.bool true, .int .i64 n, .slice none 0 0] 24) := ⟨_, rfl⟩
  obtain ⟨pb, hpb⟩ : ∃ pb, pb = w3.heap.size := ⟨_, rfl⟩
  rw [← hW] at K B4
  rw [← hpb] at K l3 l4 l5
  have Lp : w.heap.size ≤ pb := by rw [hpb]; exact B.size
  replace o1 := o1.next B4
  replace o2 := o2.next B4
  replace R := R.next B4
  replace B := bw_trans B B4
  clear B4
  go_upto_region 3 with (fail)
  rw [← hW, ← hpb]
  clear hW hpb
  have kk := K.cells
  obtain ⟨k0, k1, k2⟩ := kk
  go_wp2_with fail
  have hpw := take_w s 3 1 b1 b2 1 (k : Int) W rfl (Lib.hid (by rw [numK_1, hK.out])) o1 o2 hne (by omega) hs'.out (by have := HS.out; omega)
  refine hpw.mono ?_
  clear hpw o1 o2
  rintro e V ⟨rfl, o1, o2, hg⟩
  replace R := R.grown hg (by simp; omega)
  replace K := K.grown hg (by simp; omega)
  replace B := B.grown hg B.size (fun k hk => by cases hk; exact L2)
  clear hg k0 k1 k2
  have q1 := o1.lt
  have q2 := o2.lt
  have q3 := R.lt
  have q4 := K.lt
  go_wp2_with fail
  go_loopw [17] (fun i wr => KTak s V.heap.size b1 b2 pb rb k n w i wr) (fun i _ => k - (intOf i).toNat)
  case atStart => exact ⟨0, .slice none 0 0, Nat.zero_le _, rfl, o1, o2, K, R, World.ownsRow_nil V V.heap.size 3 1, B, Nat.le_refl _⟩
  case round =>
    clear o1 o2 R K B
    obtain ⟨j, v, hj, rfl, o1, o2, K, R, own, B, zs⟩ := hrel
    obtain ⟨base, hbase⟩ : ∃ base, base = V.heap.size := ⟨_, rfl⟩
    rw [← hbase] at own zs q1 q2 q3 q4 ⊢
    clear hbase
    have kk := K.cells
    obtain ⟨k0, k1, k2⟩ := kk
    by_cases hjk : j < k
    · obtain ⟨M, hM⟩ : ∃ M, numN s (4 + 2 * j) = M := ⟨_, rfl⟩
      have HM := Lib.hid hM; clear hM
      have Ct := Lib.hid (take_w s (4 + 2 * j) 2 b1 b2 2 M wr.drew rfl (Lib.hid (by rw [numK_2, HM.out])) o1 o2 hne (by omega) hs'.out (by have := HS.out; omega))
      have hnb : ∀ x, x < base → v.ownBlock = none ∨ v.ownBlock ≠ some x := fun x hx => by
        cases hv : v.ownBlock with
        | none => exact .inl rfl
        | some g =>
          right
          intro e
          have e2 : g = x := by cases e; rfl
          have := (own.lt g hv).1
          omega
      have HNE : Hid (∀ x, x < base → some x ≠ v.ownBlock) := by
        refine Lib.hid ?_
        intro x hx e
        rcases hnb x hx with h | h
        · rw [h] at e; cases e
        · exact h e.symm
      have HNB := Lib.hid hnb; clear hnb
      have HO := Lib.hid own; clear own
      have HB := Lib.hid B; clear B
      have HR := Lib.hid (show QBlk 24 wr.drew rb false 0 (.slice none 0 0) from R); clear R
      have HK := Lib.hid (show QBlk 24 wr.drew pb true n v from K); clear K
      have H1 := Lib.hid o1; have H2 := Lib.hid o2; clear o1 o2
      clear k0 k1
      have hpb2 : pb ≠ b2 := by omega
      have hrb2 : rb ≠ b2 := by omega
      go_upto_block 1 with (fail)
      go_cut [] (fun wx => ∃ v', One 9 wx b1 (.string s) ∧ One 3 wx b2 (.int .i64 ((4 + 2 * (j + 1) : Nat) : Int)) ∧ QBlk 24 wx pb true n v' ∧ QBlk 24 wx rb false 0 (.slice none 0 0) ∧ wx.ownsRow base 3 1 v' (j + 1) (cellsI (rowsN s 4 (j + 1))) ∧ Below w.heap.size w wx ∧ base ≤ wx.heap.size)
      case first =>
        go_upto_region 6 with (fail)
        go_region_law (first
          | (go_simp; go_at_call 38; (with_reducible refine Ct.out.mono ?_); rintro e y0 ⟨rfl, p1, p2, hg⟩; have KY := Lib.hid (HK.out.grown (w' := y0) hg (by simp; omega)); have RY := Lib.hid (HR.out.grown (w' := y0) hg (by simp; omega)); have BY := Lib.hid ((HB.out.drew).grown hg HB.out.size (fun k hk => by cases hk; exact L2)); have OY := Lib.hid (((HO.out.drew).kept hg (HNB.out b2 q2)).alloc (.cells #[.int .i64 M] 3)); have P1 := Lib.hid p1; have P2 := Lib.hid p2; have zy : base ≤ y0.heap.size := Nat.le_trans zs hg.size; clear p1 p2 hg; have T0 := KY.out.cells.2.2; have T2 := (KY.out.next (below_box y0 (.cells #[.int .i64 M] 3))).cells.2.2)
          | (refine step_append_lies _ (by rfl) _ _ _ (by rfl) base 3 i0 (.int .i64 0) 1 8 Try.underlying22 hi hz0 hz1 hz2 rfl (by decide) v j (cellsI (rowsN s 4 j)) (by rfl) OY.out ⟨y0.heap.size, 0, none⟩ 1 1 [.int .i64 M] (by rfl) rfl (World.news_of_block (heap_alloc_new y0 _)) (fun u hu => by simp at hu; subst hu; rfl) (by decide) (by unfold maxLen; omega) (by omega) (by simp; omega) _ rfl ?_; intro g cap y1 hown1 hgrow hat hlt; have KZ := Lib.hid ((KY.out.next (below_box y0 (.cells #[.int .i64 M] 3))).grown (w' := y1) hgrow (HNE.out pb q4)); have T3 := KZ.out.cells.2.2; have F3 := KZ.out.free 2))
        all_goals go_wp2_with fail
        all_goals go_meet
        all_goals (have e8 : 4 + 2 * (j + 1) = 4 + 2 * j + 2 := by omega)
        all_goals (have BZ : Below w.heap.size w y1 := (BY.out.alloc BY.out.size _).grown hgrow (by simp; omega) (fun x hx => Nat.le_trans (by omega) ((HO.out.lt x hx).1)))
        all_goals refine ⟨_, ((P1.out.next (below_box y0 _)).grown hgrow (HNE.out b1 q1)).other 2 _ (by omega), by rw [e8]; exact ((P2.out.next (below_box y0 _)).grown hgrow (HNE.out b2 q2)).other 2 _ (by omega), KZ.out.set2 _, ((RY.out.next (below_box y0 _)).grown hgrow (HNE.out rb q3)).other 2 _ (by omega), ?_, BZ.setCell (p := ⟨pb, 2, none⟩) Lp _, by simp; have := hgrow.size; simp at this; omega⟩
        all_goals (rw [cellsI_succ, HM.out])
        all_goals exact hown1.kept (grown_set y1 pb 2 _) (.inr (by have := (hown1.lt g rfl).1; simp [Value.ownBlock]; omega))
      case rest =>
      obtain ⟨v', n1, n2, n3, n4, n5, n6, n7⟩ := hcut
      have RN : KTak s base b1 b2 pb rb k n w (.int .i64 ((j + 1 : Nat) : Int)) _ := ⟨j + 1, v', by omega, rfl, n1, n2, n3, n4, n5, n6, n7⟩
      have RR := Lib.hid RN
      clear RN n1 n2 n3 n4 n5 n6 n7 Ct HNE HNB HO HB HR HK H1 H2 k2
      go_wp2
      refine ⟨?_, by simp [intOf]; omega⟩
      exact RR.out
    · obtain rfl : j = k := by omega
      obtain ⟨a, cap, rfl, _⟩ := row_owned own (by unfold maxLen; omega)
      have hfr : Hid (Fresh w.heap.size a) := Lib.hid (fun g hg => by have := (own.lt g.block (by rw [hg]; rfl)).1; omega)
      have own3 := ((own.kept (grown_set wr rb 0 (.bool true)) (own_ne own q3)).kept (grown_set _ rb 1 (.int .i64 n)) (own_ne own q3)).kept (grown_set _ rb 2 (.slice a j cap)) (own_ne own q3)
      obtain ⟨a', cap', he, hrow⟩ := row_owned own3 (by unfold maxLen; omega)
      cases he
      have HR3 := Lib.hid hrow; clear hrow own3 own
      have kk := R.cells
      obtain ⟨r0, r1, r2⟩ := kk
      have f0 := R.free 0
      have f1 := R.free 1
      have f2 := R.free 2
      have HB := Lib.hid B
      clear B R K o1 o2
      go_wp2
      exact bodyPost_ret (v := pv true n a j cap) (by simp [results, Try.results24, go_sem, r0, r1, r2]) rfl ⟨⟨a, cap, rfl, HR3.out, hfr.out⟩, below_set3 HB.out L0 _ _ _⟩

theorem IsRow.set {w : World} {a : Option Addr} {len : Nat} {l : List Int} (h : IsRow w a len l) {b : Nat} (i : Nat) (u : Value) (hf : ∀ g, a = some g → g.block ≠ b) : IsRow (w.setCell ⟨b, i, none⟩ u) a len l :=
  ⟨h.length, h.bound, fun k n hk => by
    obtain ⟨x, off, e, hx, hc⟩ := h.at_ k n hk
    refine ⟨x, off, e, by simpa using hx, ?_⟩
    exact (World.cell?_of_block (Below.heap_setCell w ⟨b, i, none⟩ u x (hf _ e))).trans hc⟩

theorem bt_fixed {s : ByteArray} (h : lenB s = true) : (bt s 0 = 65 ∧ s.size = 3) ∨ (bt s 0 = 84 ∧ ∃ k : Nat, bt s 3 = k ∧ s.size = 4 + 2 * k ∧ k ≤ 255) := by
  unfold lenB at h
  by_cases h3 : s.size < 3
  · rw [if_pos h3] at h; cases h
  · rw [if_neg h3] at h
    by_cases hA : bt s 0 = 65
    · rw [if_pos hA] at h
      exact .inl ⟨hA, of_decide_eq_true h⟩
    · rw [if_neg hA] at h
      by_cases hT : bt s 0 = 84 ∧ 4 ≤ s.size
      · rw [if_pos hT] at h
        have hz := of_decide_eq_true h
        have hb := bt_bd s 3
        exact .inr ⟨hT.1, (bt s 3).toNat, by omega, by omega, by omega⟩
      · rw [if_neg hT] at h; cases h

theorem taken_w (s : ByteArray) (w : World) (X : Po) (hX : Hid (takenR s = X)) (hL : lenB s = true) (hs : s.size ≤ maxLen) :
    Calls Try.prog 24 #[.string s] w fun e w' => (∃ (a : Option Addr) (len cap : Nat), e = .returned (pv X.trunk X.native a len cap) ∧ IsRow w' a len X.allowed ∧ Fresh w.heap.size a) ∧ Below w.heap.size w w' := by
  rw [← hX.out]
  rcases bt_fixed hL with ⟨h0, h3⟩ | ⟨h0, k, hk, hz, hk2⟩
  · have e : takenR s = ⟨false, numN s 1, []⟩ := by unfold takenR; rw [if_neg (by omega)]
    rw [e]
    refine (taken_access s w _ (Lib.hid rfl) hs h3 (Lib.hid h0)).mono ?_
    rintro e w' ⟨rfl, hb⟩
    exact ⟨⟨none, 0, 0, rfl, row_none _ _, fun g hg => by cases hg⟩, hb⟩
  · have e : takenR s = ⟨true, numN s 1, rowsN s 4 k⟩ := by unfold takenR; rw [if_pos h0, hk, Int.toNat_natCast]
    rw [e]
    refine (taken_trunk s w _ k (Lib.hid rfl) hs hz (Lib.hid h0) (Lib.hid hk) hk2).mono ?_
    rintro e w' ⟨⟨a, cap, rfl, hr, hf⟩, hb⟩
    exact ⟨⟨a, k, cap, rfl, hr, hf⟩, hb⟩

/-- What a call leaves that answers a set-up and a number. -/
def PPost (w : World) (X : Po) (E : Int) (e : Ending) (w' : World) : Prop :=
  (∃ (a : Option Addr) (len cap : Nat), e = .returned (.tuple #[pv X.trunk X.native a len cap, .int .i64 E]) ∧ IsRow w' a len X.allowed) ∧ Below w.heap.size w w'

set_option maxHeartbeats 1000000 in
theorem parse_short (s : ByteArray) (w : World) (hs : s.size ≤ maxLen) (hL : Hid (lenB s = false)) :
    Calls Try.prog 9 #[.string s] w (PPost w zeroP 2) := by
  have R := qblk_new 24 w false 0 (.slice none 0 0)
  have B := below_box w (.cells #[.bool false, .int .i64 0, .slice none 0 0] 24)
  go_enter Try.func9, Try.ntmps9
  go_wp2_with fail
  refine (rightLength_any s _ hs).mono ?_
  rintro e w1 ⟨rfl, rfl⟩
  rw [hL.out]
  obtain ⟨W, hW⟩ : ∃ W, W = w.alloc (.cells #[.bool false, .int .i64 0, .slice none 0 0] 24) := ⟨_, rfl⟩
  obtain ⟨rb, hrb⟩ : ∃ rb, rb = w.heap.size := ⟨_, rfl⟩
  have L0 : w.heap.size ≤ rb := by omega
  rw [← hW] at R B ⊢
  rw [← hrb] at R ⊢
  clear hW hrb
  have kk := R.cells
  obtain ⟨r0, r1, r2⟩ := kk
  have f0 := R.free 0
  have f1 := R.free 1
  have f2 := R.free 2
  have HB := Lib.hid B
  clear B R hL
  go_wp2
  exact bodyPost_ret (v := .tuple #[pv false 0 none 0 0, .int .i64 2]) (by simp [results, Try.results9, go_sem, r0, r1, r2]) rfl ⟨⟨none, 0, 0, rfl, row_none _ _⟩, below_set3 HB.out L0 _ _ _⟩

set_option maxHeartbeats 1000000 in
theorem parse_long (s : ByteArray) (w : World) (X F : Po) (E : Int) (ok : Bool) (hs : s.size ≤ maxLen) (hL : Hid (lenB s = true)) (hX : Hid (takenR s = X)) (hp : Hid (portB X = ok)) (hF : Hid (ok = true → F = X ∧ E = 0)) (hG : Hid (ok = false → F = zeroP ∧ E = 2)) :
    Calls Try.prog 9 #[.string s] w (PPost w F E) := by
  have R := qblk_new 24 w false 0 (.slice none 0 0)
  have B := below_box w (.cells #[.bool false, .int .i64 0, .slice none 0 0] 24)
  have eW := size_box w (.cells #[.bool false, .int .i64 0, .slice none 0 0] 24)
  go_enter Try.func9, Try.ntmps9
  go_wp2_with fail
  refine (rightLength_any s _ hs).mono ?_
  rintro e w1 ⟨rfl, rfl⟩
  rw [hL.out]
  obtain ⟨W, hW⟩ : ∃ W, W = w.alloc (.cells #[.bool false, .int .i64 0, .slice none 0 0] 24) := ⟨_, rfl⟩
  obtain ⟨rb, hrb⟩ : ∃ rb, rb = w.heap.size := ⟨_, rfl⟩
  have L0 : w.heap.size ≤ rb := by omega
  rw [← hW] at R B eW ⊢
  rw [← hrb] at R eW ⊢
  clear hW hrb
  have EW := Lib.hid eW; clear eW
  go_wp2_with fail
  have hpw := taken_w s W X hX hL.out hs
  refine hpw.mono ?_
  clear hpw
  rintro e w2 ⟨⟨a, len, cap, rfl, hr, hf⟩, hb⟩
  replace R := R.next hb
  replace B := bw_trans B hb
  have hfr : ∀ g, a = some g → g.block ≠ rb := fun g hg => by have := hf g hg; have := EW.out; omega
  have HF := Lib.hid hfr
  clear hf hb hfr EW
  obtain ⟨Xt, Xn, Xl⟩ := X
  simp only at hr ⊢
  have K := pblk_new 24 w2 Xt Xn a len cap
  have B3 := below_box w2 (.cells #[.bool Xt, .int .i64 Xn, .slice a len cap] 24)
  obtain ⟨V, hV⟩ : ∃ V, V = w2.alloc (.cells #[.bool Xt, .int .i64 Xn, .slice a len cap] 24) := ⟨_, rfl⟩
  obtain ⟨pb, hpb⟩ : ∃ pb, pb = w2.heap.size := ⟨_, rfl⟩
  rw [← hV] at K B3
  rw [← hpb] at K
  replace hr := hr.next B3
  replace R := R.next B3
  replace B := bw_trans B B3
  clear B3
  go_upto_region 4 with (fail)
  rw [← hV, ← hpb]
  clear hV hpb
  have kk := K.cells
  obtain ⟨k0, k1, k2⟩ := kk
  go_wp2_with fail
  have hpw := portRight_any Xt Xn a len cap Xl _ hr
  refine hpw.mono ?_
  clear hpw
  rintro e w4 ⟨rfl, hb⟩
  rw [hp.out]
  replace hr := hr.next hb
  replace R := R.next hb
  replace K := K.next hb
  replace B := bw_trans B hb
  clear k0 k1 k2 hb
  have kk := K.cells
  obtain ⟨k0, k1, k2⟩ := kk
  have kk := R.cells
  obtain ⟨r0, r1, r2⟩ := kk
  have f0 := R.free 0
  have f1 := R.free 1
  have f2 := R.free 2
  have HB := Lib.hid B
  have HR := Lib.hid (((hr.set 0 (.bool Xt) HF.out).set 1 (.int .i64 Xn) HF.out).set 2 (.slice a len cap) HF.out)
  clear B R K hr HF hL hX hp
  cases ok with
  | false =>
    obtain ⟨rfl, rfl⟩ := hG.out rfl
    clear hF hG
    go_wp2
    exact bodyPost_ret (v := .tuple #[pv false 0 none 0 0, .int .i64 2]) (by simp [results, Try.results9, go_sem, r0, r1, r2]) rfl ⟨⟨none, 0, 0, rfl, row_none _ _⟩, below_set3 HB.out L0 _ _ _⟩
  | true =>
    obtain ⟨rfl, rfl⟩ := hF.out rfl
    clear hF hG
    go_wp2
    exact bodyPost_ret (v := .tuple #[pv Xt Xn a len cap, .int .i64 0]) (by simp [results, Try.results9, go_sem, r0, r1, r2]) rfl ⟨⟨a, len, cap, rfl, HR.out⟩, below_set3 HB.out L0 _ _ _⟩

theorem parse_w (s : ByteArray) (w : World) (X : Po) (E : Int) (hs : s.size ≤ maxLen) (hX : Hid (parseP s = (X, E))) :
    Calls Try.prog 9 #[.string s] w (PPost w X E) := by
  have e := hX.out
  unfold parseP at e
  cases hL : lenB s with
  | false =>
    rw [hL] at e
    simp at e
    obtain ⟨rfl, rfl⟩ := e
    exact parse_short s w hs (Lib.hid hL)
  | true =>
    rw [hL] at e
    cases hp : portB (takenR s) with
    | false =>
      rw [hp] at e
      simp at e
      obtain ⟨rfl, rfl⟩ := e
      exact parse_long s w _ _ _ false hs (Lib.hid hL) (Lib.hid rfl) (Lib.hid hp) (Lib.hid fun h => by cases h) (Lib.hid fun _ => ⟨rfl, rfl⟩)
    | true =>
      rw [hp] at e
      simp at e
      obtain ⟨rfl, rfl⟩ := e
      exact parse_long s w _ _ _ true hs (Lib.hid hL) (Lib.hid rfl) (Lib.hid hp) (Lib.hid fun _ => ⟨rfl, rfl⟩) (Lib.hid fun h => by cases h)
end Go.Proofs.Ytjabbbaiboaicaa
