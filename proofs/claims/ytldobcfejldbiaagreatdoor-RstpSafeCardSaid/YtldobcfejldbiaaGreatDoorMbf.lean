/-
  Layer 8: Select, where the ports are right.
-/
import Derived.Test.YtldobcfejldbiaaGreatDoorMae
namespace Go.Proofs.YtldobcfejldbiaaGreatDoor
set_option linter.unusedVariables false
set_option linter.unusedSimpArgs false
open Go.RowKit Vm Rm

theorem own_put7 {w : World} {base n k s : Nat} {T : TypeId} {v : Value} {xs : List Value} (h : w.ownsRow base T s v k xs) (hn : n < base) (r c b p P : Int) (rs os : Value) : (put7 w n r c b p P rs os).ownsRow base T s v k xs := by
  have key : ∀ (w : World) (j : Nat) (u : Value), w.ownsRow base T s v k xs → (w.setCell ⟨n, j, none⟩ u).ownsRow base T s v k xs := by
    intro w j u h
    refine h.kept (grown_set w n j u) ?_
    cases hv : v.ownBlock with
    | none => exact .inl rfl
    | some x => exact .inr (fun e => own_far h hn (e.symm.trans hv.symm))
  exact key _ _ _ (key _ _ _ (key _ _ _ (key _ _ _ (key _ _ _ (key _ _ _ (key _ _ _ h))))))
/-- Behind k rounds. -/
structure SelAt (br : Int) (l : List Inf) (vr vc vb vp : Int) (P : Int) (rb sb base : Nat) (w : World) (k : Nat) (wr : World) (rs os : Value) : Prop where
  r : RBlk wr rb vr vc vb vp P rs os
  s : RBlk wr sb 0 0 0 0 0 (.slice none 0 0) (.slice none 0 0)
  rs_ : wr.ownsRow base 3 1 rs k (cellsI (rolesN br l k))
  os_ : wr.ownsRow base 47 4 os k (cellsV ((l.take k).map (offerR br ⟨vr, vc, vb, vp⟩)))
  low : Below w.heap.size w wr
  hi : base ≤ wr.heap.size
def SelInv (br : Int) (l : List Inf) (n : Nat) (vr vc vb vp : Int) (P : Int) (rb sb base : Nat) (w : World) (i : Value) (wr : World) : Prop :=
  ∃ (k : Nat) (rs os : Value), k ≤ n ∧ i = .int .i64 (k : Nat) ∧ SelAt br l vr vc vb vp P rb sb base w k wr rs os

theorem sel_next {br : Int} {l : List Inf} {vr vc vb vp P : Int} {rb sb base k g2 cap2 : Nat} {w wr y2 y3 : World} {rs os' : Value} {ρ : Int} (r2 : rb < base) (s2 : sb < base) (hrs : rb ≠ sb) (hwr : w.heap.size ≤ rb)
    (hl : Below w.heap.size w wr) (hh : base ≤ wr.heap.size) (HNR : rolesN br l (k + 1) = rolesN br l k ++ [ρ]) (KZ : RBlk y3 rb vr vc vb vp P rs os') (SY : RBlk y2 sb 0 0 0 0 0 (.slice none 0 0) (.slice none 0 0))
    (OY : (y2.alloc (.cells #[.int .i64 ρ] 3)).ownsRow base 3 1 rs k (cellsI (rolesN br l k)))
    (VY : (y2.alloc (.cells #[.int .i64 ρ] 3)).ownsRow base 47 4 os' (k + 1) (cellsV ((l.take (k + 1)).map (offerR br ⟨vr, vc, vb, vp⟩))))
    (BY : Below w.heap.size w y2) (zy : base ≤ y2.heap.size) (hown2 : y3.ownsRow base 3 1 (.slice (some ⟨g2, 0, none⟩) (k + 1) cap2) (k + 1) (cellsI (rolesN br l k) ++ [.int .i64 ρ]))
    (hgrow2 : (y2.alloc (.cells #[.int .i64 ρ] 3)).grownBy y3 rs.ownBlock) :
    ∃ rs' os', SelAt br l vr vc vb vp P rb sb base w (k + 1) (y3.setCell ⟨rb, 5, none⟩ (.slice (some ⟨g2, 0, none⟩) (k + 1) cap2)) rs' os' := by
  refine ⟨_, _, KZ.set5 _, ?_, ?_, ?_, ?_, ?_⟩
  · exact ((SY.next (below_box y2 _)).grown hgrow2 (own_far OY s2)).other 5 _ (Ne.symm hrs)
  · rw [HNR, cellsI_add]
    exact hown2.kept (grown_set y3 rb 5 _) (.inr (fun e => own_far hown2 r2 e.symm))
  · refine (VY.kept hgrow2 (own_apart VY OY (by decide))).kept (grown_set y3 rb 5 _) ?_
    cases hv : os'.ownBlock with
    | none => exact .inl rfl
    | some x => exact .inr (fun e => own_far VY r2 (e.symm.trans hv.symm))
  · refine (((BY.alloc BY.size _).grown hgrow2 (by simp; have := BY.size; omega) (fun x hx => Nat.le_trans (by have := hl.size; omega) (OY.lt x hx).1)).setCell (p := ⟨rb, 5, none⟩) hwr _)
  · have h1 := hgrow2.size
    have h2 := (grown_set y3 rb 5 (.slice (some ⟨g2, 0, none⟩) (k + 1) cap2)).size
    simp at h1 h2 ⊢
    omega

set_option maxRecDepth 20000 in
set_option maxHeartbeats 2000000 in
theorem select_ok (br : Int) (a : Option Addr) (cap : Nat) (l : List Inf) (vr vc vb vp P : Int) (w : World) (hbr : u64B br) (h : IRow w a l) (hcap : l.length ≤ cap) (hR : Hid (rightR l = true)) (hV : Hid (rootV br l = ⟨vr, vc, vb, vp⟩)) (hP : Hid (portI (rootP br l) = P)) :
    Calls Tryz.prog 62 #[.int .u64 br, .slice a l.length cap] w fun e w' =>
      ∃ (ra oa : Option Addr) (rcap ocap : Nat), e = .returned (.tuple #[res vr vc vb vp P (.slice ra l.length rcap) (.slice oa l.length ocap), .int .i64 0]) ∧ NRow w' ra (rolesN br l l.length) ∧ VRow w' oa (offersR br l) ∧ (∀ x, ra = some x → w.heap.size ≤ x.block) ∧ (∀ x, oa = some x → w.heap.size ≤ x.block) ∧ Below w.heap.size w w' := by
  obtain ⟨n, hn⟩ : ∃ n, l.length = n := ⟨_, rfl⟩
  have hl16 : n ≤ 16 := by rw [← hn]; exact right_len hR.out
  have HBR := Lib.hid hbr
  have CR := Lib.hid (fun w' (hb : Below w.heap.size w w') => right_w a cap l true w' (h.next hb) (by omega) hcap hR)
  have CO := Lib.hid (fun w' (hb : Below w.heap.size w w') => root_w br a n cap l vr vc vb vp P w' HBR.out (h.next hb) hn (by omega) hV hP)
  have HA := Lib.hid h
  have HN := Lib.hid hn
  rw [hn] at CR ⊢
  clear h hcap hn hbr
  go_enter Tryz.func62, Tryz.ntmps62
  go_wp2_with fail
  refine (CR.out _ (below_box _ _)).mono ?_
  rintro e w1 ⟨rfl, hb1⟩
  have S1 := (rblk_new w 0 0 0 0 0 (.slice none 0 0) (.slice none 0 0)).next hb1
  have B1 := bw_trans (below_box w _) hb1
  have ls := S1.lt
  clear hb1 CR
  go_wp2_with fail
  refine (CO.out _ (bw_alloc B1 _)).mono ?_
  rintro e w2 ⟨rfl, hb2⟩
  have R2 := (rblk_new w1 0 0 0 0 0 (.slice none 0 0) (.slice none 0 0)).next hb2
  have hb3 := bw_trans (below_box w1 _) hb2
  have S2 := S1.next hb3
  have B2 := bw_trans B1 hb3
  clear hb2 hb3 S1 CO
  obtain ⟨rb, hrb⟩ : ∃ rb, rb = w1.heap.size := ⟨_, rfl⟩
  obtain ⟨sb, hsb⟩ : ∃ sb, sb = w.heap.size := ⟨_, rfl⟩
  have hrs : rb ≠ sb := by omega
  have hwr : w.heap.size ≤ rb := by omega
  have hws : w.heap.size ≤ sb := by omega
  rw [← hrb] at R2 ⊢
  rw [← hsb] at S2 ⊢
  have r2 := R2.lt
  have s2 := S2.lt
  clear hrb hsb ls
  obtain ⟨k0, k1, k2, k3, k4, k5, k6⟩ := R2.cells
  have f0 := R2.free 0
  have f1 := R2.free 1
  have f2 := R2.free 2
  have f3 := R2.free 3
  have f4 := R2.free 4
  have T := R2.put5 vr vc vb vp P
  have HT := Lib.hid T
  have HS := Lib.hid (show RBlk ((put4 w2 rb vr vc vb vp).setCell ⟨rb, 4, none⟩ (.int .i64 P)) sb 0 0 0 0 0 (.slice none 0 0) (.slice none 0 0) from ((((S2.other 0 _ (Ne.symm hrs)).other 1 _ (Ne.symm hrs)).other 2 _ (Ne.symm hrs)).other 3 _ (Ne.symm hrs)).other 4 _ (Ne.symm hrs))
  have HB := Lib.hid (show Below w.heap.size w ((put4 w2 rb vr vc vb vp).setCell ⟨rb, 4, none⟩ (.int .i64 P)) from (below_put4 B2 hwr vr vc vb vp).setCell (p := ⟨rb, 4, none⟩) hwr _)
  have HG := Lib.hid (show w2.heap.size ≤ ((put4 w2 rb vr vc vb vp).setCell ⟨rb, 4, none⟩ (.int .i64 P)).heap.size from ((kept2_put4 (mb := rb) w2 vr vc vb vp).trans (kept2_set _ rb 4 _ (.inl rfl))).size)
  clear T S2 R2 B2
  go_wp2_with fail
  go_loopw [24] (fun i wr => SelInv br l n vr vc vb vp P rb sb w2.heap.size w i wr) (fun i _ => n - (intOf i).toNat)
  case atStart => exact ⟨0, .slice none 0 0, .slice none 0 0, Nat.zero_le _, rfl, HT.out, HS.out, World.ownsRow_nil _ _ _ _, World.ownsRow_nil _ _ _ _, HB.out, HG.out⟩
  case round =>
    clear k0 k1 k2 k3 k4 k5 k6 f0 f1 f2 f3 f4 HT HS HB HG
    obtain ⟨base, hbase⟩ : ∃ base, base = w2.heap.size := ⟨_, rfl⟩
    obtain ⟨k, rs, os, hk, rfl, hI⟩ := hrel
    rw [← hbase] at hI r2 s2 ⊢
    clear hbase
    by_cases hkl : k < n
    · obtain ⟨⟨xi, xc, xs, ⟨r, q, b, p⟩⟩, hx⟩ := at_some (l := l) (k := k) (by rw [HN.out]; exact hkl)
      have hA := HA.out.next hI.low
      have ok := hA.ok hx
      have inf := right_each hR.out (List.mem_of_getElem? hx)
      obtain ⟨g, o, rfl, hgr, q0, q1, q2, q3, q4, q5, q6⟩ := hA.at_ k _ hx
      simp only at q0 q1 q2 q3 q4 q5 q6
      have hki : (k : Int) < n := by omega
      have HI := Lib.hid hI
      obtain ⟨ρ, hρ⟩ : ∃ ρ, roleAt br l k ⟨xi, xc, xs, ⟨r, q, b, p⟩⟩ = ρ := ⟨_, rfl⟩
      have hρ2 : roleR br ⟨vr, vc, 0, 0⟩ (decide ((k : Int) = P)) ⟨xi, xc, xs, ⟨r, q, b, p⟩⟩ = ρ := by
        rw [← hρ]
        unfold roleAt
        rw [hV.out, ← hP.out, decide_eq_decide.2 (eq_comm.trans portI_eq)]
        rfl
      obtain ⟨D, hD⟩ : ∃ D, decide ((k : Int) = P) = D := ⟨_, rfl⟩
      have hD2 : ((k : Int) == P) = D := by rw [← hD]; rfl
      rw [hD] at hρ2
      have CT := Lib.hid (fun w' => role_w xi xc xs r q b p vr vc br D ρ w' (Lib.hid hρ2) inf ok.vec.b HBR.out)
      have HNR := Lib.hid (rolesN_succ (br := br) hx)
      have HNO := Lib.hid (offers_succ (br := br) (v := ⟨vr, vc, vb, vp⟩) hx)
      rw [hρ] at HNR
      simp only at HNO
      clear hA ok inf hx hI hρ hρ2 hD
      go_upto_block 1 with (fail)
      go_cut [] (fun wx => ∃ rs' os', SelAt br l vr vc vb vp P rb sb base w (k + 1) wx rs' os')
      case first =>
        have lr := HI.out.r.lt
        have lsb := HI.out.s.lt
        have k0 := HI.out.r.cells.1
        have k1 := HI.out.r.cells.2.1
        go_upto_region 9 with (fail)
        obtain ⟨ib, hib⟩ : ∃ ib, ib = wr.heap.size := ⟨_, rfl⟩
        obtain ⟨ob, hob⟩ : ∃ ob, ob = wr.heap.size + 1 := ⟨_, rfl⟩
        obtain ⟨W, hW⟩ : ∃ W, W = (wr.alloc (.cells #[.int .u64 xi, .int .u64 xc, .int .i64 xs, .int .u64 r, .int .u64 q, .int .u64 b, .int .u64 p] 175)).alloc (.cells #[.int .u64 vr, .int .u64 vc, .int .u64 br, .int .u64 xi] 47) := ⟨_, rfl⟩
        have BW : Below wr.heap.size wr W := by rw [hW]; exact bw_alloc (below_box _ _) _
        have HIB : Hid (IBlk 175 W ib xi xc xs r q b p) := Lib.hid (by rw [hW, hib]; exact (iblk_new _ wr xi xc xs r q b p).next (below_box _ _))
        have HOB : Hid (Blk 47 W ob ⟨vr, vc, br, xi⟩) := Lib.hid (by
          have := blk_new 47 (wr.alloc (.cells #[.int .u64 xi, .int .u64 xc, .int .i64 xs, .int .u64 r, .int .u64 q, .int .u64 b, .int .u64 p] 175)) vr vc br xi
          rw [size_box] at this
          rw [hW, hob]; exact this)
        have HRB := Lib.hid (HI.out.r.next BW)
        have HSB := Lib.hid (HI.out.s.next BW)
        have gW : wr.grownBy W none := by rw [hW]; exact (World.grownBy_alloc wr _ none).trans (World.grownBy_alloc _ _ none)
        have HRS := Lib.hid (HI.out.rs_.kept gW (by cases hv : rs.ownBlock <;> simp))
        have HOS := Lib.hid (HI.out.os_.kept gW (by cases hv : os.ownBlock <;> simp))
        have HBW := Lib.hid (HI.out.low.trans (BW.mono HI.out.low.size))
        have zW : base ≤ W.heap.size := Nat.le_trans HI.out.hi BW.size
        have hibl : base ≤ ib := by rw [hib]; exact HI.out.hi
        have hobl : base ≤ ob := by rw [hob]; exact Nat.le_trans HI.out.hi (Nat.le_succ _)
        rw [← hW, ← hob, ← hib]
        have hfi : some ib ≠ os.ownBlock := fun e => by have := (HI.out.os_.lt ib e.symm).2; omega
        have hfo : some ob ≠ os.ownBlock := fun e => by have := (HI.out.os_.lt ob e.symm).2; omega
        clear hW hob hib gW BW k0 k1 lr lsb q0 q1 q2 q3 q4 q5 q6 hgr
        obtain ⟨k0, k1, k2, k3, k4, k5, k6⟩ := HRB.out.cells
        obtain ⟨m0, m1, m2, m3⟩ := HOB.out.cells
        have lr := HRB.out.lt
        have li := HIB.out.lt
        have lo := HOB.out.lt
        obtain ⟨i0, hi, hz0, hz1, hz2⟩ := info_parts infoVec
        go_wp2_with (at_builtin; refine wpList_append_lies _ (by rfl) _ _ _ (by rfl) base 47 i0 (vv 0 0 0 0) 4 32 Tryz.underlying130 hi hz0 hz1 hz2 rfl (by decide) os k _ (by rfl) (HOS.out.alloc _) ⟨W.heap.size, 0, none⟩ 1 1 [.int .u64 vr, .int .u64 vc, .int .u64 br, .int .u64 xi] (by rfl) rfl (World.news_of_block (heap_alloc_new W _)) (fun u hu => by simp at hu; rcases hu with rfl | rfl | rfl | rfl <;> rfl) (by decide) (by unfold maxLen; omega) (by omega) (by simp; omega) _ rfl ?_; intro g1 cap1 y1 hown1 hgrow hat hlt; have RY := (HRB.out.next (below_box W (.cells #[.int .u64 vr, .int .u64 vc, .int .u64 br, .int .u64 xi] 47))).grown (w' := y1) hgrow (own_far HOS.out r2); have t6 := RY.cells.2.2.2.2.2.2; have ff6 := RY.free 6)
        obtain ⟨W2, hW2⟩ : ∃ W2, W2 = y1.setCell ⟨rb, 6, none⟩ (.slice (some ⟨g1, 0, none⟩) (k + 1) cap1) := ⟨_, rfl⟩
        have bA := below_box W (.cells #[.int .u64 vr, .int .u64 vc, .int .u64 br, .int .u64 xi] 47)
        have nib : ib ≠ rb := by omega
        have nob : ob ≠ rb := by omega
        have NR := Lib.hid (show RBlk W2 rb vr vc vb vp P rs (.slice (some ⟨g1, 0, none⟩) (k + 1) cap1) by rw [hW2]; exact RY.set6 _)
        have NS := Lib.hid (show RBlk W2 sb 0 0 0 0 0 (.slice none 0 0) (.slice none 0 0) by rw [hW2]; exact ((HSB.out.next bA).grown hgrow (own_far HOS.out s2)).other 6 _ (Ne.symm hrs))
        have NI := Lib.hid (show IBlk 175 W2 ib xi xc xs r q b p by rw [hW2]; exact (Below.heap_setCell y1 ⟨rb, 6, none⟩ _ ib nib).trans ((hgrow.block ib (HIB.out.next bA).lt hfi).trans (HIB.out.next bA)))
        have NO := Lib.hid (show Blk 47 W2 ob ⟨vr, vc, br, xi⟩ by rw [hW2]; exact Blk.other (show Blk 47 y1 ob ⟨vr, vc, br, xi⟩ from (hgrow.block ob (HOB.out.next bA).lt hfo).trans (HOB.out.next bA)) 6 _ nob)
        have NRS := Lib.hid (show W2.ownsRow base 3 1 rs k (cellsI (rolesN br l k)) by rw [hW2]; exact ((HRS.out.alloc _).kept hgrow (own_apart HRS.out HOS.out (by decide))).kept (grown_set y1 rb 6 _) (by cases hv : rs.ownBlock with | none => exact .inl rfl | some x => exact .inr (fun e => own_far HRS.out r2 (e.symm.trans hv.symm))))
        have NOS := Lib.hid (show W2.ownsRow base 47 4 (.slice (some ⟨g1, 0, none⟩) (k + 1) cap1) (k + 1) (cellsV ((l.take (k + 1)).map (offerR br ⟨vr, vc, vb, vp⟩))) by
          rw [hW2, HNO.out, cellsV_add]
          exact hown1.kept (grown_set y1 rb 6 _) (.inr (fun e => own_far hown1 r2 e.symm)))
        have NB := Lib.hid (show Below w.heap.size w W2 by
          rw [hW2]
          exact (((HBW.out.alloc HBW.out.size _).grown hgrow (by simp; have := HBW.out.size; omega) (fun x hx => Nat.le_trans (by have := HI.out.low.size; have := HI.out.hi; omega) (HOS.out.lt x hx).1)).setCell (p := ⟨rb, 6, none⟩) hwr _))
        have zW2 : base ≤ W2.heap.size := by
          rw [hW2]
          have := hgrow.size
          have := (grown_set y1 rb 6 (.slice (some ⟨g1, 0, none⟩) (k + 1) cap1)).size
          simp at *
          omega
        rw [← hW2]
        clear hW2 bA k0 k1 k2 k3 k4 k5 k6 m0 m1 m2 m3 lr li lo hi hz0 hz1 hz2 HIB HOB HRB HSB HRS HOS HBW zW hown1 hgrow hat hlt RY t6 ff6
        obtain ⟨i1, hi, hz0, hz1, hz2⟩ := info_parts infoInt
        have k4 := NR.out.cells.2.2.2.2.1
        have k5 := NR.out.cells.2.2.2.2.2.1
        obtain ⟨m0, m1, m2, m3⟩ := NO.out.cells
        obtain ⟨p0, p1, p2, p3, p4, p5, p6⟩ := NI.out.cells
        have lr := NR.out.lt
        have li := NI.out.lt
        have lo := NO.out.lt
        go_region_law (first
          | (go_simp; go_at_call 107; (with_reducible refine (CT.out _).mono ?_); rintro e y2 ⟨rfl, hb2⟩; have b2 := ((Below.refl W2.heap.size W2).drew).trans hb2; have KY := Lib.hid (NR.out.next b2); have SY := Lib.hid (NS.out.next b2); have gY : W2.grownBy y2 none := ⟨b2.os, b2.tape, b2.output, b2.size, fun i hi _ => b2.block i hi⟩; have OY := Lib.hid ((NRS.out.kept gY (by cases hv : rs.ownBlock <;> simp)).alloc (.cells #[.int .i64 ρ] 3)); have VY := Lib.hid ((NOS.out.kept gY (by simp [Value.ownBlock])).alloc (.cells #[.int .i64 ρ] 3)); have BY := Lib.hid (NB.out.trans (b2.mono NB.out.size)); have zy : base ≤ y2.heap.size := Nat.le_trans zW2 b2.size; have T0 := KY.out.cells.2.2.2.2.2.1; have T2 := (KY.out.next (below_box y2 (.cells #[.int .i64 ρ] 3))).cells.2.2.2.2.2.1; have ly := KY.out.lt; clear hb2 gY b2)
          | (refine step_append_lies _ (by rfl) _ _ _ (by rfl) base 3 i1 (.int .i64 0) 1 8 Tryz.underlying76 hi hz0 hz1 hz2 rfl (by decide) rs k (cellsI (rolesN br l k)) (by rfl) OY.out ⟨y2.heap.size, 0, none⟩ 1 1 [.int .i64 ρ] (by rfl) rfl (World.news_of_block (heap_alloc_new y2 _)) (fun u hu => by simp at hu; subst hu; rfl) (by decide) (by unfold maxLen; omega) (by omega) (by simp; omega) _ rfl ?_; intro g2 cap2 y3 hown2 hgrow2 hat2 hlt2; have KZ := Lib.hid ((KY.out.next (below_box y2 (.cells #[.int .i64 ρ] 3))).grown (w' := y3) hgrow2 (own_far OY.out r2)); have T3 := KZ.out.cells.2.2.2.2.2.1; have F3 := KZ.out.free 5))
        all_goals go_wp2_with fail
        all_goals go_meet
        all_goals exact sel_next r2 s2 hrs hwr HI.out.low HI.out.hi HNR.out KZ.out SY.out OY.out VY.out BY.out zy hown2 hgrow2
      case rest =>
        obtain ⟨rs', os', hS⟩ := hcut
        have HS := Lib.hid hS
        clear hS CT
        go_wp2
        exact ⟨⟨k + 1, rs', os', by omega, by go_num, HS.out⟩, by simp [intOf]; omega⟩
    · obtain rfl : k = n := by omega
      have hlen := rolesN_length br l k (by rw [HN.out]; exact Nat.le_refl _)
      have ho := offers_len br l
      have htk : (l.take k).map (offerR br ⟨vr, vc, vb, vp⟩) = offersR br l := by
        unfold offersR
        rw [hV.out, ← HN.out, List.take_length]
      obtain ⟨ra, rcap, hra, _⟩ := nrow_owned (by rw [hlen]; exact hI.rs_)
      obtain ⟨oa, ocap, hoa, _⟩ := vrow_owned (by rw [ho, HN.out]; have := hI.os_; rw [htk] at this; exact this)
      rw [hlen] at hra
      rw [ho, HN.out] at hoa
      subst hra hoa
      have HI := Lib.hid hI
      have HTK := Lib.hid htk
      have HLN := Lib.hid (And.intro hlen ho)
      clear hI hlen ho htk
      obtain ⟨k0, k1, k2, k3, k4, k5, k6⟩ := HI.out.r.cells
      obtain ⟨m0, m1, m2, m3, m4, m5, m6⟩ := HI.out.s.cells
      have f0 := HI.out.s.free 0
      have f1 := HI.out.s.free 1
      have f2 := HI.out.s.free 2
      have f3 := HI.out.s.free 3
      have f4 := HI.out.s.free 4
      have f5 := HI.out.s.free 5
      have f6 := HI.out.s.free 6
      go_wp2
      obtain ⟨z0, z1, z2, z3, z4, z5, z6⟩ := (HI.out.s.set7 vr vc vb vp P (.slice ra k rcap) (.slice oa k ocap)).cells
      have fR : (put7 wr sb vr vc vb vp P (.slice ra k rcap) (.slice oa k ocap)).ownsRow base 3 1 (.slice ra k rcap) k (cellsI (rolesN br l k)) := own_put7 HI.out.rs_ s2 _ _ _ _ _ _ _
      have fO : (put7 wr sb vr vc vb vp P (.slice ra k rcap) (.slice oa k ocap)).ownsRow base 47 4 (.slice oa k ocap) k (cellsV ((l.take k).map (offerR br ⟨vr, vc, vb, vp⟩))) := own_put7 HI.out.os_ s2 _ _ _ _ _ _ _
      rw [HTK.out] at fO
      obtain ⟨ra', rcap', hra, hrr, hrf⟩ := nrow_owned (by rw [HLN.out.1]; exact fR)
      obtain ⟨oa', ocap', hoa, hro, hof⟩ := vrow_owned (by rw [HLN.out.2, HN.out]; exact fO)
      obtain rfl : ra = ra' := by injection hra
      obtain rfl : oa = oa' := by injection hoa
      have HF : ∃ (ra' oa' : Option Addr) (rcap' ocap' : Nat), Ending.returned (.tuple #[res vr vc vb vp P (.slice ra k rcap) (.slice oa k ocap), .int .i64 0]) = .returned (.tuple #[res vr vc vb vp P (.slice ra' k rcap') (.slice oa' k ocap'), .int .i64 0]) ∧ NRow (put7 wr sb vr vc vb vp P (.slice ra k rcap) (.slice oa k ocap)) ra' (rolesN br l k) ∧ VRow (put7 wr sb vr vc vb vp P (.slice ra k rcap) (.slice oa k ocap)) oa' (offersR br l) ∧ (∀ x, ra' = some x → w.heap.size ≤ x.block) ∧ (∀ x, oa' = some x → w.heap.size ≤ x.block) ∧ Below w.heap.size w (put7 wr sb vr vc vb vp P (.slice ra k rcap) (.slice oa k ocap)) :=
        ⟨ra, oa, rcap, ocap, rfl, hrr, hro, fun x e => by have := hrf x e; omega, fun x e => by have := hof x e; omega, below_put7 HI.out.low hws _ _ _ _ _ _ _⟩
      exact bodyPost_ret (v := .tuple #[res vr vc vb vp P (.slice ra k rcap) (.slice oa k ocap), .int .i64 0]) (by simp [results, Tryz.results62, go_sem, z0, z1, z2, z3, z4, z5, z6]) rfl HF
end Go.Proofs.YtldobcfejldbiaaGreatDoor
