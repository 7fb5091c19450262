/-
  Layer 13: the document's Step.
-/
import Derived.Test.YtlfmjinllffifaaChC
import Derived.Maps.AppendAt
import Derived.Deep.AppendLies
namespace Go.Proofs.Ytlfmjinllffifaa
set_option linter.unusedVariables false
set_option linter.unusedSimpArgs false
open Go.RowKit Vm Rm Bm Im

theorem rfill13_is (w : World) (p : Pt) : ∃ (V : World) (b : Nat), Hid ((w.alloc (.cells (cellsT zeroP) 54)).setRow w.heap.size (cellsT p) = V) ∧ Hid (w.heap.size = b) ∧ PtBlk 54 V b p ∧ Below b w V ∧ b < V.heap.size :=
  ⟨_, _, Lib.hid rfl, Lib.hid rfl, (ptblk_new _ w zeroP).row p, below_row (below_box w _) (Nat.le_refl _) _, ((ptblk_new 54 w zeroP).row p).lt⟩
def tellN (X : Pt) (T : Bool) (l : List Pt) (k j : Nat) : List Pt := l.mapIdx fun i q => if i = k then X else if i < j then { q with tcProp := q.tcProp || T } else q
theorem tellN_zero {l : List Pt} {k : Nat} {X : Pt} (T : Bool) (hk : k < l.length) : tellN X T l k 0 = l.set k X := by
  unfold tellN
  apply List.ext_getElem?
  intro i
  by_cases hi : k = i
  · subst hi
    rw [List.getElem?_set_self hk]
    simp [List.getElem?_eq_getElem hk]
  · rw [List.getElem?_set_ne hi]
    have hne : ¬ i = k := fun e => hi e.symm
    simp [hne]
theorem tellN_len (X : Pt) (T : Bool) (l : List Pt) (k j : Nat) : (tellN X T l k j).length = l.length := by unfold tellN; simp
theorem tellN_at {X : Pt} {T : Bool} {l : List Pt} {k j : Nat} {q : Pt} (h : l[j]? = some q) (hne : ¬ j = k) : (tellN X T l k j)[j]? = some q := by unfold tellN; simp [h, hne]
theorem tellN_skip (X : Pt) (T : Bool) (l : List Pt) (k : Nat) : tellN X T l k k = tellN X T l k (k + 1) := by
  unfold tellN
  apply List.ext_getElem?
  intro i
  simp only [List.getElem?_mapIdx]
  congr 1
  funext q
  by_cases h : i = k
  · subst h; simp
  · rw [if_neg h, if_neg h]
    have : (i < k) ↔ (i < k + 1) := by omega
    simp only [this]
theorem tellN_no (X : Pt) (l : List Pt) (k j : Nat) : tellN X false l k j = tellN X false l k (j + 1) := by
  unfold tellN
  simp
theorem tellN_set {X : Pt} {l : List Pt} {k j : Nat} {q : Pt} (h : l[j]? = some q) (hne : ¬ j = k) : (tellN X true l k j).set j { q with tcProp := true } = tellN X true l k (j + 1) := by
  unfold tellN
  have hj : j < l.length := (List.getElem?_eq_some_iff.1 h).1
  apply List.ext_getElem?
  intro i
  by_cases hi : j = i
  · subst hi
    rw [List.getElem?_set_self (by simpa using hj)]
    simp [h, hne]
  · rw [List.getElem?_set_ne hi]
    simp only [List.getElem?_mapIdx]
    congr 1
    funext r
    have : (i < j) ↔ (i < j + 1) := by omega
    simp only [this]
theorem tellN_all (X : Pt) (T : Bool) (l : List Pt) (k : Nat) : tellN X T l k l.length = l.mapIdx (tellAt X T k) := by
  unfold tellN
  apply List.ext_getElem?
  intro i
  simp only [List.getElem?_mapIdx]
  cases hl : l[i]? with
  | none => rfl
  | some r =>
    have hil : i < l.length := (List.getElem?_eq_some_iff.1 hl).1
    simp [tellAt, hil]
def TlInv (X : Pt) (T : Bool) (l : List Pt) (n k g : Nat) (W : World) (v : Value) (wr : World) : Prop :=
  ∃ j : Nat, j ≤ n ∧ v = .int .i64 (j : Nat) ∧ WRow wr g (tellN X T l k j) ∧ Kp g W wr
/-- What lies in memory as the document's step goes on. -/
structure DSt (w : World) (bb pb g : Nat) (i : Int) (t : Tm) (l : List Pt) (X : Pt) (wx : World) : Prop where
  br : RbBlk wx bb i t.age t.max t.hello t.delay
  pt : PtBlk 54 wx pb X
  row : WRow wx g l
  below : Below w.heap.size w wx
section
variable {w wx wy : World} {bb pb g : Nat} {i : Int} {t : Tm} {l : List Pt} {X Y : Pt}
theorem DSt.next (h : DSt w bb pb g i t l X wx) (hb : Below wx.heap.size wx wy) : DSt w bb pb g i t l X wy := ⟨h.br.next hb, h.pt.next hb, h.row.next hb, bw_trans h.below hb⟩
theorem DSt.turn (h : DSt w bb pb g i t l X wx) (K : Kp pb wx wy) (hp : PtBlk 54 wy pb Y) (h1 : bb ≠ pb) (h2 : g ≠ pb) (h3 : w.heap.size ≤ pb) : DSt w bb pb g i t l Y wy :=
  ⟨h.br.kp K h1, hp, ⟨Nat.lt_of_lt_of_le h.row.lt K.size, fun j q hq c v hv => (K.cell (p := ⟨g, j * 61 + c, none⟩) h.row.lt h2).trans (h.row.at_ j q hq c v hv), fun j hj => by
    have h0 := K.block g h.row.lt h2
    obtain ⟨e1, e2⟩ := h.row.free j hj
    refine ⟨by rw [K.cell (p := ⟨g, 0 + j, none⟩) h.row.lt h2]; exact e1, ?_⟩
    unfold World.frozen? at e2 ⊢
    simp only [h0]
    exact e2⟩, K.below h.below h3 h.below.size⟩
end

theorem kp_row (b : Nat) (w : World) (cs : Array Value) : Kp b w (w.setRow b cs) :=
  ⟨rfl, rfl, rfl, by unfold World.setRow; simp, fun i hi hn => by unfold World.setRow; simp only [Array.getElem?_modify]; rw [if_neg (fun e => hn e.symm)]⟩
def StepRel (t : Tm) (p X : Pt) (T M : Bool) : Prop := (M = true ∧ stepF t p = some (X, T)) ∨ (M = false ∧ T = false ∧ X = p ∧ stepF t p = none)
theorem tell_none {l : List Pt} {k : Nat} {p : Pt} (h : l[k]? = some p) : l.mapIdx (tellAt p false k) = l := by
  apply List.ext_getElem?
  intro i
  simp only [List.getElem?_mapIdx]
  cases hl : l[i]? with
  | none => rfl
  | some q =>
    by_cases e : i = k
    · subst e
      rw [h] at hl
      cases hl
      simp [tellAt]
    · simp [tellAt, e]

set_option maxRecDepth 20000 in
set_option maxHeartbeats 8000000 in
theorem rstep_ok_w (i : Int) (t : Tm) (ad : Addr) (cap k : Nat) (l L : List Pt) (B : Bool) (w : World) (hr : PRow w (some ad) l) (hl : l.length ≤ 1000) (hk : k < l.length) (hb : rightBr t = true) (hX : stepP t l k = (L, B)) :
    Calls Try.prog 7 #[brv i t.age t.max t.hello t.delay, .slice (some ad) l.length cap, .int .i64 ((k : Nat) : Int)] w fun e w' => Out w w' l.length L B e := by
  obtain ⟨W, hW⟩ : ∃ W, w.alloc (.cells (bcl i t.age t.max t.hello t.delay) 31) = W := ⟨_, rfl⟩
  obtain ⟨bb, hbb⟩ : ∃ b, w.heap.size = b := ⟨_, rfl⟩
  have K0 := Lib.hid (show RbBlk W bb i t.age t.max t.hello t.delay by rw [← hW, ← hbb]; exact heap_alloc_new w _)
  have B0 := Lib.hid (show Below w.heap.size w W by rw [← hW]; exact below_box w _)
  have HBB := Lib.hid hbb
  have HW := Lib.hid hW
  obtain ⟨i0, hi, hz0, hz1, hz2⟩ := info_parts infoR61
  have O := World.ownsRow_lit (base := W.heap.size) (e := 54) (size := 61) W #[] 0 (Nat.le_refl _) (Nat.zero_le _) rfl
  have hWW := below_box W (.cells #[] 54)
  have hnews := ((hr.next B0.out).next hWW).news
  have HC := Lib.hid (cells61_length l)
  have H1 := Lib.hid (cells61_one l)
  obtain ⟨n, hn⟩ : ∃ n, l.length = n := ⟨_, rfl⟩
  have HN := Lib.hid hn
  have CB := Lib.hid (fun w' => rbr_w i t.age t.max t.hello t.delay true w' (Lib.hid hb))
  have CF := Lib.hid (fun w' (q : Pt) => rforget_w q _ w' (Lib.hid rfl))
  have CC := Lib.hid (fun w' (q : Pt) => rcount_w i t q _ w' hb (Lib.hid rfl))
  obtain ⟨p, hp⟩ := at_some (l := l) (k := k) hk
  have HP := Lib.hid hp
  have HX := Lib.hid hX
  have HB := Lib.hid hb
  clear hW hbb hr hX hb hp
  unfold brv
  unfold bcl at *
  rw [hn] at hl hk ⊢
  have hki : (k : Int) < n := by omega
  have hk0 : (0 : Int) ≤ k := by omega
  go_enter Try.func7, Try.ntmps7
  go_upto_region 1 with (fail)
  refine wp_to (W := W) (by exact HW.out.symm) ?_
  rw [HBB.out]
  go_upto_region 2 with (at_builtin; refine wpList_append_own_at _ (by rfl) _ _ _ (by rfl) W.heap.size 54 i0 (.agg (cellsT zeroP)) 61 296 Try.underlying34 hi hz0 hz1 hz2 (by exact cellsT_size zeroP) (by decide) _ 0 _ (by rfl) O ad n cap (cells61 l) (by rfl) (by rw [← hn]; exact HC.out) hnews H1.out (by unfold maxLen; omega) (by omega) (by simp) ?_; intro v' w1 hown hgrow hnil hat)
  obtain ⟨a', cap', rfl, hcap, hrow, hw⟩ := prow_owned (l := l) (by rw [hn]; simpa using hown)
  rw [hn] at hcap ⊢
  obtain ⟨g, rfl, hgB, hWR⟩ : ∃ g, a' = some ⟨g, 0, none⟩ ∧ W.heap.size ≤ g ∧ WRow w1 g l := by
    rcases hw with ⟨_, e⟩ | h
    · rw [e] at hn; simp at hn; omega
    · exact h
  have hB1 : Below W.heap.size W w1 := hWW.grown hgrow (by simp) (fun j e => by simp [Value.ownBlock] at e; omega)
  have HB1 := Lib.hid (bw_trans B0.out hB1)
  have K1 := Lib.hid (K0.out.next hB1)
  have W1 := Lib.hid hWR
  have hgb : g ≠ bb := by have := K0.out.lt; omega
  have hgw : w.heap.size < g := by have := HBB.out; have := K0.out.lt; omega
  have HGW := Lib.hid hgw
  obtain ⟨k0, k1, k2, k3, k4⟩ := K1.out.cells
  clear hown hgrow hnil hat hrow hw hB1 hWR O hWW hnews HC H1 hi hz0 hz1 hz2 hgB B0 K0 HW hgw
  go_upto_region 4 with (go_at_call 17; (with_reducible refine (CB.out _).mono ?_); rintro e w2 ⟨rfl, hb2⟩)
  have W2 := Lib.hid (W1.out.next hb2)
  have K2 := Lib.hid (K1.out.next hb2)
  have HB2 := Lib.hid (bw_trans HB1.out hb2)
  have hmid : w2.rangeAt g (k * 61) (cellsT p).toList := W2.out.at_ k p HP.out
  clear hb2 W1 K1 HB1 CB k0 k1 k2 k3 k4
  go_upto_region 5 with (first
    | (with_reducible refine wpList_rmid rfl _ rfl _ _ rfl p hmid ?_)
    | (refine wpList_rst rfl _ _ rfl w2.heap.size rfl p zeroP rfl (ptblk_new _ w2 zeroP) ?_))
  obtain ⟨V, pb, HV, Hp, k5, B5, hs5⟩ := rfill13_is w2 p
  refine wp_to (W := V) (by exact HV.out.symm) ?_
  rw [Hp.out]
  have D0 := Lib.hid (show DSt w bb pb g i t l p V from ⟨K2.out.next (by rw [Hp.out]; exact B5), k5, W2.out.next (by rw [Hp.out]; exact B5), bw_trans HB2.out (by rw [Hp.out]; exact B5)⟩)
  have h1 : bb ≠ pb := by have := K2.out.lt; have := Hp.out; omega
  have h2 : g ≠ pb := by have := W2.out.lt; have := Hp.out; omega
  have h3 : w.heap.size ≤ pb := by have := HB2.out.size; have := Hp.out; omega
  clear k5 B5 hs5 HV Hp W2 K2 HB2 hmid
  have c_role := D0.out.pt.c_role
  try simp only [Act.put]
  obtain ⟨IN, hIN⟩ : ∃ b, inB p = b := ⟨_, rfl⟩
  go_cut [10] (fun v wx => v = .bool IN ∧ wx = V)
  case first =>
    obtain ⟨z1, e1⟩ : ∃ z, decide (p.role = 1) = z := ⟨_, rfl⟩
    have d1 : (p.role == 1) = z1 := by rw [← e1]; rfl
    obtain ⟨z2, e2⟩ : ∃ z, decide (p.role = 2) = z := ⟨_, rfl⟩
    have d2 : (p.role == 2) = z2 := by rw [← e2]; rfl
    have eI : IN = (z1 || z2) := by rw [← hIN]; unfold inB; rw [e1, e2]
    clear e1 e2 hIN
    cases z1
    all_goals as_aux_lemma =>
      go_wp2_with fail
      all_goals go_meet
      all_goals exact ⟨by rw [eI]; rfl, rfl⟩
  case rest =>
  obtain ⟨rfl, rfl⟩ := hcut
  have t1 := D0.out.pt.c_heardTc
  have t2 := D0.out.pt.c_heardTcn
  have t3 := D0.out.pt.c_heardAck
  have t4 := D0.out.pt.c_tcProp
  go_upto_region 6 with (fail)
  try simp only [Act.put]
  obtain ⟨TO, hTO⟩ : ∃ b, toldB p = b := ⟨_, rfl⟩
  go_cut [11] (fun v wx => v = .bool TO ∧ wx = wc)
  case first =>
    obtain ⟨a, ha⟩ : ∃ a, p.heardTc = a := ⟨_, rfl⟩
    obtain ⟨b, hb'⟩ : ∃ b, p.heardTcn = b := ⟨_, rfl⟩
    obtain ⟨c, hc⟩ : ∃ c, p.heardAck = c := ⟨_, rfl⟩
    obtain ⟨d, hd⟩ : ∃ d, p.tcProp = d := ⟨_, rfl⟩
    have eT : TO = (a || (b || (c || d))) := by rw [← hTO]; unfold toldB; rw [ha, hb', hc, hd]
    rw [ha] at t1
    rw [hb'] at t2
    rw [hc] at t3
    rw [hd] at t4
    clear ha hb' hc hd hTO
    cases a <;> cases b <;> cases c
    all_goals as_aux_lemma =>
      go_wp2_with fail
      all_goals go_meet
      all_goals exact ⟨by rw [eT]; rfl, rfl⟩
  case rest =>
  obtain ⟨rfl, rfl⟩ := hcut
  have HIN := Lib.hid hIN
  have HTO := Lib.hid hTO
  clear hIN hTO t1 t2 t3 t4 c_role
  have u1 := D0.out.pt.c_change
  have u2 := D0.out.pt.c_learn
  have u3 := D0.out.pt.c_flush
  obtain ⟨G, hG⟩ : ∃ b, (decide (p.change = 0) && (p.learn && !p.flush)) = b := ⟨_, rfl⟩
  go_upto_region 9 with (fail)
  try simp only [Act.put]
  go_cut [69] (fun v wx => v = .bool G ∧ wx = wc)
  case first =>
    obtain ⟨a, ha⟩ : ∃ a, decide (p.change = 0) = a := ⟨_, rfl⟩
    have da : (p.change == 0) = a := by rw [← ha]; rfl
    obtain ⟨b, hb'⟩ : ∃ b, p.learn = b := ⟨_, rfl⟩
    obtain ⟨c, hc⟩ : ∃ c, p.flush = c := ⟨_, rfl⟩
    rw [ha, hb', hc] at hG
    rw [hb'] at u2
    rw [hc] at u3
    clear ha hb' hc
    cases a <;> cases b
    all_goals as_aux_lemma =>
      go_wp2_with fail
      all_goals go_meet
      all_goals exact ⟨by rw [← hG]; rfl, rfl⟩
  case rest =>
  obtain ⟨rfl, rfl⟩ := hcut
  have HG := Lib.hid hG
  clear hG u1 u2 u3
  have b_change := D0.out.pt.c_change
  go_upto_if 69 with (fail)
  go_cut [12, 13] (fun u12 u13 wx => ∃ (X : Pt) (T M : Bool), u12 = .bool T ∧ u13 = .bool M ∧ DSt w bb pb g i t l X wx ∧ StepRel t p X T M)
  case first =>
    clear HX
    by_cases hc0 : p.change = 0
    · have dch0 : decide (p.change = 0) = true := decide_eq_true hc0
      have dch1 : decide (p.change = 1) = false := by rw [hc0]; rfl
      have dch2 : decide (p.change = 2) = false := by rw [hc0]; rfl
      have hg := HG.out
      rw [hc0] at b_change
      have b_learn := D0.out.pt.c_learn
      cases h_learn : p.learn with
      | false =>
        rw [h_learn] at b_learn
        as_aux_lemma =>
          obtain rfl : G = false := by rw [← hg, dch0]; simp [h_learn]
          have hstep : stepF t p = none := by unfold stepF; simp [dch0, dch1, dch2, h_learn]
          go_wp2_with fail
          go_meet
          exact ⟨p, false, false, rfl, rfl, D0.out, .inr ⟨rfl, rfl, rfl, hstep⟩⟩
      | true =>
        rw [h_learn] at b_learn
        have b_flush := D0.out.pt.c_flush
        cases h_flush : p.flush with
        | false =>
          rw [h_flush] at b_flush
          as_aux_lemma =>
            obtain rfl : G = true := by rw [← hg, dch0]; simp [h_learn, h_flush]
            have hstep : stepF t p = some (forgetP { p with change := 1 }, false) := by unfold stepF; simp [dch0, dch1, dch2, h_learn, h_flush]
            go_upto_region 10 with (fail)
            obtain ⟨Y1, e1⟩ : ∃ X, ({ p with change := 1 } : Pt) = X := ⟨_, rfl⟩
            have f1 := D0.out.pt.free
            have c1 := D0.out.pt.c_change
            obtain ⟨V1, hV1⟩ : ∃ V, wc.setCell ⟨pb, 59, none⟩ (.int .i64 1) = V := ⟨_, rfl⟩
            have D1 := Lib.hid (show DSt w bb pb g i t l Y1 V1 by rw [← hV1, ← e1]; exact D0.out.turn ((Kp.refl' pb wc).set 59 (.int .i64 1)) (D0.out.pt.s_change 1) h1 h2 h3)
            have HV1 := Lib.hid hV1
            clear hV1
            go_upto_region 11 with (fail)
            refine wp_to (W := V1) (by exact HV1.out.symm) ?_
            clear f1 c1
            obtain ⟨Y2, e2⟩ : ∃ X, forgetP Y1 = X := ⟨_, rfl⟩
            have HC2 := Lib.hid (fun w' => e2 ▸ CF.out w' Y1)
            go_wp2_with (first
              | (with_reducible refine wpList_rpt rfl _ rfl pb rfl Y1 D1.out.pt ?_)
              | (go_at_call 18; (with_reducible refine (HC2.out _).mono ?_); rintro e y2 ⟨rfl, hb2⟩; have DY2 := Lib.hid (D1.out.next hb2); clear hb2)
              | (with_reducible refine wpList_rst rfl _ _ rfl pb rfl Y2 Y1 rfl DY2.out.pt ?_))
            obtain ⟨V2, hV2⟩ : ∃ V, y2.setRow pb (cellsT Y2) = V := ⟨_, rfl⟩
            have D2 := Lib.hid (show DSt w bb pb g i t l Y2 V2 by rw [← hV2]; exact DY2.out.turn (kp_row pb y2 (cellsT Y2)) (DY2.out.pt.row Y2) h1 h2 h3)
            go_meet
            rw [hV2]
            exact ⟨Y2, false, true, rfl, rfl, D2.out, .inl ⟨rfl, by subst e2 e1; have hs := hstep; exact hs⟩⟩
        | true =>
          rw [h_flush] at b_flush
          as_aux_lemma =>
            obtain rfl : G = false := by rw [← hg, dch0]; simp [h_learn, h_flush]
            have hstep : stepF t p = none := by unfold stepF; simp [dch0, dch1, dch2, h_learn, h_flush]
            go_wp2_with fail
            go_meet
            exact ⟨p, false, false, rfl, rfl, D0.out, .inr ⟨rfl, rfl, rfl, hstep⟩⟩
    · have dch0 : decide (p.change = 0) = false := decide_eq_false hc0
      obtain rfl : G = false := by rw [← HG.out, dch0]; rfl
      by_cases hc1 : p.change = 1
      · have dch1 : decide (p.change = 1) = true := decide_eq_true hc1
        have dch2 : decide (p.change = 2) = false := by rw [hc1]; rfl
        rw [hc1] at b_change
        cases IN with
        | false =>
          have b_learn := D0.out.pt.c_learn
          cases h_learn : p.learn with
          | false =>
            rw [h_learn] at b_learn
            have b_learning := D0.out.pt.c_learning
            cases h_learning : p.learning with
            | false =>
              rw [h_learning] at b_learning
              cases TO with
              | false =>
                as_aux_lemma =>
                  have hstep : stepF t p = some ({ p with change := 0, flush := true, tc := 0, tcAck := false }, false) := by unfold stepF; simp [dch0, dch1, dch2, HIN.out, h_learn, h_learning, HTO.out]
                  go_upto_region 18 with (fail)
                  obtain ⟨Y1, e1⟩ : ∃ X, ({ p with change := 0 } : Pt) = X := ⟨_, rfl⟩
                  have f1 := D0.out.pt.free
                  have c1 := D0.out.pt.c_change
                  obtain ⟨V1, hV1⟩ : ∃ V, wc.setCell ⟨pb, 59, none⟩ (.int .i64 0) = V := ⟨_, rfl⟩
                  have D1 := Lib.hid (show DSt w bb pb g i t l Y1 V1 by rw [← hV1, ← e1]; exact D0.out.turn ((Kp.refl' pb wc).set 59 (.int .i64 0)) (D0.out.pt.s_change 0) h1 h2 h3)
                  have HV1 := Lib.hid hV1
                  clear hV1
                  go_upto_region 19 with (fail)
                  refine wp_to (W := V1) (by exact HV1.out.symm) ?_
                  clear f1 c1
                  obtain ⟨Y2, e2⟩ : ∃ X, ({ Y1 with flush := true } : Pt) = X := ⟨_, rfl⟩
                  have f2 := D1.out.pt.free
                  have c2 := D1.out.pt.c_flush
                  obtain ⟨V2, hV2⟩ : ∃ V, V1.setCell ⟨pb, 45, none⟩ (.bool true) = V := ⟨_, rfl⟩
                  have D2 := Lib.hid (show DSt w bb pb g i t l Y2 V2 by rw [← hV2, ← e2]; exact D1.out.turn ((Kp.refl' pb V1).set 45 (.bool true)) (D1.out.pt.s_flush true) h1 h2 h3)
                  have HV2 := Lib.hid hV2
                  clear hV2
                  go_upto_region 20 with (fail)
                  refine wp_to (W := V2) (by exact HV2.out.symm) ?_
                  clear f2 c2
                  obtain ⟨Y3, e3⟩ : ∃ X, ({ Y2 with tc := 0 } : Pt) = X := ⟨_, rfl⟩
                  have f3 := D2.out.pt.free
                  have c3 := D2.out.pt.c_tc
                  obtain ⟨V3, hV3⟩ : ∃ V, V2.setCell ⟨pb, 53, none⟩ (.int .i64 0) = V := ⟨_, rfl⟩
                  have D3 := Lib.hid (show DSt w bb pb g i t l Y3 V3 by rw [← hV3, ← e3]; exact D2.out.turn ((Kp.refl' pb V2).set 53 (.int .i64 0)) (D2.out.pt.s_tc 0) h1 h2 h3)
                  have HV3 := Lib.hid hV3
                  clear hV3
                  go_upto_region 21 with (fail)
                  refine wp_to (W := V3) (by exact HV3.out.symm) ?_
                  clear f3 c3
                  obtain ⟨Y4, e4⟩ : ∃ X, ({ Y3 with tcAck := false } : Pt) = X := ⟨_, rfl⟩
                  have f4 := D3.out.pt.free
                  have c4 := D3.out.pt.c_tcAck
                  obtain ⟨V4, hV4⟩ : ∃ V, V3.setCell ⟨pb, 43, none⟩ (.bool false) = V := ⟨_, rfl⟩
                  have D4 := Lib.hid (show DSt w bb pb g i t l Y4 V4 by rw [← hV4, ← e4]; exact D3.out.turn ((Kp.refl' pb V3).set 43 (.bool false)) (D3.out.pt.s_tcAck false) h1 h2 h3)
                  have HV4 := Lib.hid hV4
                  clear hV4
                  go_wp2_with fail
                  go_meet
                  rw [HV4.out]
                  clear f4 c4
                  exact ⟨Y4, false, true, rfl, rfl, D4.out, .inl ⟨rfl, by subst e4 e3 e2 e1; have hs := hstep; exact hs⟩⟩
              | true =>
                as_aux_lemma =>
                  have hstep : stepF t p = some (forgetP p, false) := by unfold stepF; simp [dch0, dch1, dch2, HIN.out, h_learn, h_learning, HTO.out]
                  go_upto_region 23 with (fail)
                  obtain ⟨Y1, e1⟩ : ∃ X, forgetP p = X := ⟨_, rfl⟩
                  have HC1 := Lib.hid (fun w' => e1 ▸ CF.out w' p)
                  go_wp2_with (first
                    | (with_reducible refine wpList_rpt rfl _ rfl pb rfl p D0.out.pt ?_)
                    | (go_at_call 18; (with_reducible refine (HC1.out _).mono ?_); rintro e y1 ⟨rfl, hb1⟩; have DY1 := Lib.hid (D0.out.next hb1); clear hb1)
                    | (with_reducible refine wpList_rst rfl _ _ rfl pb rfl Y1 p rfl DY1.out.pt ?_))
                  obtain ⟨V1, hV1⟩ : ∃ V, y1.setRow pb (cellsT Y1) = V := ⟨_, rfl⟩
                  have D1 := Lib.hid (show DSt w bb pb g i t l Y1 V1 by rw [← hV1]; exact DY1.out.turn (kp_row pb y1 (cellsT Y1)) (DY1.out.pt.row Y1) h1 h2 h3)
                  go_meet
                  rw [hV1]
                  exact ⟨Y1, false, true, rfl, rfl, D1.out, .inl ⟨rfl, by subst e1; have hs := hstep; exact hs⟩⟩
            | true =>
              rw [h_learning] at b_learning
              cases TO with
              | false =>
                as_aux_lemma =>
                  have hstep : stepF t p = none := by unfold stepF; simp [dch0, dch1, dch2, HIN.out, h_learn, h_learning, HTO.out]
                  go_wp2_with fail
                  go_meet
                  exact ⟨p, false, false, rfl, rfl, D0.out, .inr ⟨rfl, rfl, rfl, hstep⟩⟩
              | true =>
                as_aux_lemma =>
                  have hstep : stepF t p = some (forgetP p, false) := by unfold stepF; simp [dch0, dch1, dch2, HIN.out, h_learn, h_learning, HTO.out]
                  go_upto_region 23 with (fail)
                  obtain ⟨Y1, e1⟩ : ∃ X, forgetP p = X := ⟨_, rfl⟩
                  have HC1 := Lib.hid (fun w' => e1 ▸ CF.out w' p)
                  go_wp2_with (first
                    | (with_reducible refine wpList_rpt rfl _ rfl pb rfl p D0.out.pt ?_)
                    | (go_at_call 18; (with_reducible refine (HC1.out _).mono ?_); rintro e y1 ⟨rfl, hb1⟩; have DY1 := Lib.hid (D0.out.next hb1); clear hb1)
                    | (with_reducible refine wpList_rst rfl _ _ rfl pb rfl Y1 p rfl DY1.out.pt ?_))
                  obtain ⟨V1, hV1⟩ : ∃ V, y1.setRow pb (cellsT Y1) = V := ⟨_, rfl⟩
                  have D1 := Lib.hid (show DSt w bb pb g i t l Y1 V1 by rw [← hV1]; exact DY1.out.turn (kp_row pb y1 (cellsT Y1)) (DY1.out.pt.row Y1) h1 h2 h3)
                  go_meet
                  rw [hV1]
                  exact ⟨Y1, false, true, rfl, rfl, D1.out, .inl ⟨rfl, by subst e1; have hs := hstep; exact hs⟩⟩
          | true =>
            rw [h_learn] at b_learn
            cases TO with
            | false =>
              as_aux_lemma =>
                have hstep : stepF t p = none := by unfold stepF; simp [dch0, dch1, dch2, HIN.out, h_learn, HTO.out]
                go_wp2_with fail
                go_meet
                exact ⟨p, false, false, rfl, rfl, D0.out, .inr ⟨rfl, rfl, rfl, hstep⟩⟩
            | true =>
              as_aux_lemma =>
                have hstep : stepF t p = some (forgetP p, false) := by unfold stepF; simp [dch0, dch1, dch2, HIN.out, h_learn, HTO.out]
                go_upto_region 23 with (fail)
                obtain ⟨Y1, e1⟩ : ∃ X, forgetP p = X := ⟨_, rfl⟩
                have HC1 := Lib.hid (fun w' => e1 ▸ CF.out w' p)
                go_wp2_with (first
                  | (with_reducible refine wpList_rpt rfl _ rfl pb rfl p D0.out.pt ?_)
                  | (go_at_call 18; (with_reducible refine (HC1.out _).mono ?_); rintro e y1 ⟨rfl, hb1⟩; have DY1 := Lib.hid (D0.out.next hb1); clear hb1)
                  | (with_reducible refine wpList_rst rfl _ _ rfl pb rfl Y1 p rfl DY1.out.pt ?_))
                obtain ⟨V1, hV1⟩ : ∃ V, y1.setRow pb (cellsT Y1) = V := ⟨_, rfl⟩
                have D1 := Lib.hid (show DSt w bb pb g i t l Y1 V1 by rw [← hV1]; exact DY1.out.turn (kp_row pb y1 (cellsT Y1)) (DY1.out.pt.row Y1) h1 h2 h3)
                go_meet
                rw [hV1]
                exact ⟨Y1, false, true, rfl, rfl, D1.out, .inl ⟨rfl, by subst e1; have hs := hstep; exact hs⟩⟩
        | true =>
          have b_forward := D0.out.pt.c_forward
          cases h_forward : p.forward with
          | false =>
            rw [h_forward] at b_forward
            cases TO with
            | false =>
              as_aux_lemma =>
                have hstep : stepF t p = none := by unfold stepF; simp [dch0, dch1, dch2, HIN.out, h_forward, HTO.out]
                go_wp2_with fail
                go_meet
                exact ⟨p, false, false, rfl, rfl, D0.out, .inr ⟨rfl, rfl, rfl, hstep⟩⟩
            | true =>
              as_aux_lemma =>
                have hstep : stepF t p = some (forgetP p, false) := by unfold stepF; simp [dch0, dch1, dch2, HIN.out, h_forward, HTO.out]
                go_upto_region 23 with (fail)
                obtain ⟨Y1, e1⟩ : ∃ X, forgetP p = X := ⟨_, rfl⟩
                have HC1 := Lib.hid (fun w' => e1 ▸ CF.out w' p)
                go_wp2_with (first
                  | (with_reducible refine wpList_rpt rfl _ rfl pb rfl p D0.out.pt ?_)
                  | (go_at_call 18; (with_reducible refine (HC1.out _).mono ?_); rintro e y1 ⟨rfl, hb1⟩; have DY1 := Lib.hid (D0.out.next hb1); clear hb1)
                  | (with_reducible refine wpList_rst rfl _ _ rfl pb rfl Y1 p rfl DY1.out.pt ?_))
                obtain ⟨V1, hV1⟩ : ∃ V, y1.setRow pb (cellsT Y1) = V := ⟨_, rfl⟩
                have D1 := Lib.hid (show DSt w bb pb g i t l Y1 V1 by rw [← hV1]; exact DY1.out.turn (kp_row pb y1 (cellsT Y1)) (DY1.out.pt.row Y1) h1 h2 h3)
                go_meet
                rw [hV1]
                exact ⟨Y1, false, true, rfl, rfl, D1.out, .inl ⟨rfl, by subst e1; have hs := hstep; exact hs⟩⟩
          | true =>
            rw [h_forward] at b_forward
            have b_oper := D0.out.pt.c_oper
            cases h_oper : p.oper with
            | false =>
              rw [h_oper] at b_oper
              as_aux_lemma =>
                have hstep : stepF t p = some ({ countP t p with newInfo := true, change := 2 }, true) := by unfold stepF; simp [dch0, dch1, dch2, HIN.out, h_forward, h_oper]
                go_upto_region 13 with (fail)
                obtain ⟨Y1, e1⟩ : ∃ X, countP t p = X := ⟨_, rfl⟩
                have HC1 := Lib.hid (fun w' => e1 ▸ CC.out w' p)
                obtain ⟨k0, k1, k2, k3, k4⟩ := D0.out.br.cells
                go_upto_region 15 with (first
                  | (with_reducible refine wpList_rpt rfl _ rfl pb rfl p D0.out.pt ?_)
                  | (go_at_call 19; (with_reducible refine (HC1.out _).mono ?_); rintro e y1 ⟨rfl, hb1⟩; have DY1 := Lib.hid (D0.out.next hb1); clear hb1)
                  | (with_reducible refine wpList_rst rfl _ _ rfl pb rfl Y1 p rfl DY1.out.pt ?_))
                obtain ⟨V1, hV1⟩ : ∃ V, y1.setRow pb (cellsT Y1) = V := ⟨_, rfl⟩
                have D1 := Lib.hid (show DSt w bb pb g i t l Y1 V1 by rw [← hV1]; exact DY1.out.turn (kp_row pb y1 (cellsT Y1)) (DY1.out.pt.row Y1) h1 h2 h3)
                clear k0 k1 k2 k3 k4
                refine wp_to (W := V1) (by exact hV1.symm) ?_
                clear hV1
                obtain ⟨Y2, e2⟩ : ∃ X, ({ Y1 with newInfo := true } : Pt) = X := ⟨_, rfl⟩
                have f2 := D1.out.pt.free
                have c2 := D1.out.pt.c_newInfo
                obtain ⟨V2, hV2⟩ : ∃ V, V1.setCell ⟨pb, 39, none⟩ (.bool true) = V := ⟨_, rfl⟩
                have D2 := Lib.hid (show DSt w bb pb g i t l Y2 V2 by rw [← hV2, ← e2]; exact D1.out.turn ((Kp.refl' pb V1).set 39 (.bool true)) (D1.out.pt.s_newInfo true) h1 h2 h3)
                have HV2 := Lib.hid hV2
                clear hV2
                go_upto_region 16 with (fail)
                refine wp_to (W := V2) (by exact HV2.out.symm) ?_
                clear f2 c2
                obtain ⟨Y3, e3⟩ : ∃ X, ({ Y2 with change := 2 } : Pt) = X := ⟨_, rfl⟩
                have f3 := D2.out.pt.free
                have c3 := D2.out.pt.c_change
                obtain ⟨V3, hV3⟩ : ∃ V, V2.setCell ⟨pb, 59, none⟩ (.int .i64 2) = V := ⟨_, rfl⟩
                have D3 := Lib.hid (show DSt w bb pb g i t l Y3 V3 by rw [← hV3, ← e3]; exact D2.out.turn ((Kp.refl' pb V2).set 59 (.int .i64 2)) (D2.out.pt.s_change 2) h1 h2 h3)
                have HV3 := Lib.hid hV3
                clear hV3
                go_wp2_with fail
                go_meet
                rw [HV3.out]
                clear f3 c3
                exact ⟨Y3, true, true, rfl, rfl, D3.out, .inl ⟨rfl, by subst e3 e2 e1; have hs := hstep; exact hs⟩⟩
            | true =>
              rw [h_oper] at b_oper
              cases TO with
              | false =>
                as_aux_lemma =>
                  have hstep : stepF t p = none := by unfold stepF; simp [dch0, dch1, dch2, HIN.out, h_forward, h_oper, HTO.out]
                  go_wp2_with fail
                  go_meet
                  exact ⟨p, false, false, rfl, rfl, D0.out, .inr ⟨rfl, rfl, rfl, hstep⟩⟩
              | true =>
                as_aux_lemma =>
                  have hstep : stepF t p = some (forgetP p, false) := by unfold stepF; simp [dch0, dch1, dch2, HIN.out, h_forward, h_oper, HTO.out]
                  go_upto_region 23 with (fail)
                  obtain ⟨Y1, e1⟩ : ∃ X, forgetP p = X := ⟨_, rfl⟩
                  have HC1 := Lib.hid (fun w' => e1 ▸ CF.out w' p)
                  go_wp2_with (first
                    | (with_reducible refine wpList_rpt rfl _ rfl pb rfl p D0.out.pt ?_)
                    | (go_at_call 18; (with_reducible refine (HC1.out _).mono ?_); rintro e y1 ⟨rfl, hb1⟩; have DY1 := Lib.hid (D0.out.next hb1); clear hb1)
                    | (with_reducible refine wpList_rst rfl _ _ rfl pb rfl Y1 p rfl DY1.out.pt ?_))
                  obtain ⟨V1, hV1⟩ : ∃ V, y1.setRow pb (cellsT Y1) = V := ⟨_, rfl⟩
                  have D1 := Lib.hid (show DSt w bb pb g i t l Y1 V1 by rw [← hV1]; exact DY1.out.turn (kp_row pb y1 (cellsT Y1)) (DY1.out.pt.row Y1) h1 h2 h3)
                  go_meet
                  rw [hV1]
                  exact ⟨Y1, false, true, rfl, rfl, D1.out, .inl ⟨rfl, by subst e1; have hs := hstep; exact hs⟩⟩
      · have dch1 : decide (p.change = 1) = false := decide_eq_false hc1
        by_cases hc2 : p.change = 2
        · have dch2 : decide (p.change = 2) = true := decide_eq_true hc2
          rw [hc2] at b_change
          cases IN with
          | false =>
            as_aux_lemma =>
              have hstep : stepF t p = some (forgetP { p with change := 1 }, false) := by unfold stepF; simp [dch0, dch1, dch2, HIN.out]
              go_upto_region 25 with (fail)
              obtain ⟨Y1, e1⟩ : ∃ X, ({ p with change := 1 } : Pt) = X := ⟨_, rfl⟩
              have f1 := D0.out.pt.free
              have c1 := D0.out.pt.c_change
              obtain ⟨V1, hV1⟩ : ∃ V, wc.setCell ⟨pb, 59, none⟩ (.int .i64 1) = V := ⟨_, rfl⟩
              have D1 := Lib.hid (show DSt w bb pb g i t l Y1 V1 by rw [← hV1, ← e1]; exact D0.out.turn ((Kp.refl' pb wc).set 59 (.int .i64 1)) (D0.out.pt.s_change 1) h1 h2 h3)
              have HV1 := Lib.hid hV1
              clear hV1
              go_upto_region 26 with (fail)
              refine wp_to (W := V1) (by exact HV1.out.symm) ?_
              clear f1 c1
              obtain ⟨Y2, e2⟩ : ∃ X, forgetP Y1 = X := ⟨_, rfl⟩
              have HC2 := Lib.hid (fun w' => e2 ▸ CF.out w' Y1)
              go_wp2_with (first
                | (with_reducible refine wpList_rpt rfl _ rfl pb rfl Y1 D1.out.pt ?_)
                | (go_at_call 18; (with_reducible refine (HC2.out _).mono ?_); rintro e y2 ⟨rfl, hb2⟩; have DY2 := Lib.hid (D1.out.next hb2); clear hb2)
                | (with_reducible refine wpList_rst rfl _ _ rfl pb rfl Y2 Y1 rfl DY2.out.pt ?_))
              obtain ⟨V2, hV2⟩ : ∃ V, y2.setRow pb (cellsT Y2) = V := ⟨_, rfl⟩
              have D2 := Lib.hid (show DSt w bb pb g i t l Y2 V2 by rw [← hV2]; exact DY2.out.turn (kp_row pb y2 (cellsT Y2)) (DY2.out.pt.row Y2) h1 h2 h3)
              go_meet
              rw [hV2]
              exact ⟨Y2, false, true, rfl, rfl, D2.out, .inl ⟨rfl, by subst e2 e1; have hs := hstep; exact hs⟩⟩
          | true =>
            have b_oper := D0.out.pt.c_oper
            cases h_oper : p.oper with
            | false =>
              rw [h_oper] at b_oper
              have b_heardTcn := D0.out.pt.c_heardTcn
              cases h_heardTcn : p.heardTcn with
              | false =>
                rw [h_heardTcn] at b_heardTcn
                have b_heardTc := D0.out.pt.c_heardTc
                cases h_heardTc : p.heardTc with
                | false =>
                  rw [h_heardTc] at b_heardTc
                  have b_tcProp := D0.out.pt.c_tcProp
                  cases h_tcProp : p.tcProp with
                  | false =>
                    rw [h_tcProp] at b_tcProp
                    have b_heardAck := D0.out.pt.c_heardAck
                    cases h_heardAck : p.heardAck with
                    | false =>
                      rw [h_heardAck] at b_heardAck
                      as_aux_lemma =>
                        have hstep : stepF t p = none := by unfold stepF; simp [dch0, dch1, dch2, HIN.out, h_oper, h_heardTcn, h_heardTc, h_tcProp, h_heardAck]
                        go_wp2_with fail
                        go_meet
                        exact ⟨p, false, false, rfl, rfl, D0.out, .inr ⟨rfl, rfl, rfl, hstep⟩⟩
                    | true =>
                      rw [h_heardAck] at b_heardAck
                      as_aux_lemma =>
                        have hstep : stepF t p = some ({ p with tc := 0, heardAck := false }, false) := by unfold stepF; simp [dch0, dch1, dch2, HIN.out, h_oper, h_heardTcn, h_heardTc, h_tcProp, h_heardAck]
                        go_upto_region 40 with (fail)
                        obtain ⟨Y1, e1⟩ : ∃ X, ({ p with tc := 0 } : Pt) = X := ⟨_, rfl⟩
                        have f1 := D0.out.pt.free
                        have c1 := D0.out.pt.c_tc
                        obtain ⟨V1, hV1⟩ : ∃ V, wc.setCell ⟨pb, 53, none⟩ (.int .i64 0) = V := ⟨_, rfl⟩
                        have D1 := Lib.hid (show DSt w bb pb g i t l Y1 V1 by rw [← hV1, ← e1]; exact D0.out.turn ((Kp.refl' pb wc).set 53 (.int .i64 0)) (D0.out.pt.s_tc 0) h1 h2 h3)
                        have HV1 := Lib.hid hV1
                        clear hV1
                        go_upto_region 41 with (fail)
                        refine wp_to (W := V1) (by exact HV1.out.symm) ?_
                        clear f1 c1
                        obtain ⟨Y2, e2⟩ : ∃ X, ({ Y1 with heardAck := false } : Pt) = X := ⟨_, rfl⟩
                        have f2 := D1.out.pt.free
                        have c2 := D1.out.pt.c_heardAck
                        obtain ⟨V2, hV2⟩ : ∃ V, V1.setCell ⟨pb, 42, none⟩ (.bool false) = V := ⟨_, rfl⟩
                        have D2 := Lib.hid (show DSt w bb pb g i t l Y2 V2 by rw [← hV2, ← e2]; exact D1.out.turn ((Kp.refl' pb V1).set 42 (.bool false)) (D1.out.pt.s_heardAck false) h1 h2 h3)
                        have HV2 := Lib.hid hV2
                        clear hV2
                        go_wp2_with fail
                        go_meet
                        rw [HV2.out]
                        clear f2 c2
                        exact ⟨Y2, false, true, rfl, rfl, D2.out, .inl ⟨rfl, by subst e2 e1; have hs := hstep; exact hs⟩⟩
                  | true =>
                    rw [h_tcProp] at b_tcProp
                    as_aux_lemma =>
                      have hstep : stepF t p = some ({ countP t p with flush := true, tcProp := false }, false) := by unfold stepF; simp [dch0, dch1, dch2, HIN.out, h_oper, h_heardTcn, h_heardTc, h_tcProp]
                      go_upto_region 36 with (fail)
                      obtain ⟨Y1, e1⟩ : ∃ X, countP t p = X := ⟨_, rfl⟩
                      have HC1 := Lib.hid (fun w' => e1 ▸ CC.out w' p)
                      obtain ⟨k0, k1, k2, k3, k4⟩ := D0.out.br.cells
                      go_upto_region 37 with (first
                        | (with_reducible refine wpList_rpt rfl _ rfl pb rfl p D0.out.pt ?_)
                        | (go_at_call 19; (with_reducible refine (HC1.out _).mono ?_); rintro e y1 ⟨rfl, hb1⟩; have DY1 := Lib.hid (D0.out.next hb1); clear hb1)
                        | (with_reducible refine wpList_rst rfl _ _ rfl pb rfl Y1 p rfl DY1.out.pt ?_))
                      obtain ⟨V1, hV1⟩ : ∃ V, y1.setRow pb (cellsT Y1) = V := ⟨_, rfl⟩
                      have D1 := Lib.hid (show DSt w bb pb g i t l Y1 V1 by rw [← hV1]; exact DY1.out.turn (kp_row pb y1 (cellsT Y1)) (DY1.out.pt.row Y1) h1 h2 h3)
                      clear k0 k1 k2 k3 k4
                      refine wp_to (W := V1) (by exact hV1.symm) ?_
                      clear hV1
                      obtain ⟨Y2, e2⟩ : ∃ X, ({ Y1 with flush := true } : Pt) = X := ⟨_, rfl⟩
                      have f2 := D1.out.pt.free
                      have c2 := D1.out.pt.c_flush
                      obtain ⟨V2, hV2⟩ : ∃ V, V1.setCell ⟨pb, 45, none⟩ (.bool true) = V := ⟨_, rfl⟩
                      have D2 := Lib.hid (show DSt w bb pb g i t l Y2 V2 by rw [← hV2, ← e2]; exact D1.out.turn ((Kp.refl' pb V1).set 45 (.bool true)) (D1.out.pt.s_flush true) h1 h2 h3)
                      have HV2 := Lib.hid hV2
                      clear hV2
                      go_upto_region 38 with (fail)
                      refine wp_to (W := V2) (by exact HV2.out.symm) ?_
                      clear f2 c2
                      obtain ⟨Y3, e3⟩ : ∃ X, ({ Y2 with tcProp := false } : Pt) = X := ⟨_, rfl⟩
                      have f3 := D2.out.pt.free
                      have c3 := D2.out.pt.c_tcProp
                      obtain ⟨V3, hV3⟩ : ∃ V, V2.setCell ⟨pb, 44, none⟩ (.bool false) = V := ⟨_, rfl⟩
                      have D3 := Lib.hid (show DSt w bb pb g i t l Y3 V3 by rw [← hV3, ← e3]; exact D2.out.turn ((Kp.refl' pb V2).set 44 (.bool false)) (D2.out.pt.s_tcProp false) h1 h2 h3)
                      have HV3 := Lib.hid hV3
                      clear hV3
                      go_wp2_with fail
                      go_meet
                      rw [HV3.out]
                      clear f3 c3
                      exact ⟨Y3, false, true, rfl, rfl, D3.out, .inl ⟨rfl, by subst e3 e2 e1; have hs := hstep; exact hs⟩⟩
                | true =>
                  rw [h_heardTc] at b_heardTc
                  by_cases hr2 : p.role = 2
                  · as_aux_lemma =>
                      have dr2 : (p.role == 2) = true := by rw [hr2]; rfl
                      have hstep : stepF t p = some ({ p with heardTc := false, heardTcn := false, tcAck := true }, true) := by
                        have e6 : heedP13 (p) = { p with heardTc := false, heardTcn := false, tcAck := true } := by unfold heedP13; rw [if_pos hr2]
                        rw [← e6]
                        unfold stepF
                        simp [dch0, dch1, dch2, HIN.out, h_oper, h_heardTcn, h_heardTc]
                      go_upto_region 30 with (fail)
                      obtain ⟨Y1, e1⟩ : ∃ X, ({ p with heardTc := false } : Pt) = X := ⟨_, rfl⟩
                      have f1 := D0.out.pt.free
                      have c1 := D0.out.pt.c_heardTc
                      obtain ⟨V1, hV1⟩ : ∃ V, wc.setCell ⟨pb, 40, none⟩ (.bool false) = V := ⟨_, rfl⟩
                      have D1 := Lib.hid (show DSt w bb pb g i t l Y1 V1 by rw [← hV1, ← e1]; exact D0.out.turn ((Kp.refl' pb wc).set 40 (.bool false)) (D0.out.pt.s_heardTc false) h1 h2 h3)
                      have HV1 := Lib.hid hV1
                      clear hV1
                      go_upto_region 31 with (fail)
                      refine wp_to (W := V1) (by exact HV1.out.symm) ?_
                      clear f1 c1
                      obtain ⟨Y2, e2⟩ : ∃ X, ({ Y1 with heardTcn := false } : Pt) = X := ⟨_, rfl⟩
                      have f2 := D1.out.pt.free
                      have c2 := D1.out.pt.c_heardTcn
                      obtain ⟨V2, hV2⟩ : ∃ V, V1.setCell ⟨pb, 41, none⟩ (.bool false) = V := ⟨_, rfl⟩
                      have D2 := Lib.hid (show DSt w bb pb g i t l Y2 V2 by rw [← hV2, ← e2]; exact D1.out.turn ((Kp.refl' pb V1).set 41 (.bool false)) (D1.out.pt.s_heardTcn false) h1 h2 h3)
                      have cr := D1.out.pt.c_role
                      have crr : (Y1).role = p.role := by subst e1; rfl
                      rw [crr] at cr
                      clear crr
                      have HV2 := Lib.hid hV2
                      clear hV2
                      go_upto_region 33 with (fail)
                      refine wp_to (W := V2) (by exact HV2.out.symm) ?_
                      clear f2 c2
                      obtain ⟨Y3, e3⟩ : ∃ X, ({ Y2 with tcAck := true } : Pt) = X := ⟨_, rfl⟩
                      have f3 := D2.out.pt.free
                      have c3 := D2.out.pt.c_tcAck
                      obtain ⟨V3, hV3⟩ : ∃ V, V2.setCell ⟨pb, 43, none⟩ (.bool true) = V := ⟨_, rfl⟩
                      have D3 := Lib.hid (show DSt w bb pb g i t l Y3 V3 by rw [← hV3, ← e3]; exact D2.out.turn ((Kp.refl' pb V2).set 43 (.bool true)) (D2.out.pt.s_tcAck true) h1 h2 h3)
                      have HV3 := Lib.hid hV3
                      clear hV3
                      go_wp2_with fail
                      go_meet
                      rw [HV3.out]
                      clear f3 c3
                      exact ⟨Y3, true, true, rfl, rfl, D3.out, .inl ⟨rfl, by subst e3 e2 e1; have hs := hstep; exact hs⟩⟩
                  · as_aux_lemma =>
                      have dr2 : (p.role == 2) = false := beq_eq_false_iff_ne.2 hr2
                      have hstep : stepF t p = some ({ p with heardTc := false, heardTcn := false }, true) := by
                        have e6 : heedP13 (p) = { p with heardTc := false, heardTcn := false } := by unfold heedP13; rw [if_neg hr2]
                        rw [← e6]
                        unfold stepF
                        simp [dch0, dch1, dch2, HIN.out, h_oper, h_heardTcn, h_heardTc]
                      go_upto_region 30 with (fail)
                      obtain ⟨Y1, e1⟩ : ∃ X, ({ p with heardTc := false } : Pt) = X := ⟨_, rfl⟩
                      have f1 := D0.out.pt.free
                      have c1 := D0.out.pt.c_heardTc
                      obtain ⟨V1, hV1⟩ : ∃ V, wc.setCell ⟨pb, 40, none⟩ (.bool false) = V := ⟨_, rfl⟩
                      have D1 := Lib.hid (show DSt w bb pb g i t l Y1 V1 by rw [← hV1, ← e1]; exact D0.out.turn ((Kp.refl' pb wc).set 40 (.bool false)) (D0.out.pt.s_heardTc false) h1 h2 h3)
                      have HV1 := Lib.hid hV1
                      clear hV1
                      go_upto_region 31 with (fail)
                      refine wp_to (W := V1) (by exact HV1.out.symm) ?_
                      clear f1 c1
                      obtain ⟨Y2, e2⟩ : ∃ X, ({ Y1 with heardTcn := false } : Pt) = X := ⟨_, rfl⟩
                      have f2 := D1.out.pt.free
                      have c2 := D1.out.pt.c_heardTcn
                      obtain ⟨V2, hV2⟩ : ∃ V, V1.setCell ⟨pb, 41, none⟩ (.bool false) = V := ⟨_, rfl⟩
                      have D2 := Lib.hid (show DSt w bb pb g i t l Y2 V2 by rw [← hV2, ← e2]; exact D1.out.turn ((Kp.refl' pb V1).set 41 (.bool false)) (D1.out.pt.s_heardTcn false) h1 h2 h3)
                      have cr := D1.out.pt.c_role
                      have crr : (Y1).role = p.role := by subst e1; rfl
                      rw [crr] at cr
                      clear crr
                      have HV2 := Lib.hid hV2
                      clear hV2
                      go_wp2_with fail
                      go_meet
                      rw [HV2.out]
                      clear f2 c2
                      exact ⟨Y2, true, true, rfl, rfl, D2.out, .inl ⟨rfl, by subst e2 e1; have hs := hstep; exact hs⟩⟩
              | true =>
                rw [h_heardTcn] at b_heardTcn
                by_cases hr2 : p.role = 2
                · as_aux_lemma =>
                    have dr2 : (p.role == 2) = true := by rw [hr2]; rfl
                    have hrc : (countP t p).role = p.role := (count_kch t p).role
                    have hstep : stepF t p = some ({ countP t p with heardTc := false, heardTcn := false, tcAck := true }, true) := by
                      have e6 : heedP13 (countP t p) = { countP t p with heardTc := false, heardTcn := false, tcAck := true } := by unfold heedP13; rw [if_pos (by rw [hrc]; exact hr2)]
                      rw [← e6]
                      unfold stepF
                      simp [dch0, dch1, dch2, HIN.out, h_oper, h_heardTcn]
                    go_upto_region 29 with (fail)
                    obtain ⟨Y1, e1⟩ : ∃ X, countP t p = X := ⟨_, rfl⟩
                    have HC1 := Lib.hid (fun w' => e1 ▸ CC.out w' p)
                    obtain ⟨k0, k1, k2, k3, k4⟩ := D0.out.br.cells
                    go_upto_region 30 with (first
                      | (with_reducible refine wpList_rpt rfl _ rfl pb rfl p D0.out.pt ?_)
                      | (go_at_call 19; (with_reducible refine (HC1.out _).mono ?_); rintro e y1 ⟨rfl, hb1⟩; have DY1 := Lib.hid (D0.out.next hb1); clear hb1)
                      | (with_reducible refine wpList_rst rfl _ _ rfl pb rfl Y1 p rfl DY1.out.pt ?_))
                    obtain ⟨V1, hV1⟩ : ∃ V, y1.setRow pb (cellsT Y1) = V := ⟨_, rfl⟩
                    have D1 := Lib.hid (show DSt w bb pb g i t l Y1 V1 by rw [← hV1]; exact DY1.out.turn (kp_row pb y1 (cellsT Y1)) (DY1.out.pt.row Y1) h1 h2 h3)
                    clear k0 k1 k2 k3 k4
                    refine wp_to (W := V1) (by exact hV1.symm) ?_
                    clear hV1
                    obtain ⟨Y2, e2⟩ : ∃ X, ({ Y1 with heardTc := false } : Pt) = X := ⟨_, rfl⟩
                    have f2 := D1.out.pt.free
                    have c2 := D1.out.pt.c_heardTc
                    obtain ⟨V2, hV2⟩ : ∃ V, V1.setCell ⟨pb, 40, none⟩ (.bool false) = V := ⟨_, rfl⟩
                    have D2 := Lib.hid (show DSt w bb pb g i t l Y2 V2 by rw [← hV2, ← e2]; exact D1.out.turn ((Kp.refl' pb V1).set 40 (.bool false)) (D1.out.pt.s_heardTc false) h1 h2 h3)
                    have HV2 := Lib.hid hV2
                    clear hV2
                    go_upto_region 31 with (fail)
                    refine wp_to (W := V2) (by exact HV2.out.symm) ?_
                    clear f2 c2
                    obtain ⟨Y3, e3⟩ : ∃ X, ({ Y2 with heardTcn := false } : Pt) = X := ⟨_, rfl⟩
                    have f3 := D2.out.pt.free
                    have c3 := D2.out.pt.c_heardTcn
                    obtain ⟨V3, hV3⟩ : ∃ V, V2.setCell ⟨pb, 41, none⟩ (.bool false) = V := ⟨_, rfl⟩
                    have D3 := Lib.hid (show DSt w bb pb g i t l Y3 V3 by rw [← hV3, ← e3]; exact D2.out.turn ((Kp.refl' pb V2).set 41 (.bool false)) (D2.out.pt.s_heardTcn false) h1 h2 h3)
                    have cr := D2.out.pt.c_role
                    have crr : (Y2).role = p.role := by subst e2 e1; exact hrc
                    rw [crr] at cr
                    clear crr
                    have HV3 := Lib.hid hV3
                    clear hV3
                    go_upto_region 33 with (fail)
                    refine wp_to (W := V3) (by exact HV3.out.symm) ?_
                    clear f3 c3
                    obtain ⟨Y4, e4⟩ : ∃ X, ({ Y3 with tcAck := true } : Pt) = X := ⟨_, rfl⟩
                    have f4 := D3.out.pt.free
                    have c4 := D3.out.pt.c_tcAck
                    obtain ⟨V4, hV4⟩ : ∃ V, V3.setCell ⟨pb, 43, none⟩ (.bool true) = V := ⟨_, rfl⟩
                    have D4 := Lib.hid (show DSt w bb pb g i t l Y4 V4 by rw [← hV4, ← e4]; exact D3.out.turn ((Kp.refl' pb V3).set 43 (.bool true)) (D3.out.pt.s_tcAck true) h1 h2 h3)
                    have HV4 := Lib.hid hV4
                    clear hV4
                    go_wp2_with fail
                    go_meet
                    rw [HV4.out]
                    clear f4 c4
                    exact ⟨Y4, true, true, rfl, rfl, D4.out, .inl ⟨rfl, by subst e4 e3 e2 e1; have hs := hstep; exact hs⟩⟩
                · as_aux_lemma =>
                    have dr2 : (p.role == 2) = false := beq_eq_false_iff_ne.2 hr2
                    have hrc : (countP t p).role = p.role := (count_kch t p).role
                    have hstep : stepF t p = some ({ countP t p with heardTc := false, heardTcn := false }, true) := by
                      have e6 : heedP13 (countP t p) = { countP t p with heardTc := false, heardTcn := false } := by unfold heedP13; rw [if_neg (by rw [hrc]; exact hr2)]
                      rw [← e6]
                      unfold stepF
                      simp [dch0, dch1, dch2, HIN.out, h_oper, h_heardTcn]
                    go_upto_region 29 with (fail)
                    obtain ⟨Y1, e1⟩ : ∃ X, countP t p = X := ⟨_, rfl⟩
                    have HC1 := Lib.hid (fun w' => e1 ▸ CC.out w' p)
                    obtain ⟨k0, k1, k2, k3, k4⟩ := D0.out.br.cells
                    go_upto_region 30 with (first
                      | (with_reducible refine wpList_rpt rfl _ rfl pb rfl p D0.out.pt ?_)
                      | (go_at_call 19; (with_reducible refine (HC1.out _).mono ?_); rintro e y1 ⟨rfl, hb1⟩; have DY1 := Lib.hid (D0.out.next hb1); clear hb1)
                      | (with_reducible refine wpList_rst rfl _ _ rfl pb rfl Y1 p rfl DY1.out.pt ?_))
                    obtain ⟨V1, hV1⟩ : ∃ V, y1.setRow pb (cellsT Y1) = V := ⟨_, rfl⟩
                    have D1 := Lib.hid (show DSt w bb pb g i t l Y1 V1 by rw [← hV1]; exact DY1.out.turn (kp_row pb y1 (cellsT Y1)) (DY1.out.pt.row Y1) h1 h2 h3)
                    clear k0 k1 k2 k3 k4
                    refine wp_to (W := V1) (by exact hV1.symm) ?_
                    clear hV1
                    obtain ⟨Y2, e2⟩ : ∃ X, ({ Y1 with heardTc := false } : Pt) = X := ⟨_, rfl⟩
                    have f2 := D1.out.pt.free
                    have c2 := D1.out.pt.c_heardTc
                    obtain ⟨V2, hV2⟩ : ∃ V, V1.setCell ⟨pb, 40, none⟩ (.bool false) = V := ⟨_, rfl⟩
                    have D2 := Lib.hid (show DSt w bb pb g i t l Y2 V2 by rw [← hV2, ← e2]; exact D1.out.turn ((Kp.refl' pb V1).set 40 (.bool false)) (D1.out.pt.s_heardTc false) h1 h2 h3)
                    have HV2 := Lib.hid hV2
                    clear hV2
                    go_upto_region 31 with (fail)
                    refine wp_to (W := V2) (by exact HV2.out.symm) ?_
                    clear f2 c2
                    obtain ⟨Y3, e3⟩ : ∃ X, ({ Y2 with heardTcn := false } : Pt) = X := ⟨_, rfl⟩
                    have f3 := D2.out.pt.free
                    have c3 := D2.out.pt.c_heardTcn
                    obtain ⟨V3, hV3⟩ : ∃ V, V2.setCell ⟨pb, 41, none⟩ (.bool false) = V := ⟨_, rfl⟩
                    have D3 := Lib.hid (show DSt w bb pb g i t l Y3 V3 by rw [← hV3, ← e3]; exact D2.out.turn ((Kp.refl' pb V2).set 41 (.bool false)) (D2.out.pt.s_heardTcn false) h1 h2 h3)
                    have cr := D2.out.pt.c_role
                    have crr : (Y2).role = p.role := by subst e2 e1; exact hrc
                    rw [crr] at cr
                    clear crr
                    have HV3 := Lib.hid hV3
                    clear hV3
                    go_wp2_with fail
                    go_meet
                    rw [HV3.out]
                    clear f3 c3
                    exact ⟨Y3, true, true, rfl, rfl, D3.out, .inl ⟨rfl, by subst e3 e2 e1; have hs := hstep; exact hs⟩⟩
            | true =>
              rw [h_oper] at b_oper
              as_aux_lemma =>
                have hstep : stepF t p = some (forgetP { p with change := 1 }, false) := by unfold stepF; simp [dch0, dch1, dch2, HIN.out, h_oper]
                go_upto_region 25 with (fail)
                obtain ⟨Y1, e1⟩ : ∃ X, ({ p with change := 1 } : Pt) = X := ⟨_, rfl⟩
                have f1 := D0.out.pt.free
                have c1 := D0.out.pt.c_change
                obtain ⟨V1, hV1⟩ : ∃ V, wc.setCell ⟨pb, 59, none⟩ (.int .i64 1) = V := ⟨_, rfl⟩
                have D1 := Lib.hid (show DSt w bb pb g i t l Y1 V1 by rw [← hV1, ← e1]; exact D0.out.turn ((Kp.refl' pb wc).set 59 (.int .i64 1)) (D0.out.pt.s_change 1) h1 h2 h3)
                have HV1 := Lib.hid hV1
                clear hV1
                go_upto_region 26 with (fail)
                refine wp_to (W := V1) (by exact HV1.out.symm) ?_
                clear f1 c1
                obtain ⟨Y2, e2⟩ : ∃ X, forgetP Y1 = X := ⟨_, rfl⟩
                have HC2 := Lib.hid (fun w' => e2 ▸ CF.out w' Y1)
                go_wp2_with (first
                  | (with_reducible refine wpList_rpt rfl _ rfl pb rfl Y1 D1.out.pt ?_)
                  | (go_at_call 18; (with_reducible refine (HC2.out _).mono ?_); rintro e y2 ⟨rfl, hb2⟩; have DY2 := Lib.hid (D1.out.next hb2); clear hb2)
                  | (with_reducible refine wpList_rst rfl _ _ rfl pb rfl Y2 Y1 rfl DY2.out.pt ?_))
                obtain ⟨V2, hV2⟩ : ∃ V, y2.setRow pb (cellsT Y2) = V := ⟨_, rfl⟩
                have D2 := Lib.hid (show DSt w bb pb g i t l Y2 V2 by rw [← hV2]; exact DY2.out.turn (kp_row pb y2 (cellsT Y2)) (DY2.out.pt.row Y2) h1 h2 h3)
                go_meet
                rw [hV2]
                exact ⟨Y2, false, true, rfl, rfl, D2.out, .inl ⟨rfl, by subst e2 e1; have hs := hstep; exact hs⟩⟩
        · have dch2 : decide (p.change = 2) = false := decide_eq_false hc2
          have de1 : (p.change == 1) = false := beq_eq_false_iff_ne.2 hc1
          have de2 : (p.change == 2) = false := beq_eq_false_iff_ne.2 hc2
          as_aux_lemma =>
            have hstep : stepF t p = none := by unfold stepF; simp [dch0, dch1, dch2]
            go_wp2_with fail
            go_meet
            exact ⟨p, false, false, rfl, rfl, D0.out, .inr ⟨rfl, rfl, rfl, hstep⟩⟩
  case rest =>
    obtain ⟨X, T, M, rfl, rfl, hD, hrel2⟩ := hcut
    have HD := Lib.hid hD
    have HLB : L = tellN X T l k n ∧ B = M := by
      rw [← HN.out, tellN_all]
      rcases hrel2 with ⟨rfl, hs⟩ | ⟨rfl, rfl, rfl, hs⟩
      · have e := HX.out.symm.trans (stepP_yes HB.out HP.out hs)
        cases e
        exact ⟨rfl, rfl⟩
      · have e := HX.out.symm.trans (stepP_no HP.out hs)
        cases e
        exact ⟨(tell_none HP.out).symm, rfl⟩
    obtain ⟨rfl, rfl⟩ := HLB
    have hth := hD.row.at61 (k := k) (by rw [HN.out]; exact hk)
    clear hD hrel2 HX
    go_upto_region 44 with (first
      | (with_reducible refine wpList_rpt rfl _ rfl pb rfl X HD.out.pt ?_)
      | (with_reducible refine wpList_rmidst rfl _ _ rfl g (k * 61) rfl X rfl hth ?_))
    obtain ⟨W9, hW9⟩ : ∃ V, wc.setCells g (k * 61) (cellsT X).toList = V := ⟨_, rfl⟩
    have R9 := Lib.hid (show WRow W9 g (tellN X T l k 0) by rw [← hW9, tellN_zero T (by rw [HN.out]; exact hk)]; exact HD.out.row.set (by rw [HN.out]; exact hk) X)
    have KK := Lib.hid (show Kp g wc W9 by rw [← hW9]; exact kp_setCells _ _ _ (Kp.refl g wc))
    refine wp_to (W := W9) (by exact hW9.symm) ?_
    have B9 := Lib.hid (KK.out.below HD.out.below (Nat.le_of_lt HGW.out) HD.out.below.size)
    clear hW9 hth KK HD
    go_wp2_with fail
    go_loopw [14] (fun v wr => TlInv X T l n k g W9 v wr) (fun v _ => n - (intOf v).toNat)
    case atStart => exact ⟨0, Nat.zero_le _, rfl, R9.out, Kp.refl' g W9⟩
    case round =>
      obtain ⟨j, hj, rfl, hwj, hKj⟩ := hrel
      have HWJ := Lib.hid hwj
      have HKJ := Lib.hid hKj
      clear hwj hKj
      by_cases hjl : j < n
      · have hji : (j : Int) < n := by omega
        have hj0 : (0 : Int) ≤ j := by omega
        cases T with
        | false =>
          go_wp2_with fail
          exact ⟨⟨j + 1, by omega, by go_num, by rw [← tellN_no]; exact HWJ.out, HKJ.out⟩, by simp [intOf]; omega⟩
        | true =>
          by_cases hjk : j = k
          · subst hjk
            have hbq : ((j : Int) != (j : Int)) = false := by simp
            go_wp2_with fail
            exact ⟨⟨j + 1, by omega, by go_num, by rw [← tellN_skip]; exact HWJ.out, HKJ.out⟩, by simp [intOf]; omega⟩
          · have hbq : ((j : Int) != (k : Int)) = true := by simp; omega
            obtain ⟨q, hq⟩ := at_some (l := l) (k := j) (by rw [HN.out]; exact hjl)
            have HQ := Lib.hid hq
            have PA := Lib.hid (HWJ.out.pat (tellN_at (X := X) (T := true) hq hjk))
            have c_tp := PA.out.c_tcProp
            have f_tp := PA.out.f_tcProp
            clear hq
            go_wp2_with fail
            have TT := (Ta.refl PA.out).s_tcProp true
            exact ⟨⟨j + 1, by omega, by go_num, by rw [← tellN_set HQ.out hjk]; exact TT.wrow HWJ.out (by rw [tellN_len, HN.out]; exact hjl), HKJ.out.trans' TT.kp⟩, by simp [intOf]; omega⟩
      · obtain rfl : j = n := by omega
        go_wp2
        go_ret2
        exact ⟨_, cap', rfl, hcap, HWJ.out.row, HKJ.out.below B9.out (Nat.le_of_lt HGW.out) B9.out.size⟩
end Go.Proofs.Ytlfmjinllffifaa
