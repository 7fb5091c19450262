/-
  Layer 13: the program's Step, Pass and Flushed.
-/
import Derived.Test.YtldobcfejldbiaaGreatDoorMba
import Derived.Test.YtldobcfejldbiaaGreatDoorMap
import Derived.Test.YtldobcfejldbiaaGreatDoorMas
namespace Go.Proofs.YtldobcfejldbiaaGreatDoor
set_option linter.unusedVariables false
set_option linter.unusedSimpArgs false
open Go.RowKit Vm Rm Bm Im

theorem stepP_is {t : Tm} {l : List Pt} {k : Nat} {p : Pt} (hb : rightBr t = true) (hp : l[k]? = some p) : stepP t l k = stepR t l k p := by
  unfold stepP stepR
  rw [if_pos hb, hp]
  rfl
theorem stepF_no {t : Tm} {p : Pt} (h0 : ¬ p.change = 0) (h1 : ¬ p.change = 1) (h2 : ¬ p.change = 2) : stepF t p = none := by
  unfold stepF
  simp [h0, h1, h2]

set_option maxRecDepth 20000 in
set_option maxHeartbeats 2000000 in
theorem stepIn_w (i : Int) (t : Tm) (g cap k : Nat) (l L : List Pt) (B : Bool) (w : World) (hr : WRow w g l) (hl : l.length ≤ 1000) (hk : k < l.length) (hX : stepP t l k = (L, B)) :
    Calls Tryz.prog 155 #[brv i t.age t.max t.hello t.delay, .slice (some ⟨g, 0, none⟩) l.length cap, .int .i64 ((k : Nat) : Int)] w fun e w' => e = .returned (.bool B) ∧ WRow w' g L ∧ Kp g w w' := by
  obtain ⟨n, hn⟩ : ∃ n, l.length = n := ⟨_, rfl⟩
  rw [hn] at hl hk ⊢
  have K0 := Lib.hid (show BrBlk (w.alloc (.cells (bcl i t.age t.max t.hello t.delay) 26)) w.heap.size i t.age t.max t.hello t.delay from heap_alloc_new w _)
  have B0 := Lib.hid (below_box w (.cells (bcl i t.age t.max t.hello t.delay) 26))
  have HR := Lib.hid hr
  obtain ⟨RB, hRB⟩ : ∃ R, rightBr ⟨t.age, t.max, t.hello, t.delay⟩ = R := ⟨_, rfl⟩
  have CB := Lib.hid (fun w' => brRight_w i t.age t.max t.hello t.delay RB w' (Lib.hid hRB))
  obtain ⟨p, hp⟩ := at_some (l := l) (k := k) (by rw [hn]; exact hk)
  obtain ⟨k0, k1, k2, k3, k4⟩ := K0.out.cells
  clear hr
  unfold brv
  unfold bcl at *
  cases RB with
  | false =>
    have e := stepP_wrong (l := l) (k := k) (show rightBr t = false from hRB)
    rw [hX] at e
    cases e
    clear hX hRB hp
    go_enter Tryz.func155, Tryz.ntmps155
    go_wp2_with (go_at_call 59; (with_reducible refine (CB.out _).mono ?_); rintro e w2 ⟨rfl, hb2⟩)
    go_ret
    exact ⟨rfl, (HR.out.next B0.out).next hb2, Kp.of (bw_trans B0.out hb2)⟩
  | true =>
    have hb := show rightBr t = true from hRB
    have ht := right_tm hb
    have hXR : stepR t l k p = (L, B) := (stepP_is hb hp).symm.trans hX
    have C0 := Lib.hid (fun w' (h : WRow w' g l) (hc : p.change = 0) => ofInactive_w t ht g n cap k (k * 61) l L B p w' h hn hl hp rfl hc (Lib.hid hXR))
    have C1 := Lib.hid (fun w' (h : WRow w' g l) (hc : p.change = 1) => ofLearning_w t ht g n cap k (k * 61) l L B p w' h hn hl hp rfl hc (Lib.hid hXR))
    have C2 := Lib.hid (fun w' (h : WRow w' g l) (hc : p.change = 2) => ofActive_w t ht g n cap k (k * 61) l L B p w' h hn hl hp rfl hc (Lib.hid hXR))
    have HP := Lib.hid hp
    have HX := Lib.hid hXR
    have hki : (k : Int) < n := by omega
    have hk0 : (0 : Int) ≤ k := by omega
    clear hb hp hX hXR hRB ht
    go_enter Tryz.func155, Tryz.ntmps155
    go_upto_region 3 with (go_at_call 59; (with_reducible refine (CB.out _).mono ?_); rintro e w2 ⟨rfl, hb2⟩; have B2 := Lib.hid (bw_trans B0.out hb2); have K2 := Lib.hid (K0.out.next hb2); have hb2' := hb2; clear hb2 k0 k1 k2 k3 k4)
    obtain ⟨k0, k1, k2, k3, k4⟩ := K2.out.cells
    have WR := Lib.hid ((HR.out.next B0.out).next (show Below _ _ w2 from hb2'))
    have kA1 := fun c => (K2.out.next (below_box w2 c)).cells.2.1
    have kA2 := fun c => (K2.out.next (below_box w2 c)).cells.2.2.1
    have kA3 := fun c => (K2.out.next (below_box w2 c)).cells.2.2.2.1
    have kA4 := fun c => (K2.out.next (below_box w2 c)).cells.2.2.2.2
    obtain ⟨X, hXX⟩ : ∃ X, (w2.alloc (.cells #[.int .i64 t.age, .int .i64 t.max, .int .i64 t.hello, .int .i64 t.delay, .slice (some ⟨g, 0, none⟩) n cap, .int .i64 ((k : Nat) : Int), .pointer (some ⟨g, k * 61, none⟩)] 237)).drew = X := ⟨_, rfl⟩
    go_region
    have BX := Lib.hid (show Below w2.heap.size w2 X from hXX ▸ (below_box w2 _).drew)
    have SX := Lib.hid (show CBk X w2.heap.size t g n cap k (k * 61) from hXX ▸ (cbk_new w2 : CBk (w2.alloc _) _ _ _ _ _ _ _))
    clear hXX k0 k1 k2 k3 k4 kA1 kA2 kA3 kA4 K2 K0
    obtain ⟨ub, hub⟩ : ∃ ub, w2.heap.size = ub := ⟨_, rfl⟩
    rw [hub] at BX SX ⊢
    obtain ⟨s0, s1, s2, s3, s4, s5, s6⟩ := SX.out.cells
    have WX := Lib.hid (WR.out.next (hub.symm ▸ BX.out))
    have BW := Lib.hid (bw_trans B2.out (hub.symm ▸ BX.out))
    have c_change := (WX.out.pat HP.out).c_change
    clear B0 BX hb2' hub CB B2 WR
    unfold sv scl at C0 C1 C2
    by_cases e0 : p.change = 0
    · have CX := Lib.hid (C0.out X WX.out e0)
      rw [e0] at c_change
      clear C0 C1 C2 e0
      go_wp2_with (go_at_call 191; (with_reducible refine CX.out.mono ?_); rintro e w3 ⟨rfl, hw3, hk3⟩)
      go_ret
      exact ⟨rfl, hw3, (Kp.of BW.out).trans' hk3⟩
    · have d0 : (p.change == 0) = false := beq_eq_false_iff_ne.2 e0
      by_cases e1 : p.change = 1
      · have CX := Lib.hid (C1.out X WX.out e1)
        rw [e1] at c_change
        clear C0 C1 C2 e0 e1
        go_wp2_with (go_at_call 192; (with_reducible refine CX.out.mono ?_); rintro e w3 ⟨rfl, hw3, hk3⟩)
        go_ret
        exact ⟨rfl, hw3, (Kp.of BW.out).trans' hk3⟩
      · have d1 : (p.change == 1) = false := beq_eq_false_iff_ne.2 e1
        by_cases e2 : p.change = 2
        · have CX := Lib.hid (C2.out X WX.out e2)
          rw [e2] at c_change
          clear C0 C1 C2 e0 e1 e2
          go_wp2_with (go_at_call 193; (with_reducible refine CX.out.mono ?_); rintro e w3 ⟨rfl, hw3, hk3⟩)
          go_ret
          exact ⟨rfl, hw3, (Kp.of BW.out).trans' hk3⟩
        · have d2 : (p.change == 2) = false := beq_eq_false_iff_ne.2 e2
          have e := HX.out.symm.trans (stepR_no (stepF_no e0 e1 e2))
          cases e
          clear C0 C1 C2 e0 e1 e2
          go_wp2
          go_ret
          exact ⟨rfl, WX.out, Kp.of BW.out⟩

def CpInv (t : Tm) (l : List Pt) (n g : Nat) (W : World) (v : Value) (wr : World) : Prop :=
  ∃ k : Nat, k ≤ n ∧ v = .int .i64 (k : Nat) ∧ WRow wr g (cpassN t l k) ∧ Kp g W wr

set_option maxRecDepth 20000 in
set_option maxHeartbeats 2000000 in
theorem pass13_w (i : Int) (t : Tm) (ad : Option Addr) (cap : Nat) (l L : List Pt) (B : Bool) (w : World) (hr : PRow w ad l) (hl : l.length ≤ 1000) (hX : cpassP t l = (L, B)) :
    Calls Tryz.prog 114 #[brv i t.age t.max t.hello t.delay, .slice ad l.length cap] w fun e w' => Out w w' l.length L B e := by
  have K0 := Lib.hid (show BrBlk (w.alloc (.cells (bcl i t.age t.max t.hello t.delay) 26)) w.heap.size i t.age t.max t.hello t.delay from heap_alloc_new w _)
  have B0 := Lib.hid (below_box w (.cells (bcl i t.age t.max t.hello t.delay) 26))
  have CC := Lib.hid (clone_w ad cap l _ (hr.next B0.out) hl)
  obtain ⟨n, hn⟩ : ∃ n, l.length = n := ⟨_, rfl⟩
  have HR := Lib.hid hr
  have HN := Lib.hid hn
  rw [hn] at CC hl ⊢
  have hL : cpassN t l n = L := by
    have := congrArg Prod.fst hX
    rw [← hn]; exact this
  have hB : (!decide (cpassN t l n = l)) = B := by
    have := congrArg Prod.snd hX
    rw [← hn]; exact this
  have HL := Lib.hid hL
  have CE := Lib.hid (fun w' (a' : Option Addr) (cap' : Nat) (h : PRow w' ad l) (h' : PRow w' a' (cpassN t l n)) => equal_w ad a' cap cap' l (cpassN t l n) n (!B) w' h h' hn ((cpassN_len t l n).trans hn) hl (Lib.hid (by rw [← hB, Bool.not_not]; exact decide_eq_decide.2 ⟨fun e => e.symm, fun e => e.symm⟩)))
  have CM := Lib.hid (fun w' (g cap' k : Nat) (h : WRow w' g (cpassN t l k)) (hk : k < n) => show Calls Tryz.prog 155 #[brv i t.age t.max t.hello t.delay, .slice (some ⟨g, 0, none⟩) n cap', .int .i64 ((k : Nat) : Int)] w' (fun e w'' => e = .returned (.bool (stepP t (cpassN t l k) k).2) ∧ WRow w'' g (cpassN t l (k + 1)) ∧ Kp g w' w'') from by
    have e := (cpassN_len t l k).trans hn
    have := stepIn_w i t g cap' k (cpassN t l k) (stepP t (cpassN t l k) k).1 (stepP t (cpassN t l k) k).2 w' h (by omega) (by omega) rfl
    rwa [e] at this)
  clear hr hn hX hL hB
  unfold brv at *
  unfold bcl at *
  go_enter Tryz.func114, Tryz.ntmps114
  go_wp2_with fail
  (with_reducible refine CC.out.mono ?_)
  rintro e W ⟨a', cap', rfl, hcap, hown, hb1⟩
  have BW := Lib.hid (bw_trans B0.out hb1)
  have K1 := Lib.hid (K0.out.next hb1)
  rcases hown with ⟨rfl, hl0⟩ | ⟨g, rfl, hgB, hW⟩
  · have hn0 : n = 0 := by rw [← HN.out, hl0]; rfl
    subst hn0
    clear K0 B0 CC hb1 CM
    go_wp2_with fail
    go_loopw [12] (fun v wr => v = .int .i64 0 ∧ Below W.heap.size W wr) (fun v _ => 0)
    case atStart => exact ⟨rfl, Below.refl _ _⟩
    case round =>
      obtain ⟨rfl, hG⟩ := hrel
      have HG := Lib.hid (bw_trans BW.out hG)
      have hp0 : cpassN t l 0 = l := rfl
      have HE := Lib.hid (CE.out wr none cap' (HR.out.next HG.out) (by rw [hp0, hl0]; exact prow_nil _ _))
      clear hG CE
      go_wp2_with (go_at_call 119; (with_reducible refine HE.out.mono ?_); rintro e w3 ⟨rfl, hb3⟩)
      go_ret2
      exact ⟨none, cap', rfl, hcap, by rw [← HL.out, hp0, hl0]; exact prow_nil _ _, bw_trans HG.out hb3⟩
  · have HWR := Lib.hid hW
    have hgw : w.heap.size < g := by rw [size_box] at hgB; omega
    clear K0 B0 CC hb1 hgB hW
    go_wp2_with fail
    go_loopw [12] (fun v wr => CpInv t l n g W v wr) (fun v _ => n - (intOf v).toNat)
    case atStart => exact ⟨0, Nat.zero_le _, rfl, HWR.out, Kp.refl' g W⟩
    case round =>
      obtain ⟨k, hk, rfl, hw, hK⟩ := hrel
      have HW := Lib.hid hw
      have HK := Lib.hid hK
      have hne : w.heap.size ≠ g := by omega
      obtain ⟨k0, k1, k2, k3, k4⟩ := (K1.out.kp hK hne).cells
      have HBl := Lib.hid (hK.below BW.out (by omega) BW.out.size)
      clear hw hK
      by_cases hkl : k < n
      · have hki : (k : Int) < n := by omega
        have hk0 : (0 : Int) ≤ k := by omega
        have HM := Lib.hid (CM.out wr g cap' k HW.out hkl)
        clear CM CE
        go_wp2_with (go_at_call 155; (with_reducible refine HM.out.mono ?_); rintro e w1 ⟨rfl, hw1, hk1⟩)
        exact ⟨⟨k + 1, by omega, by go_num, hw1, HK.out.trans' hk1⟩, by simp [intOf]; omega⟩
      · obtain rfl : k = n := by omega
        have HE := Lib.hid (CE.out wr (some ⟨g, 0, none⟩) cap' (HR.out.next HBl.out) HW.out.row)
        clear CE CM
        go_wp2_with (go_at_call 119; (with_reducible refine HE.out.mono ?_); rintro e w3 ⟨rfl, hb3⟩)
        go_ret2
        exact ⟨_, cap', rfl, hcap, by rw [← HL.out]; exact (HW.out.next hb3).row, bw_trans HBl.out hb3⟩

/-- A row of identifiers. -/
structure URow (w : World) (a : Option Addr) (l : List Int) : Prop where
  at_ : ∀ j n, l[j]? = some n → ∃ g o : Nat, a = some ⟨g, o, none⟩ ∧ g < w.heap.size ∧ w.cell? ⟨g, o + j, none⟩ = some (.int .u64 n)
theorem URow.next {w w' : World} {a : Option Addr} {l : List Int} (h : URow w a l) (hb : Below w.heap.size w w') : URow w' a l :=
  ⟨fun j n hn => by obtain ⟨g, o, e, hg, k⟩ := h.at_ j n hn; exact ⟨g, o, e, Nat.lt_of_lt_of_le hg hb.size, (hb.cell (p := ⟨g, o + j, none⟩) hg).trans k⟩⟩
/-- What Flushed hands back. -/
def OutF (w w' : World) (l : List Pt) (e : Ending) : Prop :=
  ∃ (a' d : Option Addr) (cap' dcap : Nat), e = .returned (.tuple #[.slice a' l.length cap', .slice d (flushedP l).2.length dcap]) ∧ (flushedP l).2.length ≤ dcap ∧ l.length ≤ cap' ∧ ((a' = none ∧ l = []) ∨ ∃ g, a' = some ⟨g, 0, none⟩ ∧ w.heap.size ≤ g ∧ WRow w' g (flushedP l).1) ∧ (URow w' d (flushedP l).2 ∧ ∀ g o, d = some ⟨g, o, none⟩ → w.heap.size ≤ g) ∧ Below w.heap.size w w'

/-! Flushed, step by step. -/
def offN (l : List Pt) (j : Nat) : List Pt := l.mapIdx fun i p => if i < j then offP p else p
theorem offN_zero (l : List Pt) : offN l 0 = l := by
  unfold offN
  apply List.ext_getElem?
  intro j
  simp
theorem offN_len (l : List Pt) (j : Nat) : (offN l j).length = l.length := by unfold offN; simp
theorem offN_at {l : List Pt} {j : Nat} {p : Pt} (h : l[j]? = some p) : (offN l j)[j]? = some p := by unfold offN; simp [h]
theorem offN_set {l : List Pt} {j : Nat} {p : Pt} (h : l[j]? = some p) : (offN l j).set j (offP p) = offN l (j + 1) := by
  unfold offN
  have hj : j < l.length := (List.getElem?_eq_some_iff.1 h).1
  apply List.ext_getElem?
  intro i
  by_cases hi : j = i
  · subst hi
    rw [List.getElem?_set_self (by simpa using hj)]
    simp [h]
  · rw [List.getElem?_set_ne hi]
    simp only [List.getElem?_mapIdx]
    congr 1
    funext p
    have : (i < j) ↔ (i < j + 1) := by omega
    simp only [this]
theorem offN_all {l : List Pt} {n : Nat} (h : l.length = n) : offN l n = l.map offP := by
  unfold offN
  apply List.ext_getElem?
  intro i
  simp only [List.getElem?_mapIdx, List.getElem?_map]
  cases hl : l[i]? with
  | none => rfl
  | some r =>
    have hil : i < n := h ▸ (List.getElem?_eq_some_iff.1 hl).1
    simp [hil]
def idsN (l : List Pt) (j : Nat) : List Int := ((l.take j).filter Pt.flush).map Pt.id
theorem idsN_yes {l : List Pt} {j : Nat} {p : Pt} (h : l[j]? = some p) (hf : p.flush = true) : idsN l (j + 1) = idsN l j ++ [p.id] := by
  unfold idsN
  rw [List.take_add_one, h]
  simp [List.filter_append, hf]
theorem idsN_no {l : List Pt} {j : Nat} {p : Pt} (h : l[j]? = some p) (hf : p.flush = false) : idsN l (j + 1) = idsN l j := by
  unfold idsN
  rw [List.take_add_one, h]
  simp [List.filter_append, hf]
theorem idsN_all {l : List Pt} {n : Nat} (h : l.length = n) : idsN l n = (flushedP l).2 := by
  unfold idsN flushedP
  rw [List.take_of_length_le (by omega)]
theorem idsN_len (l : List Pt) (j : Nat) : (idsN l j).length ≤ l.length := by
  unfold idsN
  rw [List.length_map]
  exact Nat.le_trans (List.length_filter_le _ _) (by rw [List.length_take]; omega)
def encU (n : Int) : Value := .int .u64 n
theorem urow_owned {w : World} {base n : Nat} {v : Value} {l : List Int} (h : w.ownsRow base 22 1 v n (l.map encU)) (hl : l.length = n) :
    ∃ (a : Option Addr) (cap : Nat), v = .slice a n cap ∧ n ≤ cap ∧ URow w a l ∧ ∀ g o, a = some ⟨g, o, none⟩ → base ≤ g := by
  rcases h.2 with ⟨rfl, h0⟩ | ⟨g, cap, cur, rfl, hbg, hg, hnc, hcm, hcs, htake⟩
  · have : l = [] := List.eq_nil_of_length_eq_zero (hl.trans h0)
    subst this
    subst h0
    exact ⟨none, 0, rfl, Nat.le_refl _, ⟨fun j n hn => by simp at hn⟩, fun g o e => by cases e⟩
  · refine ⟨_, cap, rfl, hnc, ⟨fun j x hx => ⟨g, 0, rfl, (Array.getElem?_eq_some_iff.1 hg).1, ?_⟩⟩, fun g' o e => by cases e; exact hbg⟩
    have hj := (List.getElem?_eq_some_iff.1 hx).1
    have h1 := h.cellAt j (by omega)
    rw [List.getElem?_map, hx] at h1
    rw [Nat.zero_add]
    exact h1
theorem WRow.nextB {w w' : World} {g B : Nat} {l : List Pt} (h : WRow w g l) (hg : g < B) (hb : Below B w w') : WRow w' g l :=
  ⟨Nat.lt_of_lt_of_le h.lt hb.size, fun j p hp => range_next (h.at_ j p hp) hg hb, there_next h.free hg hb⟩
theorem Kp.belowB {g : Nat} {w w1 w2 : World} (h : Kp g w w1) (hb : Below w.heap.size w1 w2) : Kp g w w2 :=
  ⟨hb.os.trans h.os, hb.tape.trans h.tape, hb.output.trans h.output, Nat.le_trans h.size hb.size, fun i hi hn => (hb.block i hi).trans (h.block i hi hn)⟩
theorem own_set1 {w : World} {base : Nat} {e : TypeId} {size : Nat} {v : Value} {n : Nat} {xs : List Value} (h : w.ownsRow base e size v n xs) {g : Nat} (hg : g < base) (j : Nat) (u : Value) : (w.setCell ⟨g, j, none⟩ u).ownsRow base e size v n xs :=
  ⟨h.1, by
    rcases h.2 with ⟨h0, h1⟩ | ⟨g', cap, cur, e1, hbg, hg', rest⟩
    · exact .inl ⟨h0, h1⟩
    · exact .inr ⟨g', cap, cur, e1, hbg, (Below.heap_setCell w ⟨g, j, none⟩ u g' (by show g' ≠ g; omega)).trans hg', rest⟩⟩
def FuInv (l : List Pt) (n g : Nat) (W : World) (u v : Value) (wr : World) : Prop :=
  ∃ k : Nat, k ≤ n ∧ v = .int .i64 (k : Nat) ∧ WRow wr g (offN l k) ∧ wr.ownsRow W.heap.size 22 1 u (idsN l k).length ((idsN l k).map encU) ∧ Kp g W wr
theorem infoU64 : (Tryz.prog.info? 22).map (fun i => (i.zero, i.size, i.bytes)) = some (some (.int .u64 0), 1, 8) := by kernel_rfl

set_option maxRecDepth 20000 in
set_option maxHeartbeats 2000000 in
theorem flushed13_w (ad : Option Addr) (cap : Nat) (l : List Pt) (w : World) (hr : PRow w ad l) (hl : l.length ≤ 1000) :
    Calls Tryz.prog 159 #[.slice ad l.length cap] w fun e w' => OutF w w' l e := by
  have CC := Lib.hid (clone_w ad cap l w hr hl)
  unfold OutF
  obtain ⟨n, hn⟩ : ∃ n, l.length = n := ⟨_, rfl⟩
  have HN := Lib.hid hn
  rw [hn] at CC hl ⊢
  have H1 := Lib.hid (offN_all hn)
  have H2 := Lib.hid (idsN_all hn)
  have H3 := Lib.hid (fun j => idsN_len l j)
  have e1 : (flushedP l).1 = l.map offP := rfl
  rw [← H2.out, e1, ← H1.out]
  clear hr hn e1
  go_enter Tryz.func159, Tryz.ntmps159
  go_wp2_with fail
  (with_reducible refine CC.out.mono ?_)
  rintro e W ⟨a', cap', rfl, hcap, hown, hb1⟩
  have BW := Lib.hid hb1
  rcases hown with ⟨rfl, hl0⟩ | ⟨g, rfl, hgB, hW⟩
  · have hn0 : n = 0 := by rw [← HN.out, hl0]; rfl
    subst hn0
    subst hl0
    clear CC hb1
    go_wp2_with fail
    go_loopw [5, 11] (fun u v wr => u = .slice none 0 0 ∧ v = .int .i64 0 ∧ Below W.heap.size W wr) (fun _ v _ => 0)
    case atStart => exact ⟨rfl, rfl, Below.refl _ _⟩
    case round =>
      obtain ⟨rfl, rfl, hG⟩ := hrel
      have HG := Lib.hid (bw_trans BW.out hG)
      clear hG
      go_wp2
      go_ret2
      first | exact ⟨none, none, cap', 0, rfl, Nat.le_refl _, .inl rfl, ⟨⟨fun j n hn => by simp [idsN] at hn⟩, fun g o e => by cases e⟩, HG.out⟩ | exact ⟨none, none, cap', 0, rfl, Nat.le_refl _, hcap, .inl rfl, ⟨⟨fun j n hn => by simp [idsN] at hn⟩, fun g o e => by cases e⟩, HG.out⟩ | exact ⟨none, none, cap', 0, rfl, .inl rfl, ⟨⟨fun j n hn => by simp [idsN] at hn⟩, fun g o e => by cases e⟩, HG.out⟩
  · have HWR := Lib.hid hW
    have HGL := Lib.hid hW.lt
    have HGB := Lib.hid hgB
    clear CC hb1 hgB hW
    obtain ⟨i0, hi, hz0, hz1, hz2⟩ := info_parts infoU64
    go_wp2_with fail
    go_loopw [5, 11] (fun u v wr => FuInv l n g W u v wr) (fun _ v _ => n - (intOf v).toNat)
    case atStart => exact ⟨0, Nat.zero_le _, rfl, by rw [offN_zero]; exact HWR.out, World.ownsRow_nil _ _ _ _, Kp.refl' g W⟩
    case round =>
      obtain ⟨k, hk, rfl, hw, hO, hK⟩ := hrel
      have HW := Lib.hid hw
      have HO := Lib.hid hO
      have HK := Lib.hid hK
      clear hw hK hO
      by_cases hkl : k < n
      · have hki : (k : Int) < n := by omega
        have hk0 : (0 : Int) ≤ k := by omega
        obtain ⟨p, hp⟩ := at_some (l := l) (k := k) (by rw [HN.out]; exact hkl)
        have HP := Lib.hid hp
        have PA := Lib.hid (HW.out.pat (offN_at hp))
        have c_flush := PA.out.c_flush
        have f_flush := PA.out.f_flush
        have c_id := PA.out.c_id
        cases hf : p.flush with
        | false =>
          rw [hf] at c_flush
          have HI := Lib.hid (idsN_no hp hf)
          have T := Lib.hid ((Ta.refl PA.out).s_flush false)
          clear hf hp
          go_wp2_with fail
          exact ⟨⟨k + 1, by omega, by go_num, by rw [← offN_set HP.out]; exact T.out.wrow HW.out (by rw [offN_len, HN.out]; exact hkl), by rw [HI.out]; exact own_set1 HO.out HGL.out _ _, HK.out.trans' T.out.kp⟩, by simp [intOf]; omega⟩
        | true =>
          rw [hf] at c_flush
          have HI := Lib.hid (idsN_yes hp hf)
          have hm := HI.out
          have h0 := H3.out k
          rw [HN.out] at h0
          obtain ⟨m, hmm⟩ : ∃ m, (idsN l k).length = m := ⟨_, rfl⟩
          have HM := Lib.hid hmm
          rw [hmm] at HO h0
          have HB := Lib.hid HK.out.size
          clear hf hp hm hmm
          obtain ⟨D, hD⟩ : ∃ D, p.id = D := ⟨_, rfl⟩
          have HD := Lib.hid hD
          rw [hD] at c_id
          clear hD
          go_upto_region 8 with (at_builtin; refine wpList_append_own _ (by rfl) _ _ _ (by rfl) W.heap.size 22 i0 (.int .u64 0) 1 8 Tryz.underlying39 hi hz0 hz1 hz2 rfl (by decide) _ m _ (by rfl) (HO.out.alloc (.cells #[.int .u64 D] 22)) ⟨wr.heap.size, 0, none⟩ 1 1 [.int .u64 D] (by rfl) rfl (cell_one_new _ _ _) (by intro u hu; simp at hu; subst hu; rfl) (by unfold maxLen; omega) (by omega) (by have := HB.out; simp; omega) ?_; intro v' w1 hown1 hgrow _; have HOW := Lib.hid hown1; have BG := Lib.hid (((Below.refl W.heap.size wr).alloc HB.out (.cells #[.int .u64 D] 22)).grown hgrow (by simp; have := HB.out; omega) (fun x hx => (HO.out.lt x hx).1)); clear hown1 hgrow c_flush f_flush c_id)
          have HW1 := Lib.hid (HW.out.nextB HGL.out BG.out)
          have HK1 := Lib.hid (HK.out.belowB BG.out)
          have PA1 := Lib.hid (HW1.out.pat (offN_at HP.out))
          have c_flush := PA1.out.c_flush
          have f_flush := PA1.out.f_flush
          have T := Lib.hid ((Ta.refl PA1.out).s_flush false)
          go_wp2_with fail
          exact ⟨⟨k + 1, by omega, by go_num, by rw [← offN_set HP.out]; exact T.out.wrow HW1.out (by rw [offN_len, HN.out]; exact hkl), by rw [HI.out, List.length_append, HM.out, List.map_append]; exact own_set1 (by rw [HD.out]; exact HOW.out) HGL.out _ _, HK1.out.trans' T.out.kp⟩, by simp [intOf]; omega⟩
      · obtain rfl : k = n := by omega
        obtain ⟨d, dcap, rfl, hd1, hd2, hd3⟩ := urow_owned HO.out rfl
        have D3 := Lib.hid (show ∀ g o, d = some ⟨g, o, none⟩ → w.heap.size ≤ g from fun g o e => Nat.le_trans BW.out.size (hd3 g o e))
        have D1 := Lib.hid hd1
        have D2 := Lib.hid hd2
        clear hd1 hd2 hd3 HO
        obtain ⟨m, hmm⟩ : ∃ m, (idsN l k).length = m := ⟨_, rfl⟩
        rw [hmm] at D1 ⊢
        have HM := Lib.hid hmm
        clear hmm
        go_wp2
        go_ret2
        exact ⟨_, d, cap', dcap, by rw [HM.out]; rfl, by rw [HM.out]; exact D1.out, hcap, .inr ⟨_, rfl, HGB.out, HW.out⟩, ⟨D2.out, D3.out⟩, HK.out.below BW.out HGB.out BW.out.size⟩
end Go.Proofs.YtldobcfejldbiaaGreatDoor
