/-
  Layer 15: an instance between calls; run; what is done at a place (printed by gen_rpi.py).
  Layer 15: has; what is done at a place (printed by gen_rpj.py).
  Layer 15: Power, Hear, Check, Tick, Ports, Rounds, Forgotten.
-/
import Derived.Test.YtldobcfejldbiaaGreatDoorMax
namespace Go.Proofs.YtldobcfejldbiaaGreatDoor
set_option linter.unusedVariables false
set_option linter.unusedSimpArgs false
open Go.RowKit Go.Maps Vm Rm Bm Im

/-- An instance between calls, behind k runs. -/
structure IsX (w : World) (xb g cap mb : Nat) (i : Int) (t : Tm) (k : Nat) (x : Rs) : Prop where
  blk : XBlk w xb i t (some ⟨g, 0, none⟩) x.l.length cap mb ((x.r : Nat) : Int)
  row : WRow w g x.l
  cap : x.l.length ≤ cap
  fm : IsFm w mb x.f
  fok : FOk (x.l.map Pt.id) x.f
  good : Im.Good x.l
  len1 : 1 ≤ x.l.length
  len2 : x.l.length ≤ 16
  rr : x.r ≤ 300 * k
/-- All but an instance's three blocks lie as they did. -/
structure K3 (x m g : Nat) (w w' : World) : Prop where
  os : w'.os = w.os
  tape : w'.tape = w.tape
  output : w'.output = w.output
  size : w.heap.size ≤ w'.heap.size
  block : ∀ i, i < w.heap.size → i ≠ x → i ≠ m → i ≠ g → w'.heap[i]? = w.heap[i]?
theorem K3.refl (x m g : Nat) (w : World) : K3 x m g w w := ⟨rfl, rfl, rfl, Nat.le_refl _, fun _ _ _ _ _ => rfl⟩
theorem K3.of2 {x m g : Nat} {w w1 : World} (h : K2 x m w w1) : K3 x m g w w1 := ⟨h.os, h.tape, h.output, h.size, fun i hi h1 h2 _ => h.block i hi h1 h2⟩
theorem K3.ofg {x m g : Nat} {w w1 : World} (h : Kp g w w1) : K3 x m g w w1 := ⟨h.os, h.tape, h.output, h.size, fun i hi _ _ h3 => h.block i hi h3⟩
theorem K3.of {x m g : Nat} {w w1 : World} (h : Below w.heap.size w w1) : K3 x m g w w1 := ⟨h.os, h.tape, h.output, h.size, fun i hi _ _ _ => h.block i hi⟩
theorem K3.trans {x m g : Nat} {w w1 w2 : World} (h : K3 x m g w w1) (k : K3 x m g w1 w2) : K3 x m g w w2 :=
  ⟨k.os.trans h.os, k.tape.trans h.tape, k.output.trans h.output, Nat.le_trans h.size k.size, fun i hi h1 h2 h3 => (k.block i (Nat.lt_of_lt_of_le hi h.size) h1 h2 h3).trans (h.block i hi h1 h2 h3)⟩
theorem K3.below {x m g B : Nat} {a w w' : World} (h : K3 x m g w w') (hb : Below B a w) (h1 : B ≤ x) (h2 : B ≤ m) (h3 : B ≤ g) (h4 : B ≤ w.heap.size) : Below B a w' :=
  ⟨h.os.trans hb.os, h.tape.trans hb.tape, h.output.trans hb.output, Nat.le_trans hb.size h.size, fun i hi => (h.block i (by omega) (by omega) (by omega) (by omega)).trans (hb.block i hi)⟩
section
variable {w w' : World} {xb g cap mb k : Nat} {i : Int} {t : Tm} {x : Rs}
theorem IsX.next (h : IsX w xb g cap mb i t k x) (hb : Below w.heap.size w w') : IsX w' xb g cap mb i t k x :=
  ⟨h.blk.next hb, h.row.next hb, h.cap, h.fm.next hb, h.fok, h.good, h.len1, h.len2, h.rr⟩
theorem IsX.ne (h : IsX w xb g cap mb i t k x) : xb ≠ mb ∧ g ≠ xb ∧ g ≠ mb := by
  obtain ⟨p, hp⟩ := at_some (l := x.l) (k := 0) (by have := h.len1; omega)
  exact ⟨h.fm.ne h.blk, h.blk.apart h.row.row hp rfl, h.fm.apart h.row.row hp rfl⟩
end

set_option maxRecDepth 20000 in
set_option maxHeartbeats 2000000 in
theorem run15_w (xb : Nat) (i : Int) (t : Tm) (a : Option Addr) (n cap mb k : Nat) (x : Rs) (w : World) (h : XBlk w xb i t a n cap mb ((x.r : Nat) : Int)) (hr : PRow w a x.l) (hn : x.l.length = n) (hn1 : 1 ≤ n) (hn2 : n ≤ 16)
    (hf : IsFm w mb x.f) (hok : FOk (x.l.map Pt.id) x.f) (hbr : Vm.u64B i) (hg : Im.Good x.l) (hrr : x.r ≤ 300 * k) (hk : k ≤ 1000) :
    Calls Tryz.prog 31 #[.pointer (some ⟨xb, 0, none⟩)] w fun e w' => e = .returned (.tuple #[]) ∧ ∃ (g cap' : Nat), w.heap.size ≤ g ∧ IsX w' xb g cap' mb i t (k + 1) (runP i t x) ∧ K2 xb mb w w' := by
  obtain ⟨l, f, r⟩ := x
  dsimp only at *
  have CR := Lib.hid (fun w' (h' : XBlk w' xb i t a n cap mb ((r : Nat) : Int)) (hr' : PRow w' a l) (hf' : IsFm w' mb f) => repeat15_w xb i t a n cap mb r ((r : Nat) : Int) l f w' h' hr' hn hn1 hn2 hf' hok hbr hg)
  have HX := Lib.hid h
  have HR := Lib.hid hr
  have HF := Lib.hid hf
  have HOK := Lib.hid hok
  have HG := Lib.hid hg
  have HN := Lib.hid hn
  have hxm := hf.ne h
  clear h hr hf hok hg hn
  have FIN : ∀ (X : Rs) (w1 : World) (g cap' c : Nat), X = Im.runN i t 300 ⟨l, f, r⟩ → X.r = r + c → c ≤ 300 → n ≤ cap' → XBlk w1 xb i t (some ⟨g, 0, none⟩) n cap' mb ((r : Nat) : Int) → WRow w1 g X.l → IsFm w1 mb X.f → g ≠ xb → ∀ w2, w1.setCell ⟨xb, 7, none⟩ (.int .i64 (((r : Nat) : Int) + ((c : Nat) : Int))) = w2 → IsX w2 xb g cap' mb i t (k + 1) (runP i t ⟨l, f, r⟩) ∧ Kp xb w1 w2 := by
    intro X w1 g cap' c hX hXr hc hcap hx hw hfm hgx w2 hw2
    have hXX : runP i t ⟨l, f, r⟩ = X := hX.symm
    rw [hXX]
    have hlen : X.l.length = n := by rw [← hXX, run_len]; exact HN.out
    have hkp : Kp xb w1 w2 := hw2 ▸ (Kp.refl' xb w1).set 7 _
    have hids : X.l.map Pt.id = l.map Pt.id := by rw [← hXX]; exact run_ids i t ⟨l, f, r⟩
    refine ⟨⟨?_, hw.kp hkp hgx, by omega, hfm.kp hkp (fun e => hxm e.symm), ?_, ?_, by omega, by omega, by omega⟩, hkp⟩
    · have := hx.rounds ((((r : Nat) : Int)) + ((c : Nat) : Int))
      rw [hw2] at this
      rw [hlen, hXr]
      rw [show (((r + c : Nat) : Nat) : Int) = ((r : Nat) : Int) + ((c : Nat) : Int) by omega]
      exact this
    · rw [hids]
      have key : ∀ (m : Nat) (y : Rs), FOk (l.map Pt.id) y.f → y.l.map Pt.id = l.map Pt.id → FOk (l.map Pt.id) (Im.runN i t m y).f := by
        intro m
        induction m with
        | zero => intro y h1 _; exact h1
        | succ m ih =>
          intro y h1 h2
          have h3 : FOk (l.map Pt.id) (addAll y.f (idsP i t y.l)) := h1.addAll (fun z hz => h2 ▸ ids_sub i t y.l z hz)
          unfold Im.runN
          split
          · exact h3
          · exact ih _ h3 ((round_ids i t y.l).trans h2)
      rw [← hXX]
      exact key 300 ⟨l, f, r⟩ HOK.out rfl
    · rw [← hXX]
      exact good_run hbr HG.out
  have HFIN := Lib.hid FIN
  clear FIN
  obtain ⟨k0, k1, k2, k3, k4, k5, k6, k7⟩ := HX.out.cells
  have HXD := Lib.hid (show XBlk w.drew xb i t a n cap mb ((r : Nat) : Int) from HX.out)
  have HRD := Lib.hid HR.out.drew
  have HFD := Lib.hid (show IsFm w.drew mb f from ⟨HF.out.own, HF.out.rise, HF.out.few, HF.out.u64⟩)
  have hxl := HX.out.lt
  go_enter Tryz.func31, Tryz.ntmps31
  go_upto_region 0 with (fail)
  go_region_with (first
    | (go_at_call 68; (with_reducible refine (CR.out _ ?_ ?_ ?_).mono ?_); (first | exact HX.out | exact HXD.out); (first | exact HR.out | exact HRD.out); (first | exact HF.out | exact HFD.out); rintro e w1 ⟨g, cap', c, X, hX, hXr, hc, rfl, hcap, hgw, hx1, hw1, hf1, hk1⟩; have X1 := Lib.hid hx1; have c7 := hx1.cells.2.2.2.2.2.2.2; have f7 := hx1.free 7; have CA := Lib.hid (add64_w xb 7 ((r : Nat) : Int) ((c : Nat) : Int) w1 (by omega) (by omega) (by omega) (by omega) c7 f7); have W1 := Lib.hid hw1; have F1 := Lib.hid hf1; have K1 := Lib.hid hk1; have HXX := Lib.hid hX; have HXR := Lib.hid hXr; clear hx1 hw1 hf1 hk1 hX hXr)
    | (go_at_call 67; (with_reducible refine CA.out.mono ?_); rintro e w2 ⟨rfl, hw2⟩; have HW2 := Lib.hid hw2; clear hw2))
  all_goals go_wp2_with fail
  all_goals go_end0
  all_goals (obtain ⟨h1, h2⟩ := HFIN.out X w1 g cap' c HXX.out HXR.out hc hcap X1.out W1.out F1.out (by have := HX.out.lt; have hz : w.heap.size ≤ g := hgw; omega) _ HW2.out; exact ⟨rfl, g, cap', hgw, h1, ⟨(K1.out.trans (K2.ofx h2)).os, (K1.out.trans (K2.ofx h2)).tape, (K1.out.trans (K2.ofx h2)).output, (K1.out.trans (K2.ofx h2)).size, (K1.out.trans (K2.ofx h2)).block⟩⟩)
end Go.Proofs.YtldobcfejldbiaaGreatDoor

namespace Go.Proofs.YtldobcfejldbiaaGreatDoor
set_option linter.unusedVariables false
set_option linter.unusedSimpArgs false
open Go.RowKit Go.Maps Vm Rm Bm Im

set_option maxRecDepth 20000 in
set_option maxHeartbeats 1000000 in
theorem hasAt_w (xb : Nat) (i : Int) (t : Tm) (a : Option Addr) (n cap mb : Nat) (r at' : Int) (w : World) (h : XBlk w xb i t a n cap mb r) :
    Calls Tryz.prog 40 #[.pointer (some ⟨xb, 0, none⟩), .int .i64 at'] w fun e w' => e = .returned (.bool (decide (0 ≤ at' ∧ at' < (n : Int)))) ∧ w' = w := by
  obtain ⟨k0, k1, k2, k3, k4, k5, k6, k7⟩ := h.cells
  clear h
  by_cases h0 : 0 ≤ at'
  · have e1 : decide (0 ≤ at' ∧ at' < (n : Int)) = decide (at' < (n : Int)) := by simp [h0]
    rw [e1]
    go_enter Tryz.func40, Tryz.ntmps40
    go_wp2_with fail
    all_goals go_ret
    all_goals exact ⟨rfl, rfl⟩
  · have e1 : decide (0 ≤ at' ∧ at' < (n : Int)) = false := by simp [h0]
    rw [e1]
    have h1 : decide (at' ≥ 0) = false := decide_eq_false h0
    go_enter Tryz.func40, Tryz.ntmps40
    go_wp2_with fail
    all_goals go_ret
    all_goals exact ⟨rfl, rfl⟩

theorem atSet_len (l : List Pt) (k : Nat) (F : Pt → Pt) : (atSet l k F).length = l.length := by
  unfold atSet
  split
  · rfl
  · rw [List.length_set]
theorem atSet_is {l : List Pt} {k : Nat} {p : Pt} (F : Pt → Pt) (h : l[k]? = some p) : atSet l k F = l.set k (F p) := by unfold atSet; rw [h]
theorem atSet_ids {l : List Pt} {k : Nat} {F : Pt → Pt} (hF : ∀ p, (F p).id = p.id) : (atSet l k F).map Pt.id = l.map Pt.id := by
  unfold atSet
  split
  · rfl
  · rename_i p hp
    apply List.ext_getElem?
    intro j
    simp only [List.getElem?_map]
    by_cases hj : k = j
    · subst hj
      rw [List.getElem?_set_self (List.getElem?_eq_some_iff.1 hp).1, hp]
      exact congrArg some (hF p)
    · rw [List.getElem?_set_ne hj]

set_option maxRecDepth 20000 in
set_option maxHeartbeats 1000000 in
theorem doAt_no_w (xb g cap mb k : Nat) (i : Int) (t : Tm) (x : Rs) (at' : Int) (v : Value) (w : World) (h : IsX w xb g cap mb i t k x) (hno : ¬ (0 ≤ at' ∧ at' < (x.l.length : Int))) :
    Calls Tryz.prog 35 #[.pointer (some ⟨xb, 0, none⟩), .int .i64 at', v] w fun e w' => e = .returned (.int .i64 1) ∧ w' = w := by
  have CH := Lib.hid (hasAt_w xb i t (some ⟨g, 0, none⟩) x.l.length cap mb ((x.r : Nat) : Int) at' w h.blk)
  rw [decide_eq_false hno] at CH
  clear h hno
  go_enter Tryz.func35, Tryz.ntmps35
  go_wp2_with fail
  (with_reducible refine CH.out.mono ?_)
  rintro e w1 ⟨rfl, rfl⟩
  go_wp2_with fail
  go_ret
  exact ⟨rfl, rfl⟩

set_option maxRecDepth 20000 in
set_option maxHeartbeats 4000000 in
theorem doAt_yes_w (xb g cap mb k kk fc : Nat) (cc : Array Value) (F : Pt → Pt) (i : Int) (t : Tm) (x : Rs) (w : World) (h : IsX w xb g cap mb i t k x) (hbr : Vm.u64B i) (hk : k ≤ 1000) (hkk : kk < x.l.length)
    (he : ∀ (a : Array Value) (w : World), Sem.run Tryz.prog (callFunc fc a) w = .ok (.enter fc a) w)
    (hc : ∀ (p : Pt), x.l[kk]? = some p → ∀ w' : World, Below w.heap.size w w' → Calls Tryz.prog fc (#[.agg (cellsT p)] ++ cc) w' fun e w'' => e = .returned (.agg (cellsT (F p))) ∧ Below w'.heap.size w' w'')
    (hgood : Im.Good (atSet x.l kk F)) (hid : ∀ p, (F p).id = p.id) :
    Calls Tryz.prog 35 #[.pointer (some ⟨xb, 0, none⟩), .int .i64 ((kk : Nat) : Int), .func (.func fc) #[] cc] w fun e w' => e = .returned (.int .i64 0) ∧ ∃ (g' cap' : Nat), w.heap.size ≤ g' ∧ IsX w' xb g' cap' mb i t (k + 1) (runP i t { x with l := atSet x.l kk F }) ∧ K3 xb mb g w w' := by
  obtain ⟨hne1, hne2, hne3⟩ := h.ne
  have CH := Lib.hid (hasAt_w xb i t (some ⟨g, 0, none⟩) x.l.length cap mb ((x.r : Nat) : Int) ((kk : Nat) : Int) w h.blk)
  rw [decide_eq_true (show 0 ≤ ((kk : Nat) : Int) ∧ ((kk : Nat) : Int) < (x.l.length : Int) from ⟨by omega, by omega⟩)] at CH
  obtain ⟨p, hp⟩ := at_some (l := x.l) (k := kk) hkk
  obtain ⟨Y, hY⟩ : ∃ Y, F p = Y := ⟨_, rfl⟩
  have hset := atSet_is F hp
  rw [hY] at hset
  have CR := Lib.hid (fun w' (hx' : XBlk w' xb i t (some ⟨g, 0, none⟩) x.l.length cap mb ((x.r : Nat) : Int)) (hr' : PRow w' (some ⟨g, 0, none⟩) (x.l.set kk Y)) (hf' : IsFm w' mb x.f) => run15_w xb i t (some ⟨g, 0, none⟩) x.l.length cap mb k { x with l := atSet x.l kk F } w' hx' (by rw [hset]; exact hr') (by rw [atSet_len]) h.len1 h.len2 hf' (by show FOk ((atSet x.l kk F).map Pt.id) x.f; rw [atSet_ids hid]; exact h.fok) hbr hgood h.rr hk)
  have CF := Lib.hid (hY ▸ hc p hp)
  have HP := Lib.hid hp
  have HX := Lib.hid h
  obtain ⟨n, hn⟩ : ∃ n, x.l.length = n := ⟨_, rfl⟩
  have HN := Lib.hid hn
  rw [hn] at hkk CR
  have hki : ((kk : Nat) : Int) < (n : Int) := by omega
  have hk0 : (0 : Int) ≤ ((kk : Nat) : Int) := by omega
  have HS0 := Lib.hid (show XBlk w xb i t (some ⟨g, 0, none⟩) n cap mb ((x.r : Nat) : Int) ∧ w.rangeAt g (kk * 61) (cellsT p).toList from ⟨hn ▸ h.blk, h.row.at_ kk p hp⟩)
  obtain ⟨k0, k1, k2, k3, k4, k5, k6, k7⟩ := HS0.out.1.cells
  clear h hp hY hset hc hn
  go_enter Tryz.func35, Tryz.ntmps35
  go_wp2_with (first
    | (go_at_call 40; (with_reducible refine CH.out.mono ?_); rintro e w1 ⟨rfl, hw1⟩; obtain rfl : w = w1 := hw1.symm)
    | fail)
  go_upto_region 3 with (fail)
  go_cut [11] (fun _ wx => ∃ w2 : World, Below w.heap.size w w2 ∧ wx = w2.setCells g (kk * 61) (cellsT Y).toList)
  case first =>
    refine wp_region_held_drew (S := fun V => XBlk V xb i t (some ⟨g, 0, none⟩) n cap mb ((x.r : Nat) : Int)) (by kernel_rfl) HS0.out.1 (fun hHeld => ?_)
    try simp only [Act.put]
    refine wpAnyH_take (i := 0) (v := .pointer (some ⟨xb, 0, none⟩)) rfl (by kernel_rfl) (by kernel_rfl) (by kernel_rfl) (fun _ _ _ h => h) (yieldsIf_move (by rfl) _ rfl _ rfl) hHeld ?_
    try simp only [Act.put, List.getElem_toArray, List.getElem_cons_succ, List.getElem_cons_zero, List.setIfInBounds_toArray, List.set_cons_zero, List.set_cons_succ]
    refine wpAnyH_take (i := 1) (v := .pointer (some ⟨xb, 0, none⟩)) rfl (by kernel_rfl) (by kernel_rfl) (by kernel_rfl) (fun _ _ _ h => h) (Or.inl ⟨by rfl, fun V h => by go_simp⟩) hHeld ?_
    try simp only [Act.put, List.getElem_toArray, List.getElem_cons_succ, List.getElem_cons_zero, List.setIfInBounds_toArray, List.set_cons_zero, List.set_cons_succ]
    refine wpAnyH_take (i := 2) (v := .pointer (some ⟨xb, 5, none⟩)) rfl (by kernel_rfl) (by kernel_rfl) (by kernel_rfl) (fun _ _ _ h => h) (Or.inl ⟨by rfl, fun V h => by go_simp⟩) hHeld ?_
    try simp only [Act.put, List.getElem_toArray, List.getElem_cons_succ, List.getElem_cons_zero, List.setIfInBounds_toArray, List.set_cons_zero, List.set_cons_succ]
    refine wpAnyH_take (i := 3) (v := .slice (some ⟨g, 0, none⟩) n cap) rfl (by kernel_rfl) (by kernel_rfl) (by kernel_rfl) (fun _ _ _ h => h) (Or.inl ⟨by rfl, fun V h => by have h1 := h.cells.2.2.2.2.2.1; go_simp⟩) hHeld ?_
    try simp only [Act.put, List.getElem_toArray, List.getElem_cons_succ, List.getElem_cons_zero, List.setIfInBounds_toArray, List.set_cons_zero, List.set_cons_succ]
    refine wpAnyH_take (i := 4) (v := .int .i64 ((kk : Nat) : Int)) rfl (by kernel_rfl) (by kernel_rfl) (by kernel_rfl) (fun _ _ _ h => h) (yieldsIf_move (by rfl) _ rfl _ rfl) hHeld ?_
    try simp only [Act.put, List.getElem_toArray, List.getElem_cons_succ, List.getElem_cons_zero, List.setIfInBounds_toArray, List.set_cons_zero, List.set_cons_succ]
    refine wpAnyH_take (i := 5) (v := .func (.func fc) #[] cc) rfl (by kernel_rfl) (by kernel_rfl) (by kernel_rfl) (fun _ _ _ h => h) (yieldsIf_move (by rfl) _ rfl _ rfl) hHeld ?_
    try simp only [Act.put, List.getElem_toArray, List.getElem_cons_succ, List.getElem_cons_zero, List.setIfInBounds_toArray, List.set_cons_zero, List.set_cons_succ]
    refine wpAnyH_take (i := 6) (v := .pointer (some ⟨xb, 0, none⟩)) rfl (by kernel_rfl) (by kernel_rfl) (by kernel_rfl) (fun _ _ _ h => h) (yieldsIf_move (by rfl) _ rfl _ rfl) hHeld ?_
    try simp only [Act.put, List.getElem_toArray, List.getElem_cons_succ, List.getElem_cons_zero, List.setIfInBounds_toArray, List.set_cons_zero, List.set_cons_succ]
    refine wpAnyH_take (i := 7) (v := .pointer (some ⟨xb, 0, none⟩)) rfl (by kernel_rfl) (by kernel_rfl) (by kernel_rfl) (fun _ _ _ h => h) (Or.inl ⟨by rfl, fun V h => by go_simp⟩) hHeld ?_
    try simp only [Act.put, List.getElem_toArray, List.getElem_cons_succ, List.getElem_cons_zero, List.setIfInBounds_toArray, List.set_cons_zero, List.set_cons_succ]
    refine wpAnyH_take (i := 8) (v := .pointer (some ⟨xb, 5, none⟩)) rfl (by kernel_rfl) (by kernel_rfl) (by kernel_rfl) (fun _ _ _ h => h) (Or.inl ⟨by rfl, fun V h => by go_simp⟩) hHeld ?_
    try simp only [Act.put, List.getElem_toArray, List.getElem_cons_succ, List.getElem_cons_zero, List.setIfInBounds_toArray, List.set_cons_zero, List.set_cons_succ]
    refine wpAnyH_take (i := 9) (v := .slice (some ⟨g, 0, none⟩) n cap) rfl (by kernel_rfl) (by kernel_rfl) (by kernel_rfl) (fun _ _ _ h => h) (Or.inl ⟨by rfl, fun V h => by have h1 := h.cells.2.2.2.2.2.1; go_simp⟩) hHeld ?_
    try simp only [Act.put, List.getElem_toArray, List.getElem_cons_succ, List.getElem_cons_zero, List.setIfInBounds_toArray, List.set_cons_zero, List.set_cons_succ]
    refine wpAnyH_take (i := 10) (v := .int .i64 ((kk : Nat) : Int)) rfl (by kernel_rfl) (by kernel_rfl) (by kernel_rfl) (fun _ _ _ h => h) (yieldsIf_move (by rfl) _ rfl _ rfl) hHeld ?_
    try simp only [Act.put, List.getElem_toArray, List.getElem_cons_succ, List.getElem_cons_zero, List.setIfInBounds_toArray, List.set_cons_zero, List.set_cons_succ]
    refine wpAnyH_take (i := 11) (v := .pointer (some ⟨g, kk * 61, none⟩)) rfl (by kernel_rfl) (by kernel_rfl) (by kernel_rfl) (fun _ _ _ h => h) (Or.inl ⟨by rfl, fun V h => by go_simp⟩) hHeld ?_
    try simp only [Act.put, List.getElem_toArray, List.getElem_cons_succ, List.getElem_cons_zero, List.setIfInBounds_toArray, List.set_cons_zero, List.set_cons_succ]
    refine wpAnyH_ready (rs := [12]) (by kernel_rfl) (by simp) ?_
    refine AllReadyH.cons rfl (fun K hK => ?_) AllReadyH.nil
    rw [if_pos (by kernel_rfl)]
    refine wp_load_mid 78 _ rfl g (kk * 61) rfl (cellsT p).toList _ (range_drawn HS0.out.2) rfl rfl (by rw [cellsT_len]; exact infoSP) ?_
    rw [Array.toArray_toList]
    refine hK.out _ _ HS0.out.1 (fun hHeld => ?_)
    clear hK
    try simp only [Act.put, List.getElem_toArray, List.getElem_cons_succ, List.getElem_cons_zero, List.setIfInBounds_toArray, List.set_cons_zero, List.set_cons_succ]
    refine wpAnyH_ready (rs := [13]) (by kernel_rfl) (by simp) ?_
    refine AllReadyH.cons rfl (fun K hK => ?_) AllReadyH.nil
    go_simp
    (with_reducible refine (CF.out _ ?_).mono ?_)
    · exact (Below.refl _ _).drew
    rintro e w2 ⟨rfl, hb2⟩
    have HB2 := Lib.hid (below_drew0 hb2)
    have HS2 := Lib.hid (show XBlk w2 xb i t (some ⟨g, 0, none⟩) n cap mb ((x.r : Nat) : Int) from HS0.out.1.next HB2.out)
    clear hb2 hHeld
    go_simp
    refine hK.out _ _ HS2.out (fun hHeld => ?_)
    clear hK
    try simp only [Act.put, List.getElem_toArray, List.getElem_cons_succ, List.getElem_cons_zero, List.setIfInBounds_toArray, List.set_cons_zero, List.set_cons_succ]
    refine wpAnyH_take (i := 14) (v := .pointer (some ⟨g, kk * 61, none⟩)) rfl (by kernel_rfl) (by kernel_rfl) (by kernel_rfl) (fun _ _ _ h => h) (Or.inl ⟨by rfl, fun V h => by go_simp⟩) hHeld ?_
    try simp only [Act.put, List.getElem_toArray, List.getElem_cons_succ, List.getElem_cons_zero, List.setIfInBounds_toArray, List.set_cons_zero, List.set_cons_succ]
    refine wpAnyH_ready (rs := [15]) (by kernel_rfl) (by simp) ?_
    refine AllReadyH.cons rfl (fun K hK => ?_) AllReadyH.nil
    rw [if_pos (by kernel_rfl)]
    have hth := (HX.out.row.next HB2.out).at61 (k := kk) (by rw [HN.out]; exact hkk)
    refine wp_store_mid 78 _ _ rfl g (kk * 61) (cellsT Y) rfl rfl hth infoSP (cellsT_one Y) ?_
    have HSE := Lib.hid (show XBlk (w2.setCells g (kk * 61) (cellsT Y).toList) xb i t (some ⟨g, 0, none⟩) n cap mb ((x.r : Nat) : Int) from HS2.out.kp (kp_setCells (cellsT Y).toList (kk * 61) _ (Kp.refl' g w2)) (fun e => hne2 e.symm))
    refine hK.out _ _ HSE.out (fun hHeld => ?_)
    clear hK
    try simp only [Act.put, List.getElem_toArray, List.getElem_cons_succ, List.getElem_cons_zero, List.setIfInBounds_toArray, List.set_cons_zero, List.set_cons_succ]
    refine wpAnyH_done (by kernel_rfl) ?_ _
    clear hHeld
    go_wp2_with fail
    go_meet
    exact ⟨w2, HB2.out, rfl⟩
  case rest =>
    obtain ⟨w2, hb2, hw2⟩ := hcut
    have hkp : Kp g w2 wc := by rw [hw2]; exact kp_setCells (cellsT Y).toList (kk * 61) _ (Kp.refl' g w2)
    have hrow : WRow wc g (x.l.set kk Y) := by rw [hw2]; exact (HX.out.row.next hb2).set (by rw [HN.out]; exact hkk) Y
    have XC := Lib.hid ((HS0.out.1.next hb2).kp hkp (fun e => hne2 e.symm))
    have FC := Lib.hid ((HX.out.fm.next hb2).kp hkp (fun e => hne3 e.symm))
    have RC := Lib.hid hrow.row
    have CRR := Lib.hid (CR.out wc XC.out RC.out FC.out)
    have KC := Lib.hid (show K3 xb mb g w wc from (K3.of hb2).trans (K3.ofg hkp))
    clear hb2 hw2 hkp hrow CR k0 k1 k2 k3 k4 k5 k6 k7
    go_wp2_with fail
    (with_reducible refine CRR.out.mono ?_)
    rintro e w3 ⟨rfl, g', cap', hg', hx', hk'⟩
    have HX' := Lib.hid hx'
    have HK' := Lib.hid hk'
    clear hx' hk'
    go_wp2_with fail
    go_ret
    exact ⟨rfl, g', cap', Nat.le_trans KC.out.size hg', HX'.out, KC.out.trans (K3.of2 HK'.out)⟩
end Go.Proofs.YtldobcfejldbiaaGreatDoor

namespace Go.Proofs.YtldobcfejldbiaaGreatDoor
set_option linter.unusedVariables false
set_option linter.unusedSimpArgs false
open Go.RowKit Go.Maps Vm Rm Bm Im

theorem power_id (on : Bool) (p : Pt) : (powerP p on).id = p.id := by
  unfold powerP
  repeat' split
  all_goals rfl
theorem hear1_id (b : Bp) (p : Pt) : (hearX1 b p).id = p.id := by
  unfold hearX1 noticeP hearP
  repeat' split
  all_goals first | rfl | (unfold inferiorP; split <;> rfl)

/-- What an act at a place leaves. -/
def Act15 (w w' : World) (xb g mb : Nat) (i : Int) (t : Tm) (k : Nat) (X : Rs) : Prop := ∃ (g' cap' : Nat), (g' = g ∨ w.heap.size ≤ g') ∧ IsX w' xb g' cap' mb i t (k + 1) X ∧ K3 xb mb g w w'
theorem IsX.more {w : World} {xb g cap mb k : Nat} {i : Int} {t : Tm} {x : Rs} (h : IsX w xb g cap mb i t k x) : IsX w xb g cap mb i t (k + 1) x :=
  ⟨h.blk, h.row, h.cap, h.fm, h.fok, h.good, h.len1, h.len2, by have := h.rr; omega⟩

set_option maxRecDepth 20000 in
set_option maxHeartbeats 2000000 in
theorem power15_w (xb g cap mb k : Nat) (i : Int) (t : Tm) (x : Rs) (at' : Int) (on : Bool) (w : World) (h : IsX w xb g cap mb i t k x) (hbr : Vm.u64B i) (hk : k ≤ 1000) :
    Calls Tryz.prog 11 #[.pointer (some ⟨xb, 0, none⟩), .int .i64 at', .bool on] w fun e w' =>
      e = .returned (.int .i64 (if 0 ≤ at' ∧ at' < (x.l.length : Int) then 0 else 1)) ∧ Act15 w w' xb g mb i t k (if 0 ≤ at' ∧ at' < (x.l.length : Int) then powerX i t x at'.toNat on else x) := by
  have B0 := Lib.hid (below_box w (.cells #[.bool on] 4))
  have X0 := Lib.hid (h.next B0.out)
  have hsz := size_box w (.cells #[.bool on] 4)
  have hc : (w.alloc (.cells #[.bool on] 4)).cell? ⟨w.heap.size, 0, none⟩ = some (.bool on) := (cell_of_row _ _ 0 _ _ _ (heap_alloc_new w (.cells #[.bool on] 4))).trans rfl
  by_cases hin : 0 ≤ at' ∧ at' < (x.l.length : Int)
  · rw [if_pos hin, if_pos hin]
    obtain ⟨kk, rfl⟩ : ∃ kk : Nat, at' = (kk : Int) := ⟨at'.toNat, by omega⟩
    rw [show ((kk : Nat) : Int).toNat = kk by omega]
    have CD := Lib.hid (doAt_yes_w xb g cap mb k kk 36 #[.pointer (some ⟨w.heap.size, 0, none⟩)] (fun p => powerP p on) i t x _ X0.out hbr hk (by omega) (fun _ _ => by kernel_rfl)
      (fun p _ w' hb => power1_w p on w.heap.size w' ((hb.cell (p := ⟨w.heap.size, 0, none⟩) (by rw [hsz]; exact Nat.lt_succ_self _)).trans hc) (by have := hb.size; omega))
      (good_power h.good kk on) (power_id on))
    clear hc hin h
    go_enter Tryz.func11, Tryz.ntmps11
    go_wp2_with fail
    (with_reducible refine CD.out.mono ?_)
    rintro e w1 ⟨rfl, g', cap', hg', hx', hk'⟩
    have HX' := Lib.hid hx'
    have HK' := Lib.hid hk'
    clear hx' hk'
    go_wp2_with fail
    go_ret
    exact ⟨rfl, g', cap', .inr (by omega), HX'.out, (K3.of B0.out).trans HK'.out⟩
  · rw [if_neg hin, if_neg hin]
    have CD := Lib.hid (doAt_no_w xb g cap mb k i t x at' (.func (.func 36) #[] #[.pointer (some ⟨w.heap.size, 0, none⟩)]) _ X0.out hin)
    clear hc hin h
    go_enter Tryz.func11, Tryz.ntmps11
    go_wp2_with fail
    (with_reducible refine CD.out.mono ?_)
    rintro e w1 ⟨rfl, rfl⟩
    go_wp2_with fail
    go_ret
    exact ⟨rfl, g, cap, .inl rfl, X0.out.more, K3.of B0.out⟩

set_option maxRecDepth 20000 in
set_option maxHeartbeats 2000000 in
theorem check15_w (xb g cap mb k : Nat) (i : Int) (t : Tm) (x : Rs) (at' : Int) (w : World) (h : IsX w xb g cap mb i t k x) (hbr : Vm.u64B i) (hk : k ≤ 1000) :
    Calls Tryz.prog 17 #[.pointer (some ⟨xb, 0, none⟩), .int .i64 at'] w fun e w' =>
      e = .returned (.int .i64 (if 0 ≤ at' ∧ at' < (x.l.length : Int) then 0 else 1)) ∧ Act15 w w' xb g mb i t k (if 0 ≤ at' ∧ at' < (x.l.length : Int) then checkX i t x at'.toNat else x) := by
  by_cases hin : 0 ≤ at' ∧ at' < (x.l.length : Int)
  · rw [if_pos hin, if_pos hin]
    obtain ⟨kk, rfl⟩ : ∃ kk : Nat, at' = (kk : Int) := ⟨at'.toNat, by omega⟩
    rw [show ((kk : Nat) : Int).toNat = kk by omega]
    have CD := Lib.hid (doAt_yes_w xb g cap mb k kk 49 #[] checkP i t x w h hbr hk (by omega) (fun _ _ => by kernel_rfl) (fun p _ w' hb => check1_w p w') (good_check h.good kk) (fun _ => rfl))
    clear hin h
    go_enter Tryz.func17, Tryz.ntmps17
    go_wp2_with fail
    (with_reducible refine CD.out.mono ?_)
    rintro e w1 ⟨rfl, g', cap', hg', hx', hk'⟩
    have HX' := Lib.hid hx'
    have HK' := Lib.hid hk'
    clear hx' hk'
    go_wp2_with fail
    go_ret
    exact ⟨rfl, g', cap', .inr hg', HX'.out, HK'.out⟩
  · rw [if_neg hin, if_neg hin]
    have CD := Lib.hid (doAt_no_w xb g cap mb k i t x at' (.func (.func 49) #[] #[]) w h hin)
    have H := Lib.hid h
    clear hin h
    go_enter Tryz.func17, Tryz.ntmps17
    go_wp2_with fail
    (with_reducible refine CD.out.mono ?_)
    rintro e w1 ⟨rfl, rfl⟩
    go_wp2_with fail
    go_ret
    exact ⟨rfl, g, cap, .inl rfl, H.out.more, K3.refl _ _ _ _⟩

set_option maxRecDepth 100000 in
theorem wpList_bqg {ops : Array Oper} {rest : List Oper} {op : Oper} {a : Act} {w : World} {Q : Exit → Act → World → Prop} (hgd : Region.wanted op (yielded ops a.tmps) = true) (x : Operand) (ho : op.op = .load 49 x)
    (b : Nat) (hx : a.eval x = .pointer (some ⟨b, 0, none⟩)) (q : Bp) (hc : BBlk 49 w b q)
    (h : wpList Tryz.prog ops Q rest (a.put op.dst (bq q)) w) : wpList Tryz.prog ops Q (op :: rest) a w :=
  wpList_step fun K hK => by
    rw [if_pos hgd]
    exact wp_load_row 49 x ho b hx 49 (cellsB q) (0, 0) _ hc rfl rfl infoSB (hK _ _ h)
/-- What Hear answers, and leaves. -/
def hearCode (n : Nat) (at' : Int) (b : Bp) : Int := if 0 ≤ at' ∧ at' < (n : Int) then (if rightB b = true then 0 else 2) else 1
def hearY (i : Int) (t : Tm) (x : Rs) (at' : Int) (b : Bp) : Rs := if 0 ≤ at' ∧ at' < (x.l.length : Int) then (if rightB b = true then hearX i t x at'.toNat b else x) else x

set_option maxRecDepth 20000 in
set_option maxHeartbeats 4000000 in
theorem hear15_w (xb g cap mb k : Nat) (i : Int) (t : Tm) (x : Rs) (at' : Int) (q : Bp) (w : World) (h : IsX w xb g cap mb i t k x) (hbr : Vm.u64B i) (hk : k ≤ 1000) (hq : BpOk q) (hv : (vecOf q).ok) :
    Calls Tryz.prog 13 #[.pointer (some ⟨xb, 0, none⟩), .int .i64 at', bq q] w fun e w' =>
      e = .returned (.int .i64 (hearCode x.l.length at' q)) ∧ Act15 w w' xb g mb i t k (hearY i t x at' q) := by
  unfold hearCode hearY
  have B0 := Lib.hid (below_box w (.cells (cellsB q) 49))
  have X0 := Lib.hid (h.next B0.out)
  have hsz := size_box w (.cells (cellsB q) 49)
  have Q0 := Lib.hid (show BBlk 49 (w.alloc (.cells (cellsB q) 49)) w.heap.size q from heap_alloc_new w _)
  have CH := Lib.hid (hasAt_w xb i t (some ⟨g, 0, none⟩) x.l.length cap mb ((x.r : Nat) : Int) at' _ X0.out.blk)
  by_cases hin : 0 ≤ at' ∧ at' < (x.l.length : Int)
  · rw [if_pos hin, if_pos hin]
    rw [decide_eq_true hin] at CH
    cases hr : rightB q with
    | true =>
      rw [if_pos rfl, if_pos rfl]
      have CRt := Lib.hid (fun w' => show Calls Tryz.prog 26 #[bq q] w' (fun e w'' => e = .returned (.bool true) ∧ Below w'.heap.size w' w'') from hr ▸ right_any q.kind q.flags q.root q.cost q.bridge q.port q.age q.max q.hello q.delay w')
      obtain ⟨kk, rfl⟩ : ∃ kk : Nat, at' = (kk : Int) := ⟨at'.toNat, by omega⟩
      rw [show ((kk : Nat) : Int).toNat = kk by omega]
      have CD := Lib.hid (fun (w1 : World) (hb1 : Below (w.alloc (.cells (cellsB q) 49)).heap.size (w.alloc (.cells (cellsB q) 49)) w1) => doAt_yes_w xb g cap mb k kk 41 #[.pointer (some ⟨w.heap.size, 0, none⟩)] (hearX1 q) i t x w1 (X0.out.next hb1) hbr hk (by omega) (fun _ _ => by kernel_rfl)
        (fun p hp w' hb => hear1_w p q w.heap.size w' (h.good.ptok hp).2.2.2.2.1 hq (((Q0.out.next hb1).next hb)))
        (good_hear h.good kk hr hv) (hear1_id q))
      clear hin h hr
      unfold cellsB at *
      go_enter Tryz.func13, Tryz.ntmps13
      go_wp2_with (first
        | (go_at_call 40; (with_reducible refine CH.out.mono ?_); rintro e w1 ⟨rfl, rfl⟩)
        | (with_reducible refine wpList_bqg (by kernel_rfl) _ rfl w.heap.size rfl q Q0.out ?_)
        | (go_at_call 26; (with_reducible refine (CRt.out _).mono ?_); rintro e w2 ⟨rfl, hb2⟩; have HB2 := Lib.hid hb2; clear hb2))
      (with_reducible refine (CD.out _ HB2.out).mono ?_)
      rintro e w3 ⟨rfl, g', cap', hg', hx', hk'⟩
      have HX' := Lib.hid hx'
      have HK' := Lib.hid hk'
      clear hx' hk'
      go_wp2_with fail
      go_ret
      exact ⟨rfl, g', cap', .inr (by have := HB2.out.size; omega), HX'.out, (K3.of (bw_trans B0.out HB2.out)).trans HK'.out⟩
    | false =>
      rw [if_neg (by simp), if_neg (by simp)]
      have CRt := Lib.hid (fun w' => show Calls Tryz.prog 26 #[bq q] w' (fun e w'' => e = .returned (.bool false) ∧ Below w'.heap.size w' w'') from hr ▸ right_any q.kind q.flags q.root q.cost q.bridge q.port q.age q.max q.hello q.delay w')
      clear hin h hr
      unfold cellsB at *
      go_enter Tryz.func13, Tryz.ntmps13
      go_wp2_with (first
        | (go_at_call 40; (with_reducible refine CH.out.mono ?_); rintro e w1 ⟨rfl, rfl⟩)
        | (with_reducible refine wpList_bqg (by kernel_rfl) _ rfl w.heap.size rfl q Q0.out ?_)
        | (go_at_call 26; (with_reducible refine (CRt.out _).mono ?_); rintro e w2 ⟨rfl, hb2⟩; have HB2 := Lib.hid hb2; clear hb2))
      go_ret
      exact ⟨rfl, g, cap, .inl rfl, (X0.out.next HB2.out).more, K3.of (bw_trans B0.out HB2.out)⟩
  · rw [if_neg hin, if_neg hin]
    rw [decide_eq_false hin] at CH
    have CD := Lib.hid (doAt_no_w xb g cap mb k i t x at' (.func (.func 41) #[] #[.pointer (some ⟨w.heap.size, 0, none⟩)]) _ X0.out hin)
    clear hin h
    unfold cellsB at *
    go_enter Tryz.func13, Tryz.ntmps13
    go_wp2_with (first
      | (go_at_call 40; (with_reducible refine CH.out.mono ?_); rintro e w1 ⟨rfl, rfl⟩))
    (with_reducible refine CD.out.mono ?_)
    rintro e w1 ⟨rfl, rfl⟩
    go_wp2_with fail
    go_ret
    exact ⟨rfl, g, cap, .inl rfl, X0.out.more, K3.of B0.out⟩
end Go.Proofs.YtldobcfejldbiaaGreatDoor
