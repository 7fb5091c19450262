/-
  Layer 15: forget.
  Layer 15: a round (printed by gen_rpg.py).
  Layer 15: repeat and run: rounds till one changes nothing.
-/
import Derived.Test.YtldobcfejldbiaaGreatDoorMaw
import Derived.Deep.DeepCutAuto
namespace Go.Proofs.YtldobcfejldbiaaGreatDoor
set_option linter.unusedVariables false
set_option linter.unusedSimpArgs false
open Go.RowKit Go.Maps Vm Rm Bm Im

/-- All but two blocks lie as they did. -/
structure K2 (x m : Nat) (w w' : World) : Prop where
  os : w'.os = w.os
  tape : w'.tape = w.tape
  output : w'.output = w.output
  size : w.heap.size ≤ w'.heap.size
  block : ∀ i, i < w.heap.size → i ≠ x → i ≠ m → w'.heap[i]? = w.heap[i]?
theorem K2.refl (x m : Nat) (w : World) : K2 x m w w := ⟨rfl, rfl, rfl, Nat.le_refl _, fun _ _ _ _ => rfl⟩
theorem K2.trans {x m : Nat} {w w1 w2 : World} (h : K2 x m w w1) (k : K2 x m w1 w2) : K2 x m w w2 :=
  ⟨k.os.trans h.os, k.tape.trans h.tape, k.output.trans h.output, Nat.le_trans h.size k.size, fun i hi h1 h2 => (k.block i (Nat.lt_of_lt_of_le hi h.size) h1 h2).trans (h.block i hi h1 h2)⟩
theorem K2.of {x m : Nat} {w w1 : World} (h : Below w.heap.size w w1) : K2 x m w w1 := ⟨h.os, h.tape, h.output, h.size, fun i hi _ _ => h.block i hi⟩
theorem K2.ofx {x m : Nat} {w w1 : World} (h : Kp x w w1) : K2 x m w w1 := ⟨h.os, h.tape, h.output, h.size, fun i hi h1 _ => h.block i hi h1⟩
theorem K2.ofm {x m : Nat} {w w1 : World} (h : Kp m w w1) : K2 x m w w1 := ⟨h.os, h.tape, h.output, h.size, fun i hi _ h2 => h.block i hi h2⟩
theorem K2.drew {x m : Nat} {w w1 : World} (h : K2 x m w w1) : K2 x m w w1.drew := ⟨h.os, h.tape, h.output, h.size, h.block⟩
theorem K2.below {x m B : Nat} {a w w' : World} (h : K2 x m w w') (hb : Below B a w) (h1 : B ≤ x) (h2 : B ≤ m) (h3 : B ≤ w.heap.size) : Below B a w' :=
  ⟨h.os.trans hb.os, h.tape.trans hb.tape, h.output.trans hb.output, Nat.le_trans hb.size h.size, fun i hi => (h.block i (by omega) (by omega) (by omega)).trans (hb.block i hi)⟩
theorem WRow.same {w w' : World} {g : Nat} {l : List Pt} (h : WRow w g l) (e : w'.heap[g]? = w.heap[g]?) (hs : g < w'.heap.size) : WRow w' g l := by
  refine ⟨hs, fun j p hp c v hv => ?_, fun j hj => ?_⟩
  · rw [← h.at_ j p hp c v hv]; simp only [World.cell?, e]
  · obtain ⟨h1, h2⟩ := h.free j hj
    exact ⟨by rw [← h1]; simp only [World.cell?, e], by rw [← h2]; simp only [World.frozen?, e]⟩
theorem WRow.kp {w w' : World} {g b : Nat} {l : List Pt} (h : WRow w g l) (k : Kp b w w') (hne : g ≠ b) : WRow w' g l := h.same (k.block g h.lt hne) (Nat.lt_of_lt_of_le h.lt k.size)
theorem URow.kp {w w' : World} {a : Option Addr} {l : List Int} {b : Nat} (h : URow w a l) (k : Kp b w w') (hne : ∀ g o, a = some ⟨g, o, none⟩ → g ≠ b) : URow w' a l :=
  ⟨fun j n hn => by
    obtain ⟨g, o, e, hg, hc⟩ := h.at_ j n hn
    exact ⟨g, o, e, Nat.lt_of_lt_of_le hg k.size, by rw [← hc]; simp only [World.cell?, k.block g hg (hne g o e)]⟩⟩
theorem IsFm.kp {w w' : World} {mb b : Nat} {f : List Int} (h : IsFm w mb f) (k : Kp b w w') (hne : mb ≠ b) : IsFm w' mb f := h.same (k.block mb h.lt hne)
theorem flushed_few (l : List Pt) : (flushedP l).2.length ≤ l.length := by
  unfold flushedP
  rw [List.length_map]
  exact List.length_filter_le _ _
theorem flushed_sub (l : List Pt) : ∀ x ∈ (flushedP l).2, x ∈ l.map Pt.id := by
  intro x hx
  unfold flushedP at hx
  obtain ⟨p, hp, rfl⟩ := List.mem_map.1 hx
  exact List.mem_map.2 ⟨p, (List.mem_filter.1 hp).1, rfl⟩

set_option maxRecDepth 20000 in
set_option maxHeartbeats 2000000 in
theorem forget15_w (xb : Nat) (i : Int) (t : Tm) (a : Option Addr) (n cap mb : Nat) (r : Int) (l : List Pt) (f m : List Int) (w : World) (h : XBlk w xb i t a n cap mb r) (hr : PRow w a l) (hn : l.length = n) (hn1 : 1 ≤ n) (hn2 : n ≤ 16)
    (hf : IsFm w mb f) (hok : FOk m f) (hm : m.length ≤ 16) (hi : l.map Pt.id = m) (hu : ∀ x ∈ m, Vm.u64B x) :
    Calls Tryz.prog 118 #[.pointer (some ⟨xb, 0, none⟩)] w fun e w' => e = .returned (.tuple #[]) ∧ ∃ (g cap' : Nat), n ≤ cap' ∧ w.heap.size ≤ g ∧ XBlk w' xb i t (some ⟨g, 0, none⟩) n cap' mb r ∧ WRow w' g (l.map offP) ∧ IsFm w' mb (addAll f (flushedP l).2) ∧ K2 xb mb w w' := by
  have CF := Lib.hid (flushed13_w a cap l w hr (by omega))
  have HX := Lib.hid h
  have HF := Lib.hid hf
  have hxm := hf.ne h
  have hxl := h.lt
  have hml := hf.lt
  have HS := Lib.hid (fun x hx => hi ▸ flushed_sub l x hx)
  have HU := Lib.hid hu
  have HOK := Lib.hid hok
  obtain ⟨k0, k1, k2, k3, k4, k5, k6, k7⟩ := h.cells
  rw [hn] at CF
  have HN := Lib.hid hn
  clear hr h hf hok hi hu hn
  go_enter Tryz.func118, Tryz.ntmps118
  go_wp2_with fail
  (with_reducible refine CF.out.mono ?_)
  rintro e w1 ⟨a', d, cap', dcap, rfl, hd, hcap, hown, ⟨hur, hdn⟩, hb1⟩
  obtain ⟨g, rfl, hgB, hW⟩ : ∃ g, a' = some ⟨g, 0, none⟩ ∧ w.heap.size ≤ g ∧ WRow w1 g (l.map offP) := by
    rcases hown with ⟨_, e⟩ | h
    · have := HN.out; rw [e] at this; simp at this; omega
    · exact h
  obtain ⟨ids, hids⟩ : ∃ ids, (flushedP l).2 = ids := ⟨_, rfl⟩
  rw [hids] at hur hd HS ⊢
  have HIDS := Lib.hid hids
  rw [HN.out]
  obtain ⟨N, hN⟩ : ∃ N, ids.length = N := ⟨_, rfl⟩
  have HNN := Lib.hid hN
  have hN16 : (N : Int) ≤ 16 := by have := flushed_few l; rw [HN.out, HIDS.out, hN] at this; omega
  rw [hN] at hd ⊢
  have X1 := Lib.hid (HX.out.next hb1)
  have F1 := Lib.hid (HF.out.next hb1)
  have f5 := X1.out.free 5
  have HW := Lib.hid hW
  have HUR := Lib.hid hur
  have HDN := Lib.hid hdn
  have HB := Lib.hid hb1
  have HGB := Lib.hid hgB
  have hcap' : n ≤ cap' := by rw [← HN.out]; exact hcap
  have HCP := Lib.hid hcap'
  clear hown hur hdn hb1 hW hgB hids hN hcap hcap' k0 k1 k2 k3 k4 k5 k6 k7
  obtain ⟨k0, k1, k2, k3, k4, k5, k6, k7⟩ := X1.out.cells
  have kx := (Kp.refl' xb w1).set 5 (.slice (some ⟨g, 0, none⟩) n cap')
  have hgx : g ≠ xb := by have := HGB.out; omega
  have hmx : mb ≠ xb := fun e => hxm e.symm
  have X2 := Lib.hid (X1.out.ports (some ⟨g, 0, none⟩) n cap')
  have W2 := Lib.hid (HW.out.kp kx hgx)
  have U2 := Lib.hid (HUR.out.kp kx (fun g' o e => by have := HDN.out g' o e; omega))
  have F2 := Lib.hid (F1.out.kp kx hmx)
  have KK := Lib.hid (K2.ofx (m := mb) ((Kp.of HB.out).trans' kx))
  obtain ⟨V, hV⟩ : ∃ V, w1.setCell ⟨xb, 5, none⟩ (.slice (some ⟨g, 0, none⟩) n cap') = V := ⟨_, rfl⟩
  rw [hV] at X2 W2 U2 F2 KK
  have HV := Lib.hid hV
  clear kx HW HUR F1 hV
  go_upto_region 2 with (fail)
  refine wp_to (W := V) (by exact HV.out.symm) ?_
  clear k0 k1 k2 k3 k4 k5 k6 k7 f5 X1 HV
  go_wp2_with fail
  go_loopw [20] (fun v wr => ∃ k : Nat, k ≤ N ∧ v = .int .i64 ((k : Nat) : Int) ∧ IsFm wr mb (addAll f (ids.take k)) ∧ Kp mb V wr) (fun v _ => N - (RowKit.intOf v).toNat)
  case atStart => exact ⟨0, Nat.zero_le _, rfl, F2.out, Kp.refl' mb V⟩
  case round =>
    obtain ⟨k, hk, rfl, hfm, hkm⟩ := hrel
    have X3 := Lib.hid (X2.out.kp hkm hxm)
    have HFM := Lib.hid hfm
    have HKM := Lib.hid hkm
    obtain ⟨k0, k1, k2, k3, k4, k5, k6, k7⟩ := X3.out.cells
    by_cases hkl : k < N
    · have hki : (k : Int) < N := by omega
      obtain ⟨x, hx⟩ := at_some (l := ids) (k := k) (by rw [HNN.out]; exact hkl)
      obtain ⟨g', o, rfl, hgl, hc⟩ := (U2.out.kp hkm (fun g' o e => by
        rintro rfl
        have h1 := HDN.out g' o e
        omega)).at_ k x hx
      have hxm' : x ∈ m := HS.out x (List.mem_of_getElem? hx)
      have hok := (HOK.out.addAll (ids := ids.take k) (fun y hy => HS.out y (List.mem_of_mem_take hy))).add hxm'
      have hnx := addAll_next (f := f) hx
      obtain ⟨y1, hrun, hm1, ht1⟩ := hfm.add (n := x) (HU.out x hxm') (by have := hok.few; omega)
      rw [← hnx] at hm1
      have HM1 := Lib.hid hm1
      have HT1 := Lib.hid ht1
      clear hx hxm' hok hnx hm1 ht1 hfm hkm
      go_wp2_with fail
      exact ⟨⟨k + 1, by omega, by go_num, HM1.out, HKM.out.trans' (kp_turned HT1.out)⟩, by simp [RowKit.intOf]; omega⟩
    · obtain rfl : k = N := by omega
      have e : ids.take k = ids := by rw [← HNN.out, List.take_length]
      rw [e] at hfm
      have HFM := Lib.hid hfm
      clear hfm hkm e
      go_wp2
      go_end0
      exact ⟨rfl, g, cap', HCP.out, HGB.out, X3.out, W2.out.kp HKM.out (by have := HGB.out; omega), by rw [HIDS.out]; exact HFM.out, KK.out.trans (K2.ofm HKM.out)⟩
end Go.Proofs.YtldobcfejldbiaaGreatDoor

namespace Go.Proofs.YtldobcfejldbiaaGreatDoor
set_option linter.unusedVariables false
set_option linter.unusedSimpArgs false
open Go.RowKit Go.Maps Vm Rm Bm Im

/-- An instance in the midst of a round that began in world w0, with the ports l0. -/
structure Mid (w0 : World) (xb mb : Nat) (i : Int) (t : Tm) (r : Int) (n : Nat) (f : List Int) (a0 : Option Addr) (l0 : List Pt) (w : World) (a : Option Addr) (cap : Nat) (l : List Pt) : Prop where
  blk : XBlk w xb i t a n cap mb r
  row : PRow w a l
  was : PRow w a0 l0
  fm : IsFm w mb f
  k2 : K2 xb mb w0 w
section
variable {w0 w w' : World} {xb mb n cap cap' : Nat} {i r : Int} {t : Tm} {f : List Int} {a0 a a' : Option Addr} {l0 l l' : List Pt}
theorem Mid.next (h : Mid w0 xb mb i t r n f a0 l0 w a cap l) (hb : Below w.heap.size w w') : Mid w0 xb mb i t r n f a0 l0 w' a cap l :=
  ⟨h.blk.next hb, h.row.next hb, h.was.next hb, h.fm.next hb, h.k2.trans (K2.of hb)⟩
theorem Mid.drew (h : Mid w0 xb mb i t r n f a0 l0 w a cap l) : Mid w0 xb mb i t r n f a0 l0 w.drew a cap l := ⟨h.blk, h.row.drew, h.was.drew, ⟨h.fm.own, h.fm.rise, h.fm.few, h.fm.u64⟩, h.k2.drew⟩
theorem Mid.kp (h : Mid w0 xb mb i t r n f a0 l0 w a cap l) (k : Kp xb w w') (hx : XBlk w' xb i t a' n cap' mb r) (hr : PRow w' a' l') : Mid w0 xb mb i t r n f a0 l0 w' a' cap' l' :=
  ⟨hx, hr, h.was.kx h.blk k, h.fm.kp k (fun e => h.fm.ne h.blk e.symm), h.k2.trans (K2.ofx k)⟩
theorem Mid.put (h : Mid w0 xb mb i t r n f a0 l0 w a cap l) (hr : PRow w a' l') : Mid w0 xb mb i t r n f a0 l0 (w.setCell ⟨xb, 5, none⟩ (.slice a' n cap')) a' cap' l' :=
  h.kp ((Kp.refl' xb w).set 5 _) (h.blk.ports a' n cap') (hr.kx h.blk ((Kp.refl' xb w).set 5 _))
end
theorem below_drew0 {w w' : World} (h : Below w.drew.heap.size w.drew w') : Below w.heap.size w w' := ⟨h.os, h.tape, h.output, h.size, h.block⟩

set_option maxRecDepth 20000 in
set_option maxHeartbeats 8000000 in
theorem round15_w (xb : Nat) (i : Int) (t : Tm) (a : Option Addr) (n cap mb : Nat) (r : Int) (l : List Pt) (f : List Int) (w : World) (h : XBlk w xb i t a n cap mb r) (hr : PRow w a l) (hn : l.length = n) (hn1 : 1 ≤ n) (hn2 : n ≤ 16)
    (hf : IsFm w mb f) (hok : FOk (l.map Pt.id) f) (hbr : Vm.u64B i) (hg : Im.Good l) :
    Calls Tryz.prog 69 #[.pointer (some ⟨xb, 0, none⟩)] w fun e w' => e = .returned (.bool (!decide (l = roundP i t l))) ∧ ∃ (g cap' : Nat), n ≤ cap' ∧ w.heap.size ≤ g ∧ XBlk w' xb i t (some ⟨g, 0, none⟩) n cap' mb r ∧ WRow w' g (roundP i t l) ∧ IsFm w' mb (addAll f (idsP i t l)) ∧ K2 xb mb w w' := by
  obtain ⟨L1, hL1⟩ : ∃ L1, l.map ageP = L1 := ⟨_, rfl⟩
  obtain ⟨L2, hL2⟩ : ∃ L2, (chooseP i t L1).1 = L2 := ⟨_, rfl⟩
  obtain ⟨L3, hL3⟩ : ∃ L3, L2.map settleP = L3 := ⟨_, rfl⟩
  obtain ⟨L4, hL4⟩ : ∃ L4, (passP t L3).1 = L4 := ⟨_, rfl⟩
  obtain ⟨L5, hL5⟩ : ∃ L5, (cpassP t L4).1 = L5 := ⟨_, rfl⟩
  obtain ⟨L6, hL6⟩ : ∃ L6, L5.map endP = L6 := ⟨_, rfl⟩
  have hR : roundP i t l = L6.map offP := by unfold roundP chainP; rw [hL1, hL2, hL3, hL4, hL5, hL6]
  have hI : idsP i t l = (flushedP L6).2 := by unfold idsP chainP; rw [hL1, hL2, hL3, hL4, hL5, hL6]
  have n1 : L1.length = n := by rw [← hL1, List.length_map, hn]
  have n2 : L2.length = n := by rw [← hL2, choose_len, n1]
  have n3 : L3.length = n := by rw [← hL3, List.length_map, n2]
  have n4 : L4.length = n := by rw [← hL4, pass_len, n3]
  have n5 : L5.length = n := by rw [← hL5]; exact (cpassN_len t _ _).trans n4
  have n6 : L6.length = n := by rw [← hL6, List.length_map, n5]
  have ids6 : L6.map Pt.id = l.map Pt.id := by
    have h0 := round_rest i t l
    have h1 := congrArg (List.map Pt.id) h0
    rw [List.map_map, List.map_map, show Pt.id ∘ restK = Pt.id from rfl] at h1
    have h2 : (L6.map offP).map Pt.id = L6.map Pt.id := by rw [List.map_map]; rfl
    rw [← h2, ← hR, h1]
    unfold settledP
    rw [hL1, hL2]
    rw [List.map_map, show Pt.id ∘ settleP = Pt.id from funext fun p => by show (settleP p).id = _; unfold settleP; split <;> rfl]
    have h3 : L1.map Pt.id = l.map Pt.id := by
      rw [← hL1, List.map_map, show Pt.id ∘ ageP = Pt.id from funext fun p => by show (ageP p).id = _; unfold ageP; split <;> rfl]
    rw [← h3, ← hL2]
    cases hm : mayB i t L1 with
    | false => rw [choose_not hm]
    | true =>
      rw [choose_may hm]
      apply List.ext_getElem?
      intro j
      simp only [List.getElem?_map, List.getElem?_mapIdx]
      cases L1[j]? <;> rfl
  have hids : ∀ x ∈ l.map Pt.id, Vm.u64B x := by
    intro x hx
    obtain ⟨p, hp, rfl⟩ := List.mem_map.1 hx
    obtain ⟨j, hj⟩ := List.getElem?_of_mem hp
    exact (hg.ptok hj).2.1
  have g1 : Im.Good L1 := hL1 ▸ hg.map (fun _ => age_inv) (fun _ => age_root) (fun _ => age_tk) (fun _ => ag_age)
  have hok1 : ∀ p ∈ L1, PtOk p := by
    intro p hp
    obtain ⟨j, hj⟩ := List.getElem?_of_mem hp
    obtain ⟨h1, h2, h3, h4, h5, h6⟩ := g1.ptok hj
    obtain ⟨t1, t2, t3, t4, t5, t6, t7, t8, t9⟩ := h1
    exact ⟨⟨t1, t2, t3, t4, t5, t6, t7, t8, t9⟩, h2, h3, h4, h5, h6⟩
  have HR := Lib.hid hR
  have HI := Lib.hid hI
  have HN := Lib.hid hn
  have N1 := Lib.hid n1
  have N2 := Lib.hid n2
  have N3 := Lib.hid n3
  have N4 := Lib.hid n4
  have N5 := Lib.hid n5
  have N6 := Lib.hid n6
  have HIDS := Lib.hid hids
  have HOK := Lib.hid hok
  have I6 := Lib.hid ids6
  have M0 := Lib.hid (show Mid w xb mb i t r n f a l w a cap l from ⟨h, hr, hr, hf, K2.refl xb mb w⟩)
  have A0 := Lib.hid (fun w' (M : Mid w xb mb i t r n f a l w' a cap l) => doAll_w 111 ageP (fun _ _ => by kernel_rfl) xb i t a n cap mb r l w' M.blk M.row hn (by omega) (fun j p _ w' _ => age11_w p (ageP p) w' (Lib.hid rfl)))
  have A1 := Lib.hid (fun w' a' cap' (M : Mid w xb mb i t r n f a l w' a' cap' L1) => show Calls Tryz.prog 30 #[brv i t.age t.max t.hello t.delay, .slice a' n cap'] w' (fun e w'' => Out w' w'' n L2 (chooseP i t L1).2 e) from by
    have := choose_w i t.age t.max t.hello t.delay a' cap' L1 L2 (chooseP i t L1).2 w' hbr M.row hok1 (by omega) (by rw [← hL2])
    rwa [n1] at this)
  have A2 := Lib.hid (fun w' a' cap' (M : Mid w xb mb i t r n f a l w' a' cap' L2) => doAll_w 112 settleP (fun _ _ => by kernel_rfl) xb i t a' n cap' mb r L2 w' M.blk M.row n2 (by omega) (fun j p _ w' _ => settle11_w p (settleP p) w' (Lib.hid rfl)))
  have A3 := Lib.hid (fun w' a' cap' (M : Mid w xb mb i t r n f a l w' a' cap' L3) => show Calls Tryz.prog 113 #[brv i t.age t.max t.hello t.delay, .slice a' n cap'] w' (fun e w'' => Out w' w'' n L4 (passP t L3).2 e) from by
    have := pass_w i t a' cap' L3 L4 (passP t L3).2 w' M.row (by omega) (by rw [← hL4])
    rwa [n3] at this)
  have A4 := Lib.hid (fun w' a' cap' (M : Mid w xb mb i t r n f a l w' a' cap' L4) => show Calls Tryz.prog 114 #[brv i t.age t.max t.hello t.delay, .slice a' n cap'] w' (fun e w'' => Out w' w'' n L5 (cpassP t L4).2 e) from by
    have := pass13_w i t a' cap' L4 L5 (cpassP t L4).2 w' M.row (by omega) (by rw [← hL5])
    rwa [n4] at this)
  have A5 := Lib.hid (fun w' a' cap' (M : Mid w xb mb i t r n f a l w' a' cap' L5) => doAll_w 115 endP (fun _ _ => by kernel_rfl) xb i t a' n cap' mb r L5 w' M.blk M.row n5 (by omega) (fun j p _ w' _ => round1_w p w'))
  have A6 := Lib.hid (fun w' a' cap' (M : Mid w xb mb i t r n f a l w' a' cap' L6) => forget15_w xb i t a' n cap' mb r L6 f (l.map Pt.id) w' M.blk M.row n6 hn1 hn2 M.fm hok (by rw [List.length_map, hn]; exact hn2) ids6 hids)
  rw [hL1] at A0
  rw [hL3] at A2
  rw [hL6] at A5
  unfold brv at *
  clear h hr hn hf hok hg hR hI n1 n2 n3 n4 n5 n6 ids6 hids g1 hok1 hL1 hL2 hL3 hL4 hL5 hL6
  obtain ⟨k0, k1, k2, k3, k4, k5, k6, k7⟩ := M0.out.blk.cells
  go_enter Tryz.func69, Tryz.ntmps69

  go_wp2_with fail
  (with_reducible refine (A0.out _ M0.out).mono ?_)
  rintro e w1 ⟨rfl, a1, cap1, hc1, hx1, hr1, hk1⟩
  have M1 := Lib.hid (M0.out.kp hk1 hx1 hr1)
  have C1 := Lib.hid hc1
  clear hc1 hx1 hr1 hk1 k0 k1 k2 k3 k4 k5 k6 k7 A0 
  obtain ⟨k0, k1, k2, k3, k4, k5, k6, k7⟩ := M1.out.blk.cells
  go_upto_region 3 with (fail)
  go_cut [10] (fun _ wx => ∃ (a' : Option Addr) (cap' : Nat), n ≤ cap' ∧ Mid w xb mb i t r n f a l wx a' cap' L2)
  case first =>
    have HM := Lib.hid (M1.out.drew)
    go_region_with (go_at_call 30; (with_reducible refine (A1.out _ _ _ ?_).mono ?_); first | exact M1.out | exact HM.out; rintro e wa ⟨a2, cap2, rfl, hcap2, hrow2, hb2⟩; have MA := Lib.hid (M1.out.next (below_drew0 hb2)); have hrow3 := hrow2; have fz := MA.out.blk.free 5; obtain ⟨j0, j1, j2, j3, j4, j5, j6, j7⟩ := MA.out.blk.cells)
    all_goals go_wp2_with fail
    all_goals go_meet
    all_goals exact ⟨a2, cap2, hcap2, MA.out.put hrow2⟩
  case rest =>
  obtain ⟨a2, cap2, hc2, hm2⟩ := hcut
  have M2 := Lib.hid hm2
  have C2 := Lib.hid hc2
  clear hm2 hc2 k0 k1 k2 k3 k4 k5 k6 k7 A1 M1
  obtain ⟨k0, k1, k2, k3, k4, k5, k6, k7⟩ := M2.out.blk.cells
  go_wp2_with fail
  (with_reducible refine (A2.out _ _ _ M2.out).mono ?_)
  rintro e w3 ⟨rfl, a3, cap3, hc3, hx3, hr3, hk3⟩
  have M3 := Lib.hid (M2.out.kp hk3 hx3 hr3)
  have C3 := Lib.hid hc3
  clear hc3 hx3 hr3 hk3 k0 k1 k2 k3 k4 k5 k6 k7 A2 M2
  obtain ⟨k0, k1, k2, k3, k4, k5, k6, k7⟩ := M3.out.blk.cells
  go_upto_region 5 with (fail)
  go_cut [27] (fun _ wx => ∃ (a' : Option Addr) (cap' : Nat), n ≤ cap' ∧ Mid w xb mb i t r n f a l wx a' cap' L4)
  case first =>
    have HM := Lib.hid (M3.out.drew)
    go_region_with (go_at_call 113; (with_reducible refine (A3.out _ _ _ ?_).mono ?_); first | exact M3.out | exact HM.out; rintro e wa ⟨a2, cap2, rfl, hcap2, hrow2, hb2⟩; have MA := Lib.hid (M3.out.next (below_drew0 hb2)); have hrow3 := hrow2; have fz := MA.out.blk.free 5; obtain ⟨j0, j1, j2, j3, j4, j5, j6, j7⟩ := MA.out.blk.cells)
    all_goals go_wp2_with fail
    all_goals go_meet
    all_goals exact ⟨a2, cap2, hcap2, MA.out.put hrow2⟩
  case rest =>
  obtain ⟨a4, cap4, hc4, hm4⟩ := hcut
  have M4 := Lib.hid hm4
  have C4 := Lib.hid hc4
  clear hm4 hc4 k0 k1 k2 k3 k4 k5 k6 k7 A3 M3
  obtain ⟨k0, k1, k2, k3, k4, k5, k6, k7⟩ := M4.out.blk.cells
  go_upto_region 6 with (fail)
  go_cut [42] (fun _ wx => ∃ (a' : Option Addr) (cap' : Nat), n ≤ cap' ∧ Mid w xb mb i t r n f a l wx a' cap' L5)
  case first =>
    have HM := Lib.hid (M4.out.drew)
    go_region_with (go_at_call 114; (with_reducible refine (A4.out _ _ _ ?_).mono ?_); first | exact M4.out | exact HM.out; rintro e wa ⟨a2, cap2, rfl, hcap2, hrow2, hb2⟩; have MA := Lib.hid (M4.out.next (below_drew0 hb2)); have hrow3 := hrow2; have fz := MA.out.blk.free 5; obtain ⟨j0, j1, j2, j3, j4, j5, j6, j7⟩ := MA.out.blk.cells)
    all_goals go_wp2_with fail
    all_goals go_meet
    all_goals exact ⟨a2, cap2, hcap2, MA.out.put hrow2⟩
  case rest =>
  obtain ⟨a5, cap5, hc5, hm5⟩ := hcut
  have M5 := Lib.hid hm5
  have C5 := Lib.hid hc5
  clear hm5 hc5 k0 k1 k2 k3 k4 k5 k6 k7 A4 M4
  obtain ⟨k0, k1, k2, k3, k4, k5, k6, k7⟩ := M5.out.blk.cells
  go_wp2_with fail
  (with_reducible refine (A5.out _ _ _ M5.out).mono ?_)
  rintro e w6 ⟨rfl, a6, cap6, hc6, hx6, hr6, hk6⟩
  have M6 := Lib.hid (M5.out.kp hk6 hx6 hr6)
  have C6 := Lib.hid hc6
  clear hc6 hx6 hr6 hk6 k0 k1 k2 k3 k4 k5 k6 k7 A5 M5
  obtain ⟨k0, k1, k2, k3, k4, k5, k6, k7⟩ := M6.out.blk.cells
  go_wp2_with fail
  (with_reducible refine (A6.out _ _ _ M6.out).mono ?_)
  rintro e w7 ⟨rfl, g, cap7, hc7, hg7, hx7, hw7, hf7, hk7⟩
  have X7 := Lib.hid hx7
  have W7 := Lib.hid hw7
  have F7 := Lib.hid hf7
  have K7 := Lib.hid (M6.out.k2.trans hk7)
  have G7 := Lib.hid (Nat.le_trans M6.out.k2.size hg7)
  have C7 := Lib.hid hc7
  have P0 := Lib.hid (show PRow w7 a l from ⟨fun j p hp => by
    obtain ⟨g', o, e, hgl, hc⟩ := M6.out.was.at_ j p hp
    have n1 := M6.out.blk.apart M6.out.was hp e
    have n2 := M6.out.fm.apart M6.out.was hp e
    exact ⟨g', o, e, Nat.lt_of_lt_of_le hgl hk7.size, fun c v hv => by
      have := hc c v hv
      rw [← this]
      simp only [World.cell?, hk7.block g' hgl n1 n2]⟩⟩)
  have CE := Lib.hid (equal_w a (some ⟨g, 0, none⟩) cap cap7 l (L6.map offP) n (decide (l = L6.map offP)) w7 P0.out W7.out.row HN.out (by rw [List.length_map]; exact N6.out) (by omega) (Lib.hid rfl))
  obtain ⟨k0, k1, k2, k3, k4, k5, k6, k7⟩ := X7.out.cells
  clear hx7 hw7 hf7 hk7 hg7 hc7 A6 M6
  go_wp2_with fail
  (with_reducible refine CE.out.mono ?_)
  rintro e w8 ⟨rfl, hb8⟩
  have B8 := Lib.hid hb8
  clear hb8
  go_wp2_with fail
  go_ret
  rw [HR.out, HI.out]
  exact ⟨rfl, g, cap7, C7.out, G7.out, X7.out.next B8.out, W7.out.next B8.out, F7.out.next B8.out, K7.out.trans (K2.of B8.out)⟩
end Go.Proofs.YtldobcfejldbiaaGreatDoor

namespace Go.Proofs.YtldobcfejldbiaaGreatDoor
set_option linter.unusedVariables false
set_option linter.unusedSimpArgs false
open Go.RowKit Go.Maps Vm Rm Bm Im

set_option maxHeartbeats 400000 in
theorem add64_w (b o : Nat) (x y : Int) (w : World) (h0 : 0 ≤ x) (h1 : x ≤ 1000000000) (h2 : 0 ≤ y) (h3 : y ≤ 1000) (hc : w.cell? ⟨b, o, none⟩ = some (.int .i64 x)) (hz : w.frozen? ⟨b, o, none⟩ = false) :
    Calls Tryz.prog 67 #[.pointer (some ⟨b, o, none⟩), .int .i64 y] w fun e w' => e = .returned (.int .i64 (x + y)) ∧ w.setCell ⟨b, o, none⟩ (.int .i64 (x + y)) = w' := by
  have hadd := run_call_add (P := Tryz.prog) Tryz.func110 (by kernel_rfl) (by kernel_rfl) (by kernel_rfl) .i64 (by kernel_rfl) (y := y) (s := x + y) hc hz (by simp [go_sem, IntKind.wrap_i64]; omega)
  go_enter Tryz.func67, Tryz.ntmps67
  go_wp2
  go_ret
  exact ⟨rfl, rfl⟩
set_option maxHeartbeats 400000 in
theorem load64_w (b o : Nat) (x : Int) (w : World) (hc : w.cell? ⟨b, o, none⟩ = some (.int .i64 x)) :
    Calls Tryz.prog 56 #[.pointer (some ⟨b, o, none⟩)] w fun e w' => e = .returned (.int .i64 x) ∧ w' = w := by
  have hl := run_call_load (P := Tryz.prog) Tryz.func101 (by kernel_rfl) (by kernel_rfl) (by kernel_rfl) .i64 (by kernel_rfl) hc
  go_enter Tryz.func56, Tryz.ntmps56
  go_wp2
  go_ret
  exact ⟨rfl, rfl⟩

theorem round_ids (br : Int) (t : Tm) (l : List Pt) : (roundP br t l).map Pt.id = l.map Pt.id := by
  have h1 := congrArg (List.map Pt.id) (round_rest br t l)
  rw [List.map_map, List.map_map, show Pt.id ∘ restK = Pt.id from rfl] at h1
  rw [h1]
  unfold settledP
  rw [List.map_map, show Pt.id ∘ settleP = Pt.id from funext fun p => by show (settleP p).id = _; unfold settleP; split <;> rfl]
  have h3 : (l.map ageP).map Pt.id = l.map Pt.id := by
    rw [List.map_map, show Pt.id ∘ ageP = Pt.id from funext fun p => by show (ageP p).id = _; unfold ageP; split <;> rfl]
  rw [← h3]
  cases hm : mayB br t (l.map ageP) with
  | false => rw [choose_not hm]
  | true =>
    rw [choose_may hm]
    apply List.ext_getElem?
    intro j
    simp only [List.getElem?_map, List.getElem?_mapIdx]
    cases l[j]? <;> rfl
theorem ids_sub (br : Int) (t : Tm) (l : List Pt) : ∀ x ∈ idsP br t l, x ∈ l.map Pt.id := by
  intro x hx
  have h := flushed_sub _ x hx
  have e : (chainP br t l).map Pt.id = (roundP br t l).map Pt.id := by unfold roundP; rw [List.map_map]; rfl
  rw [e, round_ids] at h
  exact h
theorem runN_yes {br : Int} {t : Tm} {n r : Nat} {l : List Pt} {f : List Int} (h : roundP br t l = l) : Im.runN br t (n + 1) ⟨l, f, r⟩ = ⟨roundP br t l, addAll f (idsP br t l), r⟩ := by
  unfold Im.runN
  rw [if_pos h]
  show (⟨l, _, r⟩ : Rs) = _
  rw [h]
theorem runN_no {br : Int} {t : Tm} {n r : Nat} {l : List Pt} {f : List Int} (h : ¬ roundP br t l = l) : Im.runN br t (n + 1) ⟨l, f, r⟩ = Im.runN br t n ⟨roundP br t l, addAll f (idsP br t l), r + 1⟩ := by
  conv => lhs; unfold Im.runN
  rw [if_neg h]

set_option maxRecDepth 20000 in
set_option maxHeartbeats 4000000 in
theorem repeat15_w (xb : Nat) (i : Int) (t : Tm) (a : Option Addr) (n cap mb r0 : Nat) (r : Int) (l : List Pt) (f : List Int) (w : World) (h : XBlk w xb i t a n cap mb r) (hr : PRow w a l) (hn : l.length = n) (hn1 : 1 ≤ n) (hn2 : n ≤ 16)
    (hf : IsFm w mb f) (hok : FOk (l.map Pt.id) f) (hbr : Vm.u64B i) (hg : Im.Good l) :
    Calls Tryz.prog 68 #[.func (.func 69) #[.pointer (some ⟨xb, 0, none⟩)] #[]] w fun e w' => ∃ (g cap' c : Nat) (X : Rs), X = Im.runN i t 300 ⟨l, f, r0⟩ ∧ X.r = r0 + c ∧ c ≤ 300 ∧ e = .returned (.int .i64 ((c : Nat) : Int)) ∧ n ≤ cap' ∧ w.heap.size ≤ g ∧ XBlk w' xb i t (some ⟨g, 0, none⟩) n cap' mb r ∧ WRow w' g X.l ∧ IsFm w' mb X.f ∧ K2 xb mb w w' := by
  have HX := Lib.hid h
  have HR := Lib.hid hr
  have HN := Lib.hid hn
  have HF := Lib.hid hf
  have HOK := Lib.hid hok
  have HG := Lib.hid hg
  have hxl := h.lt
  have hml := hf.lt
  have he : ∀ (a : Array Value) (w : World), Sem.run Tryz.prog (callFunc 69 a) w = .ok (.enter 69 a) w := fun _ _ => by kernel_rfl
  clear h hr hn hf hok hg
  go_enter Tryz.func68, Tryz.ntmps68
  go_wp2_with fail
  go_loopw [3, 4] (fun vc vi wr => ∃ (k : Nat) (a' : Option Addr) (cap' : Nat) (l' : List Pt) (f' : List Int), vc = .int .i64 ((k : Nat) : Int) ∧ vi = .int .i64 ((k : Nat) : Int) ∧ k ≤ 300 ∧ XBlk wr xb i t a' n cap' mb r ∧ PRow wr a' l' ∧ l'.length = n ∧ IsFm wr mb f' ∧ FOk (l'.map Pt.id) f' ∧ Im.Good l' ∧ K2 xb mb w wr ∧
      Im.runN i t (300 - k) ⟨l', f', r0 + k⟩ = Im.runN i t 300 ⟨l, f, r0⟩ ∧ (k = 0 ∨ ∃ g, a' = some ⟨g, 0, none⟩ ∧ n ≤ cap' ∧ w.heap.size ≤ g ∧ WRow wr g l')) (fun _ vi _ => 300 - (RowKit.intOf vi).toNat)
  case atStart => exact ⟨0, a, cap, l, f, rfl, rfl, by omega, HX.out, HR.out, HN.out, HF.out, HOK.out, HG.out, K2.refl xb mb w, rfl, .inl rfl⟩
  case round =>
    obtain ⟨k, a', cap', l', f', rfl, rfl, hk, hx, hr, hn, hf, hok, hg, h2, hrun, hown⟩ := hrel
    by_cases hk3 : k < 300
    · have hki : (k : Int) < 300 := by omega
      have CR := Lib.hid (round15_w xb i t a' n cap' mb r l' f' wr hx hr hn hn1 hn2 hf hok hbr hg)
      have HN' := Lib.hid hn
      have HOK' := Lib.hid hok
      have HG' := Lib.hid hg
      have H2 := Lib.hid h2
      have HRUN := Lib.hid hrun
      obtain ⟨m, hm⟩ : ∃ m, 300 - k = m + 1 := ⟨300 - k - 1, by omega⟩
      have HM := Lib.hid hm
      clear hx hr hn hf hok hg h2 hrun hown hm
      go_wp2_with fail
      (with_reducible refine CR.out.mono ?_)
      rintro e w1 ⟨rfl, g, cap1, hc1, hg1, hx1, hw1, hf1, hk1⟩
      have X1 := Lib.hid hx1
      have W1 := Lib.hid hw1
      have F1 := Lib.hid hf1
      have K1 := Lib.hid (H2.out.trans hk1)
      have G1 := Lib.hid (Nat.le_trans H2.out.size hg1)
      have C1 := Lib.hid hc1
      clear hc1 hg1 hx1 hw1 hf1 hk1
      by_cases hs : l' = roundP i t l'
      · have hd : decide (l' = roundP i t l') = true := decide_eq_true hs
        have HS := Lib.hid hs
        have hX := HRUN.out
        rw [HM.out, runN_yes HS.out.symm] at hX
        have HXX := Lib.hid hX
        rw [hd]
        clear hs hX hd
        go_wp2_with fail
        go_ret
        exact ⟨g, cap1, k, _, rfl, by rw [← HXX.out], hk, rfl, C1.out, G1.out, X1.out, by rw [← HXX.out]; exact W1.out, by rw [← HXX.out]; exact F1.out, K1.out⟩
      · have hd : decide (l' = roundP i t l') = false := decide_eq_false hs
        have HS := Lib.hid hs
        have hX := HRUN.out
        rw [HM.out, runN_no (fun e => HS.out e.symm)] at hX
        have HXX := Lib.hid hX
        rw [hd]
        clear hs hX hd
        go_wp2_with fail
        exact ⟨⟨k + 1, _, cap1, roundP i t l', addAll f' (idsP i t l'), by go_num, by go_num, by omega, X1.out, W1.out.row, by rw [round_len]; exact HN'.out, F1.out, by rw [round_ids]; exact HOK'.out.addAll (ids_sub i t l'), HG'.out.round hbr, K1.out, by rw [show 300 - (k + 1) = 300 - k - 1 by omega, HM.out]; exact HXX.out, .inr ⟨g, rfl, C1.out, G1.out, W1.out⟩⟩, by simp [RowKit.intOf]; omega⟩
    · obtain rfl : k = 300 := by omega
      rcases hown with h0 | ⟨g, rfl, hc1, hg1, hw1⟩
      · omega
      have hXX : (⟨l', f', r0 + 300⟩ : Rs) = Im.runN i t 300 ⟨l, f, r0⟩ := hrun
      have HXX := Lib.hid hXX
      have X1 := Lib.hid hx
      have W1 := Lib.hid hw1
      have F1 := Lib.hid hf
      have K1 := Lib.hid h2
      clear hx hr hn hf hok hg h2 hrun hw1 hXX
      go_wp2_with fail
      go_ret
      exact ⟨g, cap', 300, _, rfl, by rw [← HXX.out], hk, rfl, hc1, hg1, X1.out, by rw [← HXX.out]; exact W1.out, by rw [← HXX.out]; exact F1.out, K1.out⟩
end Go.Proofs.YtldobcfejldbiaaGreatDoor
