/-
  Layer 15: the walk of RstpSafe (printed by gen_rpr.py).
-/
import Derived.Test.YtldobcfejldbiaaGreatDoorMbl
namespace Go.Proofs.YtldobcfejldbiaaGreatDoor
set_option linter.unusedVariables false
set_option linter.unusedSimpArgs false
open Go.RowKit Go.Maps Vm Rm Bm Im

/-! ### What is sent -/
theorem outs_in {t : Tm} {l : List Pt} {j : Nat} {x : Nat × Bp} (h : (outsI t l)[j]? = some x) : ∃ p, l[x.1]? = some p ∧ (sendP t p).2.2 = true ∧ x.2 = (sendP t p).2.1 := by
  have hm := List.mem_of_getElem? h
  unfold outsI at hm
  obtain ⟨y, hy, rfl⟩ := List.mem_map.1 hm
  obtain ⟨h1, h2⟩ := List.mem_filter.1 hy
  exact ⟨y.1, List.mem_zipIdx_iff_getElem?.1 h1, h2, rfl⟩
theorem outs_nodup (t : Tm) (l : List Pt) : ((outsI t l).map Prod.fst).Nodup := by
  unfold outsI
  rw [List.map_map]
  have e : (Prod.fst ∘ fun x : Pt × Nat => (x.2, (sendP t x.1).2.1)) = Prod.snd := rfl
  rw [e]
  have h1 : (((l.zipIdx.filter fun x => (sendP t x.1).2.2)).map Prod.snd).Sublist (l.zipIdx.map Prod.snd) := List.filter_sublist.map _
  rw [List.zipIdx_map_snd] at h1
  exact List.Pairwise.sublist h1 List.nodup_range'
theorem outs_apart {t : Tm} {l : List Pt} {j j' : Nat} {x y : Nat × Bp} (h : (outsI t l)[j]? = some x) (h' : (outsI t l)[j']? = some y) (hlt : j < j') : x.1 ≠ y.1 := by
  have hp := List.pairwise_iff_getElem.1 (outs_nodup t l) j j' (by rw [List.length_map]; exact (List.getElem?_eq_some_iff.1 h).1) (by rw [List.length_map]; exact (List.getElem?_eq_some_iff.1 h').1) hlt
  simp only [List.getElem_map, (List.getElem?_eq_some_iff.1 h).2, (List.getElem?_eq_some_iff.1 h').2] at hp
  exact hp
theorem ORow.kp {w w' : World} {a : Option Addr} {l : List (Nat × Bp)} {b : Nat} (h : ORow w a l) (hk : Kp b w w') (hb : w.heap.size ≤ b) : ORow w' a l :=
  ⟨fun j x hx => by
    obtain ⟨g, e, hg, k⟩ := h.at_ j x hx
    exact ⟨g, e, Nat.lt_of_lt_of_le hg hk.size, fun c v hv => (hk.cell (p := ⟨g, j * 11 + c, none⟩) hg (by show g ≠ b; omega)).trans (k c v hv)⟩⟩
theorem ORow.kp2 {w w' : World} {a : Option Addr} {l : List (Nat × Bp)} {b : Nat} (h : ORow w a l) (hk : Kp b w w') (hb : ∀ g o, a = some ⟨g, o, none⟩ → g ≠ b) : ORow w' a l :=
  ⟨fun j x hx => by
    obtain ⟨g, e, hg, k⟩ := h.at_ j x hx
    exact ⟨g, e, Nat.lt_of_lt_of_le hg hk.size, fun c v hv => (hk.cell (p := ⟨g, j * 11 + c, none⟩) hg (hb g 0 e)).trans (k c v hv)⟩⟩

/-! ### A row of counts -/
structure MRow (w : World) (g : Nat) (l : List Int) : Prop where
  lt : g < w.heap.size
  at_ : ∀ c v, l[c]? = some v → w.cell? ⟨g, c, none⟩ = some (.int .i64 v)
  free : ∀ c, w.frozen? ⟨g, c, none⟩ = false
theorem MRow.next {w w' : World} {g : Nat} {l : List Int} (h : MRow w g l) (hb : Below w.heap.size w w') : MRow w' g l :=
  ⟨Nat.lt_of_lt_of_le h.lt hb.size, fun c v hv => (hb.cell (p := ⟨g, c, none⟩) h.lt).trans (h.at_ c v hv), fun c => (hb.frozen (p := ⟨g, c, none⟩) h.lt).trans (h.free c)⟩
theorem MRow.set {w : World} {g : Nat} {l : List Int} (h : MRow w g l) {k : Nat} (hk : k < l.length) (v : Int) : MRow (w.setCell ⟨g, k, none⟩ (.int .i64 v)) g (l.set k v) := by
  have hth : w.there g k 1 := fun j hj => by
    obtain rfl : j = 0 := by omega
    exact ⟨by rw [show k + 0 = k from rfl, h.at_ k _ (List.getElem?_eq_getElem hk)]; rfl, h.free _⟩
  have e : w.setCell ⟨g, k, none⟩ (.int .i64 v) = w.setCells g k [.int .i64 v] := rfl
  refine ⟨by rw [e, setCells_size]; exact h.lt, fun c u hu => ?_, fun c => ?_⟩
  · rw [e]
    by_cases hc : k = c
    · subst hc
      rw [List.getElem?_set_self hk] at hu
      cases hu
      exact World.rangeAt_setCells_same w g k [.int .i64 v] hth 0 _ rfl
    · rw [List.getElem?_set_ne hc] at hu
      have h1 : w.rangeAt g c [.int .i64 u] := fun j z hz => by
        match j, hz with
        | 0, hz => cases hz; exact h.at_ c u hu
        | j + 1, hz => cases hz
      exact World.rangeAt_setCells_apart h1 g k [.int .i64 v] (.inr (by simp; omega)) 0 _ rfl
  · exact (World.frozen?_setCell _ _ _ _).trans (h.free c)
theorem mrow_made {w : World} {base n : Nat} {g : Nat} {T : TypeId} {xs : List Value} (h : w.ownsRow base T 1 (.slice (some ⟨g, 0, none⟩) n n) n xs) (hx : ∀ c, c < n → xs[c]? = some (.int .i64 0)) : MRow w g (List.replicate n 0) := by
  rcases h.2 with ⟨h0, _⟩ | ⟨g', cap, cur, e, hbg, hg, hnc, hcm, hcs, htake⟩
  · cases h0
  · cases e
    refine ⟨(Array.getElem?_eq_some_iff.1 hg).1, fun c v hv => ?_, fun c => by simp [World.frozen?, hg]⟩
    have hc : c < n := by have := (List.getElem?_eq_some_iff.1 hv).1; simpa using this
    have hv0 : v = 0 := by have := (List.getElem?_eq_some_iff.1 hv).2; simpa using this.symm
    have h1 := h.cellAt c (by omega)
    rw [hx c hc] at h1
    rw [hv0]
    exact h1
theorem made_zero (n : Nat) : ∀ c, c < n → (madeCells (Value.int .i64 0).cells (n * 1)).toList[c]? = some (.int .i64 0) := by
  intro c hc
  have e := toList_madeCells_one (.int .i64 0) n
  rw [Nat.mul_one]
  show (madeCells #[Value.int .i64 0] n).toList[c]? = _
  rw [e, List.getElem?_replicate, if_pos hc]
theorem infoIntS : (Tryz.prog.info? 3).map (fun i => (i.zero, i.size, i.bytes)) = some (some (.int .i64 0), 1, 8) := by kernel_rfl
theorem ids_tick (l : List Pt) : (l.map tickP).map Pt.id = l.map Pt.id := by
  rw [List.map_map]
  exact List.map_congr_left fun p _ => rfl
theorem kp_setCell {w : World} {g : Nat} (k : Nat) (v : Value) : Kp g w (w.setCell ⟨g, k, none⟩ v) := (Kp.refl' g w).set k v
theorem XIs.kp {w0 w w' : World} {xb g cap mb k b : Nat} {i : Int} {t : Tm} {x : Rs} (h : XIs w0 w xb g cap mb i t k x) (hk : Kp b w w') (h1 : xb < b) (h2 : mb < b) (h3 : g < b) : XIs w0 w' xb g cap mb i t k x :=
  ⟨⟨h.is.blk.kp hk (by omega), h.is.row.kp hk (by omega), h.is.cap, h.is.fm.kp hk (by omega), h.is.fok, h.is.good, h.is.len1, h.is.len2, h.is.rr⟩, h.hx, h.hm, h.hg, hk.below h.below (by have := h.hx; omega) h.below.size⟩
theorem do_cases {P : Rs → Prop} {br : Int} {t : Tm} {x : Rs} {y : A15} (h : P x) (hp : ∀ k on, P (powerX br t x k on)) (hh : ∀ k b, P (hearX br t x k b)) (ht : P (tickX br t x)) (hc : ∀ k, P (checkX br t x k)) (hs : P (sendX br t x)) (hf : P { x with f := [] }) : P (doX br t x y) := by
  unfold doX
  by_cases h0 : y.kind = 0
  · rw [if_pos h0]
    split
    · exact hp _ _
    · exact h
  rw [if_neg h0]
  by_cases h1 : y.kind = 1
  · rw [if_pos h1]
    unfold hearY
    split
    · split
      · exact hh _ _
      · exact h
    · exact h
  rw [if_neg h1]
  by_cases h2 : y.kind = 2
  · rw [if_pos h2]; exact ht
  rw [if_neg h2]
  by_cases h3 : y.kind = 3
  · rw [if_pos h3]
    split
    · exact hc _
    · exact h
  rw [if_neg h3]
  by_cases h4 : y.kind = 4
  · rw [if_pos h4]; exact hs
  rw [if_neg h4]
  by_cases h5 : y.kind = 5
  · rw [if_pos h5]; exact hf
  rw [if_neg h5]
  exact h
theorem safe_do {br : Int} {t : Tm} {x : Rs} {y : A15} (h : AllSafe x.l) : AllSafe (doX br t x y).l :=
  do_cases (P := fun z => AllSafe z.l) h (fun k on => run_safe br t _) (fun k b => run_safe br t _) (run_safe br t _) (fun k => run_safe br t _) (run_safe br t _) h
theorem ids_do {br : Int} {t : Tm} {x : Rs} {y : A15} : (doX br t x y).l.map Pt.id = x.l.map Pt.id :=
  do_cases (P := fun z => z.l.map Pt.id = x.l.map Pt.id) rfl (fun k on => (run_ids br t _).trans (atSet_ids (fun p => power_id on p))) (fun k b => (run_ids br t _).trans (atSet_ids (fun p => hear1_id b p))) ((run_ids br t _).trans (ids_tick _)) (fun k => (run_ids br t _).trans (atSet_ids (fun p => rfl))) ((run_ids br t _).trans (ids_sent t _)) rfl
theorem ids_new {br : Int} {t : Tm} {S : List Su} : (newX br t S).l.map Pt.id = S.map Su.id := by
  refine (run_ids _ _ _).trans ?_
  rw [List.map_map]
  rfl
theorem id_at {l : List Pt} {S : List Su} (h : l.map Pt.id = S.map Su.id) {k : Nat} {p : Pt} (hp : l[k]? = some p) : ∃ s, S[k]? = some s ∧ s.id = p.id := by
  have h1 : (S.map Su.id)[k]? = some p.id := by rw [← h, List.getElem?_map, hp]; rfl
  rw [List.getElem?_map, Option.map_eq_some_iff] at h1
  exact h1
/-- Where the walk of RstpSafe stands, ahead of an act. -/
def SafInv (S : List Su) (w0 : World) (xb mb m : Nat) (v : Value) (wr : World) : Prop :=
  ∃ (j g cap : Nat) (x : Rs), j ≤ m ∧ v = .int .i64 ((j : Nat) : Int) ∧ XIs w0 wr xb g cap mb 9 U9 (j + 1) x ∧ AllSafe x.l ∧ x.l.map Pt.id = S.map Su.id
/-- Among the ports: how many root ports so far. -/
def SafIn (l : List Pt) (n : Nat) (w3 : World) (r v : Value) (wr : World) : Prop :=
  ∃ kk : Nat, kk ≤ n ∧ v = .int .i64 ((kk : Nat) : Int) ∧ Below w3.heap.size w3 wr ∧ (r = .int .i64 0 ∨ (r = .int .i64 1 ∧ ∃ i p, i < kk ∧ l[i]? = some p ∧ rootB p = true))
theorem sin_keep {l : List Pt} {kk : Nat} {r : Value} (h : r = .int .i64 0 ∨ (r = .int .i64 1 ∧ ∃ i p, i < kk ∧ l[i]? = some p ∧ rootB p = true)) : r = .int .i64 0 ∨ (r = .int .i64 1 ∧ ∃ i p, i < kk + 1 ∧ l[i]? = some p ∧ rootB p = true) := by
  rcases h with h | ⟨h, i, p, h1, h2, h3⟩
  · exact .inl h
  · exact .inr ⟨h, i, p, by omega, h2, h3⟩
/-- Among what was sent: how many of each so far. -/
def SndIn (L : List (Nat × Bp)) (q n gm : Nat) (w4 : World) (v : Value) (wr : World) : Prop :=
  ∃ (kk : Nat) (lm : List Int), kk ≤ q ∧ v = .int .i64 ((kk : Nat) : Int) ∧ lm.length = n ∧ MRow wr gm lm ∧ Kp gm w4 wr ∧ (∀ j x, kk ≤ j → L[j]? = some x → lm[x.1]? = some 0)

set_option maxRecDepth 20000 in
set_option maxHeartbeats 16000000 in
theorem rstpSafe_any (a : Option Addr) (cap : Nat) (S : List Su) (b : Option Addr) (bcap : Nat) (sc : List A15) (w : World) (hT : TRoles w) (hr : SuRow w a S) (hS : ∀ s ∈ S, Vm.u64B s.id ∧ Vm.u64B s.cost) (hA : ARow w b sc) :
    Calls Tryz.prog 4 #[.slice a S.length cap, .slice b sc.length bcap] w fun e w' => e = .returned (.bool true) ∧ Below w.heap.size w w' := by
  obtain ⟨n, hn⟩ : ∃ n, S.length = n := ⟨_, rfl⟩
  obtain ⟨m, hm⟩ : ∃ m, sc.length = m := ⟨_, rfl⟩
  have HN := Lib.hid hn
  have HM := Lib.hid hm
  rw [hn, hm]
  have CW := Lib.hid (awake15_any w hT)
  have CU := Lib.hid (fun w' => usual_w 9 w')
  have CF := Lib.hid (fun w' => few15_w b m bcap w')
  have CN := Lib.hid (fun (w' : World) (hb : Below w.heap.size w w') (hn20 : n ≤ 20) => new15_w 9 U9 a cap S w' (hr.next hb) nine hS (by omega))
  rw [hn] at CN
  have HT := Lib.hid hT
  have HA := Lib.hid hA
  have HSR := Lib.hid hr
  clear hT hr hS hA hn hm
  by_cases hn20 : n ≤ 20
  case neg =>
    have h1 : (20 : Int) < (n : Int) := by omega
    clear CN CF CU HT HA HN HM
    go_enter Tryz.func4, Tryz.ntmps4
    go_wp2_with (go_at_call 6; (with_reducible refine CW.out.mono ?_); rintro e w1 ⟨rfl, hb1⟩; have HB1 := Lib.hid hb1; clear hb1)
    go_ret
    exact ⟨rfl, HB1.out⟩
  have hn20' : ¬ ((20 : Int) < (n : Int)) := by omega
  by_cases hm60 : m ≤ 60
  case neg =>
    rw [decide_eq_false hm60] at CF
    clear CN CU HT HA HN HM
    go_enter Tryz.func4, Tryz.ntmps4
    go_wp2_with (first
      | (go_at_call 6; (with_reducible refine CW.out.mono ?_); rintro e w1 ⟨rfl, hb1⟩; have HB1 := Lib.hid hb1; clear hb1)
      | (go_at_call 7; (with_reducible refine (CF.out _).mono ?_); rintro e w2 ⟨rfl, hw2⟩; obtain rfl : w1 = w2 := hw2.symm))
    go_ret
    exact ⟨rfl, HB1.out⟩
  rw [decide_eq_true hm60] at CF
  cases hN : newB U9 S with
  | false =>
    rw [hN] at CN
    have CNN := Lib.hid (fun (w' : World) (hb : Below w.heap.size w w') => show Calls Tryz.prog 8 #[brv 9 0 20 2 15, .slice a n cap] w' (fun e w'' => e = .returned (.tuple #[.pointer none, .int .i64 2]) ∧ Below w'.heap.size w' w'') from
      (CN.out w' hb hn20).mono fun e w'' hh => by
        rcases hh with ⟨_, h1⟩ | ⟨h1, _⟩
        · exact h1
        · cases h1)
    clear CN HT HA HN HM hN
    go_enter Tryz.func4, Tryz.ntmps4
    go_wp2_with (first
      | (go_at_call 6; (with_reducible refine CW.out.mono ?_); rintro e w1 ⟨rfl, hb1⟩; have HB1 := Lib.hid hb1; clear hb1)
      | (go_at_call 7; (with_reducible refine (CF.out _).mono ?_); rintro e w2 ⟨rfl, hw2⟩; obtain rfl : w1 = w2 := hw2.symm)
      | (go_at_call 25; (with_reducible refine (CU.out _).mono ?_); rintro e w3 ⟨rfl, hb3⟩; have HB3 := Lib.hid (bw_trans HB1.out hb3); clear hb3)
      | (go_at_call 8; (with_reducible refine (CNN.out _ HB3.out).mono ?_); rintro e w4 ⟨rfl, hb4⟩; have HB4 := Lib.hid (bw_trans HB3.out hb4); clear hb4))
    go_ret
    exact ⟨rfl, HB4.out⟩
  | true =>
    rw [hN] at CN
    have HNB := Lib.hid hN
    clear hN
    have CNN := Lib.hid (fun (w' : World) (hb : Below w.heap.size w w') => show Calls Tryz.prog 8 #[brv 9 0 20 2 15, .slice a n cap] w' (fun e w'' => ∃ xb g cap' mb, e = .returned (.tuple #[.pointer (some ⟨xb, 0, none⟩), .int .i64 0]) ∧ w'.heap.size ≤ xb ∧ w'.heap.size ≤ g ∧ w'.heap.size ≤ mb ∧ IsX w'' xb g cap' mb 9 U9 1 (newX 9 U9 S) ∧ Below w'.heap.size w' w'') from
      (CN.out w' hb hn20).mono fun e w'' hh => by
        rcases hh with ⟨h1, _⟩ | ⟨_, h1⟩
        · cases h1
        · exact h1)
    clear CN hn20
    go_enter Tryz.func4, Tryz.ntmps4
    go_wp2_with (first
      | (go_at_call 6; (with_reducible refine CW.out.mono ?_); rintro e w1 ⟨rfl, hb1⟩; have HB1 := Lib.hid hb1; clear hb1)
      | (go_at_call 7; (with_reducible refine (CF.out _).mono ?_); rintro e w2 ⟨rfl, hw2⟩; obtain rfl : w1 = w2 := hw2.symm)
      | (go_at_call 25; (with_reducible refine (CU.out _).mono ?_); rintro e w3 ⟨rfl, hb3⟩; have HB3 := Lib.hid (bw_trans HB1.out hb3); clear hb3)
      | (go_at_call 8; (with_reducible refine (CNN.out _ HB3.out).mono ?_); rintro e w4 ⟨xb, g, xcap, mb, rfl, hxb, hg, hmb, hx, hb4⟩; have X4 := Lib.hid (show XIs w w4 xb g xcap mb 9 U9 1 (newX 9 U9 S) from ⟨hx, Nat.le_trans HB3.out.size hxb, Nat.le_trans HB3.out.size hmb, Nat.le_trans HB3.out.size hg, bw_trans HB3.out hb4⟩); clear hxb hg hmb hx hb4))
    have HSF := Lib.hid (show AllSafe (newX 9 U9 S).l ∧ (newX 9 U9 S).l.map Pt.id = S.map Su.id from ⟨run_safe _ _ _, ids_new⟩)
    have BW := Lib.hid X4.out.below
    obtain ⟨iI, hiI, hzI0, hzI1, hzI2⟩ := info_parts infoIntS
    go_loopw [7] (fun v wr => SafInv S w xb mb m v wr) (fun v _ => m - (RowKit.intOf v).toNat)
    case atStart => exact ⟨0, g, xcap, _, Nat.zero_le _, rfl, X4.out, HSF.out.1, HSF.out.2⟩
    case round =>
      obtain ⟨j, g1, cap1, x, hj, rfl, hx, hsf, hid⟩ := hrel
      have X := Lib.hid hx
      have SF := Lib.hid (And.intro hsf hid)
      have hln : x.l.length = n := by have := congrArg List.length hid; rw [List.length_map, List.length_map] at this; rw [this]; exact HN.out
      have HLN := Lib.hid hln
      clear hx hsf hid hln X4 HSF
      by_cases hjm : j < m
      · obtain ⟨y, hy⟩ := at_some (l := sc) (k := j) (by rw [HM.out]; exact hjm)
        obtain ⟨ab, ao, rfl, habl, hyr⟩ := (HA.out.next X.out.below).at_ j y hy
        have hyk := HA.out.ok y (List.mem_of_getElem? hy)
        have HY := Lib.hid hyr
        have cK : wr.cell? ⟨ab, ao + j * 13, none⟩ = some (.int .i64 y.kind) := hyr 0 (.int .i64 y.kind) rfl
        have hji : ((j : Nat) : Int) < (m : Int) := by omega
        have hj0 : (0 : Int) ≤ ((j : Nat) : Int) := by omega
        clear hyr hy habl
        by_cases h1 : y.kind = 4
        · as_aux_lemma =>
          rw [h1] at cK
          have CPo := Lib.hid (ports15_w xb g1 cap1 mb (j + 1) 9 U9 x wr X.out.is)
          rw [HLN.out] at CPo
          clear HY hyk
          go_upto_region 13 with (go_at_call 23; (with_reducible refine CPo.out.mono ?_); rintro e w2 ⟨gl, capl, rfl, hcl, hgl, hwl, hb2⟩; have W2 := Lib.hid hwl; have HGL := Lib.hid hgl; have X2 := Lib.hid (X.out.next hb2); clear hwl hb2 hcl hgl)
          clear cK CPo
          have CSe := Lib.hid (send15_w xb g1 cap1 mb (j + 1) 9 U9 x w2 X2.out.is (X2.out.roles HT.out) nine (by omega))
          go_upto_region 14 with (go_at_call 19; (with_reducible refine CSe.out.mono ?_); rintro e w3 ⟨vo, rfl, hown, ha3⟩; obtain ⟨g3, cap3, hx3, hk3⟩ := X2.out.act ha3; obtain ⟨oa, ocap, rfl, hoc, hor, hob⟩ := orow_owned hown; have X3 := Lib.hid hx3; have W3 := Lib.hid (W2.out.k3 hk3 (by have := X.out.lt; have := HGL.out; omega) (by have := X.out.lt; have := HGL.out; omega) (by have := X.out.lt; have := HGL.out; omega)); have O3 := Lib.hid hor; clear hx3 hk3 hown ha3 hor hoc hob)
          clear W2 X2 CSe
          obtain ⟨L, hL⟩ : ∃ L, outsI U9 x.l = L := ⟨_, rfl⟩
          obtain ⟨q, hq⟩ : ∃ q, L.length = q := ⟨_, rfl⟩
          have HL := Lib.hid hL
          have HQ := Lib.hid hq
          have hq16 : q ≤ 16 := by rw [← hq, ← hL]; exact Nat.le_trans (outs_few U9 x.l) X.out.is.len2
          rw [hL] at O3 ⊢
          rw [hq]
          clear hL hq
          have hn16 : n ≤ 16 := HLN.out ▸ X.out.is.len2
          go_upto_region 15 with (at_make; refine wpList_make_full _ rfl _ _ 76 rfl w3.heap.size 3 iI (.int .i64 0) 1 Tryz.underlying76 hiI hzI0 hzI1 _ _ _ _ n rfl rfl rfl rfl (by rw [hzI2]; omega) (by unfold maxLen; omega) (Nat.le_refl _) ?_; intro w4 hown4 hgr4; have B4 := Lib.hid (show Below w3.heap.size w3 w4 from (Below.refl w3.heap.size w3).grown hgr4 (Nat.le_refl _) (by simp)); have M4 := Lib.hid (mrow_made hown4 (made_zero n)); clear hown4 hgr4)
          obtain ⟨gm, hgm⟩ : ∃ gm, w3.heap.size = gm := ⟨_, rfl⟩
          have HGM := Lib.hid hgm
          rw [hgm] at M4 ⊢
          have X4 := Lib.hid (X3.out.next B4.out)
          have W4 := Lib.hid (W3.out.next B4.out)
          have O4 := Lib.hid (O3.out.next B4.out)
          have LT := Lib.hid (show xb < gm ∧ mb < gm ∧ g3 < gm ∧ gl < gm ∧ ∀ g o, oa = some ⟨g, o, none⟩ → L ≠ [] → g < gm by
            have h0 := X3.out.lt
            have h2 := W3.out.lt
            rw [HGM.out] at h0 h2
            refine ⟨h0.1, h0.2.1, h0.2.2, h2, fun g o e hne => ?_⟩
            obtain ⟨z, hz⟩ := at_some (l := L) (k := 0) (List.length_pos_iff.2 hne)
            obtain ⟨g', e', hg', _⟩ := O3.out.at_ 0 z hz
            rw [e] at e'
            cases e'
            rw [← HGM.out]
            exact hg')
          clear X3 W3 O3 B4 hgm
          obtain ⟨wo, hwo⟩ : ∃ wo : World, wo = wr := ⟨_, rfl⟩
          rw [← hwo] at X HGL
          clear hwo
          go_wp2_with fail
          go_loopw [11] (fun v wr => SndIn L q n gm w4 v wr) (fun v _ => q - (RowKit.intOf v).toNat)
          case atStart =>
            refine ⟨0, List.replicate n 0, Nat.zero_le _, rfl, List.length_replicate, M4.out, Kp.refl' gm w4, fun j z _ hz => ?_⟩
            obtain ⟨p, hp, _⟩ := outs_in (HL.out ▸ hz)
            have := (List.getElem?_eq_some_iff.1 hp).1
            rw [HLN.out] at this
            rw [List.getElem?_replicate, if_pos this]
          case round =>
            obtain ⟨kk, lm, hkk, rfl, hlm, hM, hKp, hz⟩ := hrel
            have MM := Lib.hid hM
            have KK := Lib.hid hKp
            have ZZ := Lib.hid hz
            have HLM := Lib.hid hlm
            clear hM hKp hz hlm
            by_cases hlt : kk < q
            · as_aux_lemma =>
              obtain ⟨⟨pl, M⟩, hxl⟩ := at_some (l := L) (k := kk) (by rw [HQ.out]; exact hlt)
              obtain ⟨p, hp, hs1, hs2⟩ := outs_in (HL.out ▸ hxl)
              have hpn := (List.getElem?_eq_some_iff.1 hp).1
              rw [HLN.out] at hpn
              obtain ⟨hr1, hr2⟩ := sent_right (X.out.is.good.inv.each pl p hp) hs1
              have hz0 := ZZ.out kk (pl, M) (Nat.le_refl _) hxl
              have ha1 := MM.out.at_ pl 0 hz0
              have hfr := MM.out.free pl
              have WK := Lib.hid (W4.out.kp KK.out (by have := LT.out.2.2.2.1; omega))
              have OK := Lib.hid (O4.out.kp2 KK.out (fun g o e => Nat.ne_of_lt (LT.out.2.2.2.2 g o e (fun e0 => by rw [e0] at hxl; simp at hxl))))
              obtain ⟨go, hgo, _, hro⟩ := OK.out.at_ kk (pl, M) hxl
              have con : wr.cell? ⟨gl, pl * 61 + 2, none⟩ = some (.bool true) := hr2 ▸ (WK.out.at_ pl p hp) 2 (.bool p.on) rfl
              have cpl : wr.cell? ⟨go, kk * 11, none⟩ = some (.int .i64 ((pl : Nat) : Int)) := hro 0 (.int .i64 ((pl : Nat) : Int)) rfl
              have b0 : wr.cell? ⟨go, kk * 11 + 1, none⟩ = some (.int .i64 M.kind) := hro 1 (.int .i64 M.kind) rfl
              have b1 : wr.cell? ⟨go, kk * 11 + 2, none⟩ = some (.int .i64 M.flags) := hro 2 (.int .i64 M.flags) rfl
              have d1 : wr.cell? ⟨go, kk * 11 + 1 + 1, none⟩ = some (.int .i64 M.flags) := b1
              have b2 : wr.cell? ⟨go, kk * 11 + 3, none⟩ = some (.int .u64 M.root) := hro 3 (.int .u64 M.root) rfl
              have d2 : wr.cell? ⟨go, kk * 11 + 1 + 2, none⟩ = some (.int .u64 M.root) := b2
              have b3 : wr.cell? ⟨go, kk * 11 + 4, none⟩ = some (.int .u64 M.cost) := hro 4 (.int .u64 M.cost) rfl
              have d3 : wr.cell? ⟨go, kk * 11 + 1 + 3, none⟩ = some (.int .u64 M.cost) := b3
              have b4 : wr.cell? ⟨go, kk * 11 + 5, none⟩ = some (.int .u64 M.bridge) := hro 5 (.int .u64 M.bridge) rfl
              have d4 : wr.cell? ⟨go, kk * 11 + 1 + 4, none⟩ = some (.int .u64 M.bridge) := b4
              have b5 : wr.cell? ⟨go, kk * 11 + 6, none⟩ = some (.int .u64 M.port) := hro 6 (.int .u64 M.port) rfl
              have d5 : wr.cell? ⟨go, kk * 11 + 1 + 5, none⟩ = some (.int .u64 M.port) := b5
              have b6 : wr.cell? ⟨go, kk * 11 + 7, none⟩ = some (.int .i64 M.age) := hro 7 (.int .i64 M.age) rfl
              have d6 : wr.cell? ⟨go, kk * 11 + 1 + 6, none⟩ = some (.int .i64 M.age) := b6
              have b7 : wr.cell? ⟨go, kk * 11 + 8, none⟩ = some (.int .i64 M.max) := hro 8 (.int .i64 M.max) rfl
              have d7 : wr.cell? ⟨go, kk * 11 + 1 + 7, none⟩ = some (.int .i64 M.max) := b7
              have b8 : wr.cell? ⟨go, kk * 11 + 9, none⟩ = some (.int .i64 M.hello) := hro 9 (.int .i64 M.hello) rfl
              have d8 : wr.cell? ⟨go, kk * 11 + 1 + 8, none⟩ = some (.int .i64 M.hello) := b8
              have b9 : wr.cell? ⟨go, kk * 11 + 10, none⟩ = some (.int .i64 M.delay) := hro 10 (.int .i64 M.delay) rfl
              have d9 : wr.cell? ⟨go, kk * 11 + 1 + 9, none⟩ = some (.int .i64 M.delay) := b9
              have CRi := Lib.hid (show Calls Tryz.prog 26 #[.agg #[.int .i64 M.kind, .int .i64 M.flags, .int .u64 M.root, .int .u64 M.cost, .int .u64 M.bridge, .int .u64 M.port, .int .i64 M.age, .int .i64 M.max, .int .i64 M.hello, .int .i64 M.delay]] wr (fun e w'' => e = .returned (.bool true) ∧ Below wr.heap.size wr w'') from (show rightB M = true by rw [show M = (sendP U9 p).2.1 from hs2]; exact hr1) ▸ right_any M.kind M.flags M.root M.cost M.bridge M.port M.age M.max M.hello M.delay wr)
              obtain rfl := hgo
              have hpi : ((pl : Nat) : Int) < (n : Int) := by omega
              have hp0 : (0 : Int) ≤ ((pl : Nat) : Int) := by omega
              have hkq : ((kk : Nat) : Int) < (q : Int) := by omega
              have hk0 : (0 : Int) ≤ ((kk : Nat) : Int) := by omega
              have HXL := Lib.hid hxl
              clear hp hs1 hs2 hr1 hr2 hz0 hxl hro
              go_upto_region 19 with (fail)
              clear cpl
              go_upto_region 21 with ((go_at_call 26; (with_reducible refine CRi.out.mono ?_); rintro e w6 ⟨rfl, hb6⟩; have HB6 := Lib.hid hb6; clear hb6))
              have M6 := Lib.hid (MM.out.next HB6.out)
              have m0 := M6.out.at_ pl 0 (ZZ.out kk (pl, M) (Nat.le_refl _) HXL.out)
              have mf := M6.out.free pl
              clear con ha1 hfr CRi b0 b1 b2 b3 b4 b5 b6 b7 b8 b9 d1 d2 d3 d4 d5 d6 d7 d8 d9
              go_upto_region 22 with (fail)
              obtain ⟨W7, hW7⟩ : ∃ W, w6.setCell ⟨gm, pl, none⟩ (.int .i64 1) = W := ⟨_, rfl⟩
              refine wp_to (W := W7) (by exact hW7.symm) ?_
              have M7 := Lib.hid (show MRow W7 gm (lm.set pl 1) from hW7 ▸ M6.out.set (by rw [HLM.out]; exact hpn) 1)
              have K7 := Lib.hid (show Kp gm w4 W7 from hW7 ▸ (KK.out.belowB (HB6.out.mono KK.out.size)).trans' (kp_setCell pl _))
              have m1 := M7.out.at_ pl 1 (by rw [List.getElem?_set_self (by rw [HLM.out]; exact hpn)])
              clear m0 mf hW7 M6 HB6
              go_wp2_with fail
              refine ⟨⟨kk + 1, lm.set pl 1, by omega, by go_num, by rw [List.length_set]; exact HLM.out, M7.out, K7.out, fun j z hj hzj => ?_⟩, by simp [RowKit.intOf]; omega⟩
              have hne := outs_apart (HL.out ▸ HXL.out) (HL.out ▸ hzj) (show kk < j by omega)
              rw [List.getElem?_set_ne hne]
              exact ZZ.out j z (by omega) hzj
            · as_aux_lemma =>
              obtain rfl : kk = q := by omega
              have X5 := Lib.hid (X4.out.kp KK.out LT.out.1 LT.out.2.1 LT.out.2.2.1)
              have SF5 := Lib.hid (show AllSafe (sendX 9 U9 x).l ∧ (sendX 9 U9 x).l.map Pt.id = S.map Su.id from ⟨run_safe _ _ _, ((run_ids _ _ _).trans (ids_sent _ _)).trans SF.out.2⟩)
              obtain ⟨X2, hX2⟩ : ∃ X2, sendX 9 U9 x = X2 := ⟨_, rfl⟩
              rw [hX2] at X5 SF5
              obtain ⟨wE, hwE⟩ : ∃ wE : World, wE = wr := ⟨_, rfl⟩
              rw [← hwE] at X5
              rw [← hwE]
              clear hwE hX2 MM KK ZZ HLM LT X4 W4 O4 M4 HL HQ SF X HGL
              clear wr
              have CPo := Lib.hid (ports15_w xb g3 cap3 mb (j + 1 + 1) 9 U9 X2 wE X5.out.is)
              have hln2 : X2.l.length = n := by have := congrArg List.length SF5.out.2; rw [List.length_map, List.length_map] at this; rw [this]; exact HN.out
              rw [hln2] at CPo
              have HLN2 := Lib.hid hln2
              clear hln2
              go_upto_region 27 with (go_at_call 23; (with_reducible refine CPo.out.mono ?_); rintro e w8 ⟨gp, capp, rfl, hcp, hgp, hwp, hb8⟩; have W8 := Lib.hid hwp; have X8 := Lib.hid (X5.out.next hb8); clear hwp hb8 hcp hgp)
              clear X5 CPo
              go_wp2_with fail
              go_loopw [13, 15] (fun r v wr => SafIn X2.l n w8 r v wr) (fun _ v _ => n - (RowKit.intOf v).toNat)
              case atStart => exact ⟨0, Nat.zero_le _, rfl, Below.refl _ _, .inl rfl⟩
              case round =>
                obtain ⟨kk, hkk, rfl, hbb, hroot⟩ := hrel
                have BB := Lib.hid hbb
                by_cases hlt : kk < n
                · obtain ⟨p, hp⟩ := at_some (l := X2.l) (k := kk) (by rw [HLN2.out]; exact hlt)
                  obtain ⟨s, hs, hsid⟩ := id_at SF5.out.2 hp
                  obtain ⟨sa, so, rfl, _, hsr⟩ := ((HSR.out.next X8.out.below).next hbb).at_ kk s hs
                  have hki : ((kk : Nat) : Int) < (n : Int) := by omega
                  have hk0 : (0 : Int) ≤ ((kk : Nat) : Int) := by omega
                  have hP := range_next (W8.out.at_ kk p hp) W8.out.lt hbb
                  have q0 : wr.cell? ⟨gp, kk * 61, none⟩ = some (.int .u64 p.id) := hP 0 (.int .u64 p.id) rfl
                  have qs : wr.cell? ⟨sa, so + kk * 3, none⟩ = some (.int .u64 p.id) := hsid ▸ hsr 0 (.int .u64 s.id) rfl
                  have q23 : wr.cell? ⟨gp, kk * 61 + 23, none⟩ = some (.int .i64 p.selected) := hP 23 (.int .i64 p.selected) rfl
                  have q24 : wr.cell? ⟨gp, kk * 61 + 24, none⟩ = some (.bool p.ready) := hP 24 (.bool p.ready) rfl
                  have q27 : wr.cell? ⟨gp, kk * 61 + 27, none⟩ = some (.bool p.learn) := hP 27 (.bool p.learn) rfl
                  have q28 : wr.cell? ⟨gp, kk * 61 + 28, none⟩ = some (.bool p.learning) := hP 28 (.bool p.learning) rfl
                  have q29 : wr.cell? ⟨gp, kk * 61 + 29, none⟩ = some (.bool p.forward) := hP 29 (.bool p.forward) rfl
                  have q30 : wr.cell? ⟨gp, kk * 61 + 30, none⟩ = some (.bool p.forwarding) := hP 30 (.bool p.forwarding) rfl
                  have hsafe := SF5.out.1 kk p hp
                  have ONEK := Lib.hid (fun i p' (hi : i < kk) (hp' : X2.l[i]? = some p') (hr' : rootB p' = true) (hr : rootB p = true) => show False by have := X8.out.is.good.inv.one i kk p' p hp' hp hr' hr; omega)
                  have HPK := Lib.hid hp
                  obtain ⟨pid, hpid⟩ : ∃ z, p.id = z := ⟨_, rfl⟩
                  rw [hpid] at q0 qs
                  clear hP hs hsr hsid hbb hpid
                  have hs3 : (p.forwarding = true ∧ p.learning = true ∧ p.forward = true ∧ p.learn = true) ∨ (p.forwarding = false ∧ p.learning = true ∧ p.learn = true) ∨ (p.forwarding = false ∧ p.learning = false) := by
                    unfold safeB at hsafe
                    revert hsafe
                    cases p.forwarding <;> cases p.learning <;> cases p.forward <;> cases p.learn <;> simp
                  clear hsafe
                  rcases hs3 with ⟨e1, e2, e3, e4⟩ | ⟨e1, e2, e3⟩ | ⟨e1, e2⟩
                  · as_aux_lemma =>
                    rw [e1] at q30
                    rw [e2] at q28
                    rw [e3] at q29
                    rw [e4] at q27
                    clear e1 e2 e3 e4
                    go_upto_region 32 with (fail)
                    go_region
                    all_goals go_upto_region 34 with (fail)
                    all_goals (by_cases hsel : p.selected = 1)
                    all_goals first
                      | (have g1 := decide_eq_false hsel; go_wp2_with fail; exact ⟨⟨kk + 1, by omega, by go_num, BB.out.drew, sin_keep hroot⟩, by simp [RowKit.intOf]; omega⟩)
                      | (cases hrd : p.ready with
                         | false =>
                           rw [hsel] at q23
                           rw [hrd] at q24
                           go_wp2_with fail
                           exact ⟨⟨kk + 1, by omega, by go_num, BB.out.drew, sin_keep hroot⟩, by simp [RowKit.intOf]; omega⟩
                         | true =>
                           have hrt : rootB p = true := by unfold rootB; rw [hsel, hrd]; rfl
                           rw [hsel] at q23
                           rw [hrd] at q24
                           rcases hroot with rfl | ⟨_, i, p', hi, hp', hr'⟩
                           · go_wp2_with fail
                             exact ⟨⟨kk + 1, by omega, by go_num, BB.out.drew, .inr ⟨by go_num, kk, p, by omega, HPK.out, hrt⟩⟩, by simp [RowKit.intOf]; omega⟩
                           · exact (ONEK.out i p' hi hp' hr' hrt).elim)
                  · as_aux_lemma =>
                    rw [e1] at q30
                    rw [e2] at q28
                    rw [e3] at q27
                    clear e1 e2 e3
                    go_upto_region 32 with (fail)
                    go_region
                    all_goals go_upto_region 34 with (fail)
                    all_goals (by_cases hsel : p.selected = 1)
                    all_goals first
                      | (have g1 := decide_eq_false hsel; go_wp2_with fail; exact ⟨⟨kk + 1, by omega, by go_num, BB.out.drew, sin_keep hroot⟩, by simp [RowKit.intOf]; omega⟩)
                      | (cases hrd : p.ready with
                         | false =>
                           rw [hsel] at q23
                           rw [hrd] at q24
                           go_wp2_with fail
                           exact ⟨⟨kk + 1, by omega, by go_num, BB.out.drew, sin_keep hroot⟩, by simp [RowKit.intOf]; omega⟩
                         | true =>
                           have hrt : rootB p = true := by unfold rootB; rw [hsel, hrd]; rfl
                           rw [hsel] at q23
                           rw [hrd] at q24
                           rcases hroot with rfl | ⟨_, i, p', hi, hp', hr'⟩
                           · go_wp2_with fail
                             exact ⟨⟨kk + 1, by omega, by go_num, BB.out.drew, .inr ⟨by go_num, kk, p, by omega, HPK.out, hrt⟩⟩, by simp [RowKit.intOf]; omega⟩
                           · exact (ONEK.out i p' hi hp' hr' hrt).elim)
                  · as_aux_lemma =>
                    rw [e1] at q30
                    rw [e2] at q28
                    clear e1 e2
                    go_upto_region 32 with (fail)
                    go_region
                    all_goals go_upto_region 34 with (fail)
                    all_goals (by_cases hsel : p.selected = 1)
                    all_goals first
                      | (have g1 := decide_eq_false hsel; go_wp2_with fail; exact ⟨⟨kk + 1, by omega, by go_num, BB.out.drew, sin_keep hroot⟩, by simp [RowKit.intOf]; omega⟩)
                      | (cases hrd : p.ready with
                         | false =>
                           rw [hsel] at q23
                           rw [hrd] at q24
                           go_wp2_with fail
                           exact ⟨⟨kk + 1, by omega, by go_num, BB.out.drew, sin_keep hroot⟩, by simp [RowKit.intOf]; omega⟩
                         | true =>
                           have hrt : rootB p = true := by unfold rootB; rw [hsel, hrd]; rfl
                           rw [hsel] at q23
                           rw [hrd] at q24
                           rcases hroot with rfl | ⟨_, i, p', hi, hp', hr'⟩
                           · go_wp2_with fail
                             exact ⟨⟨kk + 1, by omega, by go_num, BB.out.drew, .inr ⟨by go_num, kk, p, by omega, HPK.out, hrt⟩⟩, by simp [RowKit.intOf]; omega⟩
                           · exact (ONEK.out i p' hi hp' hr' hrt).elim)
                · as_aux_lemma =>
                  obtain rfl : kk = n := by omega
                  have XZ := Lib.hid (X8.out.next hbb)
                  clear X8 W8 BB hbb HLN2
                  rcases hroot with rfl | ⟨rfl, _⟩
                  all_goals go_wp2_with fail
                  all_goals exact ⟨⟨j + 1, g3, cap3, X2, by omega, by go_num, XZ.out, SF5.out.1, SF5.out.2⟩, by simp [RowKit.intOf]; omega⟩
        · as_aux_lemma =>
          obtain ⟨X2, hX2⟩ : ∃ X2, doX 9 U9 x y = X2 := ⟨_, rfl⟩
          have SF5 := Lib.hid (show AllSafe X2.l ∧ X2.l.map Pt.id = S.map Su.id from hX2 ▸ ⟨safe_do SF.out.1, ids_do.trans SF.out.2⟩)
          have CD := Lib.hid (hX2 ▸ does15_w xb g1 cap1 mb (j + 1) 9 U9 x y wr X.out.is (X.out.roles HT.out) nine (by omega) hyk)
          clear hX2 hyk
          go_upto_region 24 with (fail)
          clear cK
          go_upto_region 25 with (first
            | (with_reducible refine wpList_act rfl _ rfl _ _ rfl y HY.out ?_)
            | (go_at_call 27; (with_reducible refine CD.out.mono ?_); rintro e wE ⟨rfl, ha5⟩; obtain ⟨g3, cap3, hx5, _⟩ := X.out.act ha5; have X5 := Lib.hid hx5; clear hx5 ha5))
          clear X CD HY SF
          have CPo := Lib.hid (ports15_w xb g3 cap3 mb (j + 1 + 1) 9 U9 X2 wE X5.out.is)
          have hln2 : X2.l.length = n := by have := congrArg List.length SF5.out.2; rw [List.length_map, List.length_map] at this; rw [this]; exact HN.out
          rw [hln2] at CPo
          have HLN2 := Lib.hid hln2
          clear hln2
          go_upto_region 27 with (go_at_call 23; (with_reducible refine CPo.out.mono ?_); rintro e w8 ⟨gp, capp, rfl, hcp, hgp, hwp, hb8⟩; have W8 := Lib.hid hwp; have X8 := Lib.hid (X5.out.next hb8); clear hwp hb8 hcp hgp)
          clear X5 CPo
          go_wp2_with fail
          go_loopw [13, 15] (fun r v wr => SafIn X2.l n w8 r v wr) (fun _ v _ => n - (RowKit.intOf v).toNat)
          case atStart => exact ⟨0, Nat.zero_le _, rfl, Below.refl _ _, .inl rfl⟩
          case round =>
            obtain ⟨kk, hkk, rfl, hbb, hroot⟩ := hrel
            have BB := Lib.hid hbb
            by_cases hlt : kk < n
            · obtain ⟨p, hp⟩ := at_some (l := X2.l) (k := kk) (by rw [HLN2.out]; exact hlt)
              obtain ⟨s, hs, hsid⟩ := id_at SF5.out.2 hp
              obtain ⟨sa, so, rfl, _, hsr⟩ := ((HSR.out.next X8.out.below).next hbb).at_ kk s hs
              have hki : ((kk : Nat) : Int) < (n : Int) := by omega
              have hk0 : (0 : Int) ≤ ((kk : Nat) : Int) := by omega
              have hP := range_next (W8.out.at_ kk p hp) W8.out.lt hbb
              have q0 : wr.cell? ⟨gp, kk * 61, none⟩ = some (.int .u64 p.id) := hP 0 (.int .u64 p.id) rfl
              have qs : wr.cell? ⟨sa, so + kk * 3, none⟩ = some (.int .u64 p.id) := hsid ▸ hsr 0 (.int .u64 s.id) rfl
              have q23 : wr.cell? ⟨gp, kk * 61 + 23, none⟩ = some (.int .i64 p.selected) := hP 23 (.int .i64 p.selected) rfl
              have q24 : wr.cell? ⟨gp, kk * 61 + 24, none⟩ = some (.bool p.ready) := hP 24 (.bool p.ready) rfl
              have q27 : wr.cell? ⟨gp, kk * 61 + 27, none⟩ = some (.bool p.learn) := hP 27 (.bool p.learn) rfl
              have q28 : wr.cell? ⟨gp, kk * 61 + 28, none⟩ = some (.bool p.learning) := hP 28 (.bool p.learning) rfl
              have q29 : wr.cell? ⟨gp, kk * 61 + 29, none⟩ = some (.bool p.forward) := hP 29 (.bool p.forward) rfl
              have q30 : wr.cell? ⟨gp, kk * 61 + 30, none⟩ = some (.bool p.forwarding) := hP 30 (.bool p.forwarding) rfl
              have hsafe := SF5.out.1 kk p hp
              have ONEK := Lib.hid (fun i p' (hi : i < kk) (hp' : X2.l[i]? = some p') (hr' : rootB p' = true) (hr : rootB p = true) => show False by have := X8.out.is.good.inv.one i kk p' p hp' hp hr' hr; omega)
              have HPK := Lib.hid hp
              obtain ⟨pid, hpid⟩ : ∃ z, p.id = z := ⟨_, rfl⟩
              rw [hpid] at q0 qs
              clear hP hs hsr hsid hbb hpid
              have hs3 : (p.forwarding = true ∧ p.learning = true ∧ p.forward = true ∧ p.learn = true) ∨ (p.forwarding = false ∧ p.learning = true ∧ p.learn = true) ∨ (p.forwarding = false ∧ p.learning = false) := by
                unfold safeB at hsafe
                revert hsafe
                cases p.forwarding <;> cases p.learning <;> cases p.forward <;> cases p.learn <;> simp
              clear hsafe
              rcases hs3 with ⟨e1, e2, e3, e4⟩ | ⟨e1, e2, e3⟩ | ⟨e1, e2⟩
              · as_aux_lemma =>
                rw [e1] at q30
                rw [e2] at q28
                rw [e3] at q29
                rw [e4] at q27
                clear e1 e2 e3 e4
                go_upto_region 32 with (fail)
                go_region
                all_goals go_upto_region 34 with (fail)
                all_goals (by_cases hsel : p.selected = 1)
                all_goals first
                  | (have g1 := decide_eq_false hsel; go_wp2_with fail; exact ⟨⟨kk + 1, by omega, by go_num, BB.out.drew, sin_keep hroot⟩, by simp [RowKit.intOf]; omega⟩)
                  | (cases hrd : p.ready with
                     | false =>
                       rw [hsel] at q23
                       rw [hrd] at q24
                       go_wp2_with fail
                       exact ⟨⟨kk + 1, by omega, by go_num, BB.out.drew, sin_keep hroot⟩, by simp [RowKit.intOf]; omega⟩
                     | true =>
                       have hrt : rootB p = true := by unfold rootB; rw [hsel, hrd]; rfl
                       rw [hsel] at q23
                       rw [hrd] at q24
                       rcases hroot with rfl | ⟨_, i, p', hi, hp', hr'⟩
                       · go_wp2_with fail
                         exact ⟨⟨kk + 1, by omega, by go_num, BB.out.drew, .inr ⟨by go_num, kk, p, by omega, HPK.out, hrt⟩⟩, by simp [RowKit.intOf]; omega⟩
                       · exact (ONEK.out i p' hi hp' hr' hrt).elim)
              · as_aux_lemma =>
                rw [e1] at q30
                rw [e2] at q28
                rw [e3] at q27
                clear e1 e2 e3
                go_upto_region 32 with (fail)
                go_region
                all_goals go_upto_region 34 with (fail)
                all_goals (by_cases hsel : p.selected = 1)
                all_goals first
                  | (have g1 := decide_eq_false hsel; go_wp2_with fail; exact ⟨⟨kk + 1, by omega, by go_num, BB.out.drew, sin_keep hroot⟩, by simp [RowKit.intOf]; omega⟩)
                  | (cases hrd : p.ready with
                     | false =>
                       rw [hsel] at q23
                       rw [hrd] at q24
                       go_wp2_with fail
                       exact ⟨⟨kk + 1, by omega, by go_num, BB.out.drew, sin_keep hroot⟩, by simp [RowKit.intOf]; omega⟩
                     | true =>
                       have hrt : rootB p = true := by unfold rootB; rw [hsel, hrd]; rfl
                       rw [hsel] at q23
                       rw [hrd] at q24
                       rcases hroot with rfl | ⟨_, i, p', hi, hp', hr'⟩
                       · go_wp2_with fail
                         exact ⟨⟨kk + 1, by omega, by go_num, BB.out.drew, .inr ⟨by go_num, kk, p, by omega, HPK.out, hrt⟩⟩, by simp [RowKit.intOf]; omega⟩
                       · exact (ONEK.out i p' hi hp' hr' hrt).elim)
              · as_aux_lemma =>
                rw [e1] at q30
                rw [e2] at q28
                clear e1 e2
                go_upto_region 32 with (fail)
                go_region
                all_goals go_upto_region 34 with (fail)
                all_goals (by_cases hsel : p.selected = 1)
                all_goals first
                  | (have g1 := decide_eq_false hsel; go_wp2_with fail; exact ⟨⟨kk + 1, by omega, by go_num, BB.out.drew, sin_keep hroot⟩, by simp [RowKit.intOf]; omega⟩)
                  | (cases hrd : p.ready with
                     | false =>
                       rw [hsel] at q23
                       rw [hrd] at q24
                       go_wp2_with fail
                       exact ⟨⟨kk + 1, by omega, by go_num, BB.out.drew, sin_keep hroot⟩, by simp [RowKit.intOf]; omega⟩
                     | true =>
                       have hrt : rootB p = true := by unfold rootB; rw [hsel, hrd]; rfl
                       rw [hsel] at q23
                       rw [hrd] at q24
                       rcases hroot with rfl | ⟨_, i, p', hi, hp', hr'⟩
                       · go_wp2_with fail
                         exact ⟨⟨kk + 1, by omega, by go_num, BB.out.drew, .inr ⟨by go_num, kk, p, by omega, HPK.out, hrt⟩⟩, by simp [RowKit.intOf]; omega⟩
                       · exact (ONEK.out i p' hi hp' hr' hrt).elim)
            · as_aux_lemma =>
              obtain rfl : kk = n := by omega
              have XZ := Lib.hid (X8.out.next hbb)
              clear X8 W8 BB hbb HLN2
              rcases hroot with rfl | ⟨rfl, _⟩
              all_goals go_wp2_with fail
              all_goals exact ⟨⟨j + 1, g3, cap3, X2, by omega, by go_num, XZ.out, SF5.out.1, SF5.out.2⟩, by simp [RowKit.intOf]; omega⟩
      · obtain rfl : j = m := by omega
        have BX := Lib.hid X.out.below
        clear X SF
        go_wp2_with fail
        go_ret
        exact ⟨rfl, BX.out⟩
end Go.Proofs.YtldobcfejldbiaaGreatDoor
