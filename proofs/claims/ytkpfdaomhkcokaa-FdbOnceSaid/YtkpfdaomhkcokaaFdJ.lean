/-
  Layer 7: remove, Age, Flush.
-/
import Derived.Test.YtkpfdaomhkcokaaFdI
namespace Go.Proofs.Ytkpfdaomhkcokaa
set_option linter.unusedVariables false
set_option linter.unusedSimpArgs false
open Go.RowKit Go.Maps Dm

theorem cell_same {w w' : World} {b : Nat} (h : w'.heap[b]? = w.heap[b]?) (o : Nat) : w'.cell? ⟨b, o, none⟩ = w.cell? ⟨b, o, none⟩ := by simp only [World.cell?, h]
theorem Row.kept2 {w w' : World} {a : Option Addr} {l : List En} {tb mb : Nat} (h : Row w a l) (hk : Kept2 tb mb w w') (hg : ∀ g, a = some g → g.block ≠ tb ∧ g.block ≠ mb) : Row w' a l :=
  ⟨h.few, fun j x hx => by
    obtain ⟨g, o, e, hlt, k0, k1, k2, k3, k4⟩ := h.at_ j x hx
    have hb := hk.block g hlt (hg _ e).1 (hg _ e).2
    exact ⟨g, o, e, Nat.lt_of_lt_of_le hlt hk.size, (cell_same hb _).trans k0, (cell_same hb _).trans k1, (cell_same hb _).trans k2, (cell_same hb _).trans k3, (cell_same hb _).trans k4⟩⟩

/-- Behind k rounds. -/
def remJ (st : En → Bool) (l : List En) (k : Nat) : List En := (l.take k).filter st ++ l.drop k
theorem remJ_start (st : En → Bool) (l : List En) : remJ st l 0 = l := by simp [remJ]
theorem remJ_end (st : En → Bool) (l : List En) : remJ st l l.length = l.filter st := by simp [remJ]
theorem remJ_sub (st : En → Bool) (l : List En) (k : Nat) : (remJ st l k).Sublist l := by
  have h := List.Sublist.append (List.filter_sublist (p := st) (l := l.take k)) (List.Sublist.refl (l.drop k))
  rw [List.take_append_drop] at h
  exact h
theorem remJ_stay {st : En → Bool} {l : List En} {k : Nat} {x : En} (hx : l[k]? = some x) (h : st x = true) : remJ st l (k + 1) = remJ st l k ∧ ((l.take (k + 1)).filter st).length = ((l.take k).filter st).length + 1 := by
  obtain ⟨hk, rfl⟩ := List.getElem?_eq_some_iff.1 hx
  have e : (l.take (k + 1)).filter st = (l.take k).filter st ++ [l[k]] := by rw [take_succ_at hx, List.filter_append]; simp [h]
  unfold remJ
  rw [e, List.drop_eq_getElem_cons hk]
  simp
theorem remJ_go {st : En → Bool} {l : List En} {k : Nat} {x : En} (hs : Sorted l) (hx : l[k]? = some x) (h : st x = false) : remJ st l (k + 1) = dropE (remJ st l k) x.key ∧ ((l.take (k + 1)).filter st).length = ((l.take k).filter st).length := by
  obtain ⟨hk, rfl⟩ := List.getElem?_eq_some_iff.1 hx
  have e : (l.take (k + 1)).filter st = (l.take k).filter st := by rw [take_succ_at hx, List.filter_append]; simp [h]
  refine ⟨?_, by rw [e]⟩
  have hS : Sorted (remJ st l k) := List.Pairwise.sublist (remJ_sub st l k) hs
  unfold remJ at hS ⊢
  rw [e]
  rw [List.drop_eq_getElem_cons hk] at hS ⊢
  obtain ⟨_, h2, h3⟩ := List.pairwise_append.1 hS
  have h2' := (List.pairwise_cons.1 h2).1
  unfold dropE
  have e1 : ((l.take k).filter st).filter (fun x => !decide (x.key = l[k].key)) = (l.take k).filter st := List.filter_eq_self.2 fun y hy => by
    have := lt_ne (h3 y hy _ List.mem_cons_self)
    simp [this]
  have e2 : (l.drop (k + 1)).filter (fun x => !decide (x.key = l[k].key)) = l.drop (k + 1) := List.filter_eq_self.2 fun y hy => by
    have h4 : ¬ y.key = l[k].key := fun e => lt_ne (h2' y hy) e.symm
    show (!decide (y.key = l[k].key)) = true
    rw [decide_eq_false h4]
    rfl
  rw [List.filter_append, List.filter_cons, e1, e2]
  simp
theorem remJ_mem {st : En → Bool} {l : List En} {k : Nat} {x : En} (hx : l[k]? = some x) : x ∈ remJ st l k := by
  obtain ⟨hk, rfl⟩ := List.getElem?_eq_some_iff.1 hx
  unfold remJ
  exact List.mem_append_right _ (by rw [List.drop_eq_getElem_cons hk]; exact List.mem_cons_self)
theorem sub_ok {room : Nat} {t : Tb} (h : t.ok room) {l : List En} (hs : l.Sublist t.l) : Tb.ok room ⟨l, t.learned⟩ :=
  ⟨List.Pairwise.sublist hs h.sorted, Nat.le_trans hs.length_le h.room, fun x hx => h.each x (hs.subset hx)⟩

/-- Behind k rounds, the world. -/
def JInv (st : En → Bool) (t : Tb) (tb mb room n : Nat) (a : Option Addr) (w2 : World) (c i : Value) (wr : World) : Prop :=
  ∃ k : Nat, k ≤ n ∧ i = .int .i64 (k : Nat) ∧ c = .int .i64 ((k : Int) - ((t.l.take k).filter st).length) ∧ IsTab wr tb mb room ⟨remJ st t.l k, t.learned⟩ ∧ Kept2 tb mb w2 wr
theorem taken_le (st : En → Bool) (l : List En) (k : Nat) : ((l.take k).filter st).length ≤ k := Nat.le_trans (List.length_filter_le _ _) (by rw [List.length_take]; omega)

set_option maxHeartbeats 2000000 in
theorem removeA (tb mb room : Nat) (t : Tb) (cb1 cb2 : Value) (st : En → Bool) (w : World) (h : IsTab w tb mb room t)
    (hgo : ∀ x ∈ t.l, ∀ w', Kept2 tb mb w w' → Calls Try.prog 39 #[ev x, cb1, cb2] w' fun e w'' => e = .returned (.bool (!st x)) ∧ Grown w' w'') :
    Calls Try.prog 38 #[.pointer (some ⟨tb, 0, none⟩), .func (.func 39) #[] #[cb1, cb2]] w fun e w' => e = .returned (.int .i64 ((t.l.length : Int) - (t.l.filter st).length)) ∧ IsTab w' tb mb room ⟨t.l.filter st, t.learned⟩ ∧ Kept2 tb mb w w' := by
  have hL := list_w tb mb room t w h
  have h1000 : t.l.length ≤ 1000 := h.map.few
  have hltb := h.blk.lt
  have hlmb := h.map.lt
  have HH := Lib.hid h
  have HG := Lib.hid hgo
  clear h hgo
  obtain ⟨n, hn⟩ : ∃ n, t.l.length = n := ⟨_, rfl⟩
  have HN := Lib.hid hn
  rw [hn] at hL h1000 ⊢
  obtain ⟨K, hK⟩ : ∃ K, (t.l.filter st).length = K := ⟨_, rfl⟩
  have HK := Lib.hid hK
  rw [hK]
  clear hn hK
  go_enter Try.func38, Try.ntmps38
  go_wp2_with (go_at_call 10; refine hL.mono ?_; clear hL; rintro e w2 ⟨a, cap, rfl, hcap, hr, hfr, hb⟩)
  have hsz := hb.size
  have hga : ∀ g, a = some g → g.block ≠ tb ∧ g.block ≠ mb := fun g e => by
    have := (hfr g e).2.2.1
    exact ⟨by omega, by omega⟩
  have HR := Lib.hid hr
  have HB := Lib.hid hb
  have HA := Lib.hid hga
  clear hr hfr hb hga
  go_loopw [5, 11] (fun c i wr => JInv st t tb mb room n a w2 c i wr) (fun _ i _ => n - (intOf i).toNat)
  case atStart => exact ⟨0, Nat.zero_le _, rfl, by simp, by rw [remJ_start]; exact HH.out.next HB.out, Kept2.refl _ _ _⟩
  case round =>
    obtain ⟨k, hk, rfl, rfl, hT, hK2⟩ := hrel
    by_cases hkn : k < n
    · have hn := HN.out
      obtain ⟨⟨v, m, p, hh, f⟩, hx⟩ := at_some (l := t.l) (k := k) (by omega)
      obtain ⟨g, o, rfl, hgl, q0, q1, q2, q3, q4⟩ := (HR.out.kept2 hK2 HA.out).at_ k _ hx
      simp only at q0 q1 q2 q3 q4
      have htl := taken_le st t.l k
      have hK0 : Kept2 tb mb w wr := (kept2_below HB.out).trans hK2
      have HX := Lib.hid hx
      have HT := Lib.hid hT
      have hwz := hT.blk.lt
      obtain ⟨C, hC⟩ : ∃ C, ((t.l.take k).filter st).length = C := ⟨_, rfl⟩
      rw [hC] at htl ⊢
      obtain ⟨W, hW⟩ : ∃ W, W = wr.alloc (.cells #[.int .i64 v, .string m, .int .i64 p, .int .i64 hh, .bool f] 41) := ⟨_, rfl⟩
      have hWB : Below wr.heap.size wr W := by rw [hW]; exact below_box _ _
      have kW : EBlk W wr.heap.size ⟨v, m, p, hh, f⟩ := by rw [hW]; exact eblk_new _ _ _ _ _ _
      have hcall := HG.out _ (List.mem_of_getElem? hx) W (hK0.trans (kept2_below hWB))
      have HKK := Lib.hid (hK2.trans (kept2_below hWB))
      have HTW := Lib.hid (hT.next hWB)
      clear hx hT hK0 hn hWB
      cases hst : st ⟨v, m, p, hh, f⟩ with
      | true =>
        rw [hst] at hcall
        have HS := Lib.hid (remJ_stay HX.out hst)
        clear hst
        go_wp2_with (go_at_call 39; rw [← hW]; refine hcall.mono ?_; clear hcall; rintro e w3 ⟨rfl, hG3⟩)
        obtain ⟨r1, r2⟩ := HS.out
        refine ⟨⟨k + 1, by omega, by go_num, ?_, by rw [r1]; exact HTW.out.next hG3.below, HKK.out.trans (kept2_below hG3.below)⟩, by simp [intOf]; omega⟩
        rw [r2, hC]
        congr 1; omega
      | false =>
        rw [hst] at hcall
        have HS := Lib.hid (remJ_go HH.out.map.sorted HX.out hst)
        clear hst
        have hky : KyOk ⟨v, m⟩ := HH.out.map.keys _ (List.mem_of_getElem? HX.out)
        go_wp2_with (go_at_call 39; rw [← hW]; refine hcall.mono ?_; clear hcall; rintro e w3 ⟨rfl, hG3⟩; obtain ⟨b0, b1, b2, b3, b4⟩ := (kW.next hG3.below).cells)
        have hT3 := HTW.out.next hG3.below
        have k3 := kW.next hG3.below
        obtain ⟨n4, hn4⟩ : ∃ n4, n4 = wr.heap.size := ⟨_, rfl⟩
        rw [← hn4] at k3 ⊢
        clear b0 b1 b2 b3 b4 q0 q1 q2 q3 q4
        have S0 : (w3.cell? ⟨tb, 1, none⟩ = some (.map (some mb))) ∧ (w3.cell? ⟨n4, 0, none⟩ = some (.int .i64 v) ∧ w3.cell? ⟨n4, 1, none⟩ = some (.string m) ∧ w3.cell? ⟨n4, 2, none⟩ = some (.int .i64 p) ∧ w3.cell? ⟨n4, 3, none⟩ = some (.int .i64 hh) ∧ w3.cell? ⟨n4, 4, none⟩ = some (.bool f)) := ⟨hT3.blk.cells.2.1, k3.cells⟩
        have HC := Lib.hid (fun w' => placeOf_any ⟨v, m, p, hh, f⟩ w')
        have HT3 := Lib.hid hT3
        have HD := Lib.hid (fun (w' : World) (hb : Below w3.heap.size w3 w') => (hT3.next hb).map.drop_any v m hky)
        clear hT3 hn4 hW kW
        go_upto_region 6 with (fail)
        go_region_held3 (fun w' => (w'.cell? ⟨tb, 1, none⟩ = some (.map (some mb))) ∧ (w'.cell? ⟨n4, 0, none⟩ = some (.int .i64 v) ∧ w'.cell? ⟨n4, 1, none⟩ = some (.string m) ∧ w'.cell? ⟨n4, 2, none⟩ = some (.int .i64 p) ∧ w'.cell? ⟨n4, 3, none⟩ = some (.int .i64 hh) ∧ w'.cell? ⟨n4, 4, none⟩ = some (.bool f))) (first | exact S0 | exact T0 | exact T1) (first | (go_at_call 55; (with_reducible refine (HC.out _).mono ?_); rintro e y0 ⟨rfl, g0⟩; have G0 := ((Grown.refl w3).drew).trans g0; have hT0 := HT3.out.next G0.below; have k0 := k3.next G0.below; have T0 : (y0.cell? ⟨tb, 1, none⟩ = some (.map (some mb))) ∧ (y0.cell? ⟨n4, 0, none⟩ = some (.int .i64 v) ∧ y0.cell? ⟨n4, 1, none⟩ = some (.string m) ∧ y0.cell? ⟨n4, 2, none⟩ = some (.int .i64 p) ∧ y0.cell? ⟨n4, 3, none⟩ = some (.int .i64 hh) ∧ y0.cell? ⟨n4, 4, none⟩ = some (.bool f)) := ⟨hT0.blk.cells.2.1, k0.cells⟩; obtain ⟨y1, hrun, hmp1, hturn1⟩ := HD.out y0 G0.below; have hnm := eblk_ne_map k0 hT0.map; have kt1 := hT0.blk.same (mapTurned_other hturn1 hT0.blk.lt hT0.ne); have ke1 : EBlk y1 n4 ⟨v, m, p, hh, f⟩ := (mapTurned_other hturn1 k0.lt hnm).trans k0; have T1 : (y1.cell? ⟨tb, 1, none⟩ = some (.map (some mb))) ∧ (y1.cell? ⟨n4, 0, none⟩ = some (.int .i64 v) ∧ y1.cell? ⟨n4, 1, none⟩ = some (.string m) ∧ y1.cell? ⟨n4, 2, none⟩ = some (.int .i64 p) ∧ y1.cell? ⟨n4, 3, none⟩ = some (.int .i64 hh) ∧ y1.cell? ⟨n4, 4, none⟩ = some (.bool f)) := ⟨kt1.cells.2.1, ke1.cells⟩))
        all_goals go_wp2_with fail
        obtain ⟨r1, r2⟩ := HS.out
        have hsub := sub_ok HH.out.ok (remJ_sub st t.l (k + 1))
        have hmp2 : IsMp y1 mb (remJ st t.l (k + 1)) := by rw [r1]; exact hmp1
        refine ⟨⟨k + 1, by omega, by go_num, ?_, ⟨kt1, hmp2, hsub, hT0.room1, hT0.room64, hT0.n0⟩, ((HKK.out.trans (kept2_below hG3.below)).trans (kept2_below G0.below)).trans (kept2_turned hturn1)⟩, by simp [intOf]; omega⟩
        rw [r2, hC]
        go_num
    · obtain rfl : k = n := by omega
      have hn := HN.out
      have hK := HK.out
      have hC : ((t.l.take k).filter st).length = K := by rw [← hn, List.take_length, hK]
      have hT2 : IsTab wr tb mb room ⟨t.l.filter st, t.learned⟩ := by rw [← hn, remJ_end] at hT; exact hT
      have HT2 := Lib.hid hT2
      rw [hC]
      clear hT hT2 hC hK hn
      go_wp2
      go_ret
      exact ⟨rfl, HT2.out, (kept2_below HB.out).trans hK2⟩

set_option maxHeartbeats 2000000 in
theorem removeF (tb mb room : Nat) (t : Tb) (cb1 cb2 : Value) (st : En → Bool) (w : World) (h : IsTab w tb mb room t)
    (hgo : ∀ x ∈ t.l, ∀ w', Kept2 tb mb w w' → Calls Try.prog 43 #[ev x, cb1, cb2] w' fun e w'' => e = .returned (.bool (!st x)) ∧ Grown w' w'') :
    Calls Try.prog 38 #[.pointer (some ⟨tb, 0, none⟩), .func (.func 43) #[] #[cb1, cb2]] w fun e w' => e = .returned (.int .i64 ((t.l.length : Int) - (t.l.filter st).length)) ∧ IsTab w' tb mb room ⟨t.l.filter st, t.learned⟩ ∧ Kept2 tb mb w w' := by
  have hL := list_w tb mb room t w h
  have h1000 : t.l.length ≤ 1000 := h.map.few
  have hltb := h.blk.lt
  have hlmb := h.map.lt
  have HH := Lib.hid h
  have HG := Lib.hid hgo
  clear h hgo
  obtain ⟨n, hn⟩ : ∃ n, t.l.length = n := ⟨_, rfl⟩
  have HN := Lib.hid hn
  rw [hn] at hL h1000 ⊢
  obtain ⟨K, hK⟩ : ∃ K, (t.l.filter st).length = K := ⟨_, rfl⟩
  have HK := Lib.hid hK
  rw [hK]
  clear hn hK
  go_enter Try.func38, Try.ntmps38
  go_wp2_with (go_at_call 10; refine hL.mono ?_; clear hL; rintro e w2 ⟨a, cap, rfl, hcap, hr, hfr, hb⟩)
  have hsz := hb.size
  have hga : ∀ g, a = some g → g.block ≠ tb ∧ g.block ≠ mb := fun g e => by
    have := (hfr g e).2.2.1
    exact ⟨by omega, by omega⟩
  have HR := Lib.hid hr
  have HB := Lib.hid hb
  have HA := Lib.hid hga
  clear hr hfr hb hga
  go_loopw [5, 11] (fun c i wr => JInv st t tb mb room n a w2 c i wr) (fun _ i _ => n - (intOf i).toNat)
  case atStart => exact ⟨0, Nat.zero_le _, rfl, by simp, by rw [remJ_start]; exact HH.out.next HB.out, Kept2.refl _ _ _⟩
  case round =>
    obtain ⟨k, hk, rfl, rfl, hT, hK2⟩ := hrel
    by_cases hkn : k < n
    · have hn := HN.out
      obtain ⟨⟨v, m, p, hh, f⟩, hx⟩ := at_some (l := t.l) (k := k) (by omega)
      obtain ⟨g, o, rfl, hgl, q0, q1, q2, q3, q4⟩ := (HR.out.kept2 hK2 HA.out).at_ k _ hx
      simp only at q0 q1 q2 q3 q4
      have htl := taken_le st t.l k
      have hK0 : Kept2 tb mb w wr := (kept2_below HB.out).trans hK2
      have HX := Lib.hid hx
      have HT := Lib.hid hT
      have hwz := hT.blk.lt
      obtain ⟨C, hC⟩ : ∃ C, ((t.l.take k).filter st).length = C := ⟨_, rfl⟩
      rw [hC] at htl ⊢
      obtain ⟨W, hW⟩ : ∃ W, W = wr.alloc (.cells #[.int .i64 v, .string m, .int .i64 p, .int .i64 hh, .bool f] 41) := ⟨_, rfl⟩
      have hWB : Below wr.heap.size wr W := by rw [hW]; exact below_box _ _
      have kW : EBlk W wr.heap.size ⟨v, m, p, hh, f⟩ := by rw [hW]; exact eblk_new _ _ _ _ _ _
      have hcall := HG.out _ (List.mem_of_getElem? hx) W (hK0.trans (kept2_below hWB))
      have HKK := Lib.hid (hK2.trans (kept2_below hWB))
      have HTW := Lib.hid (hT.next hWB)
      clear hx hT hK0 hn hWB
      cases hst : st ⟨v, m, p, hh, f⟩ with
      | true =>
        rw [hst] at hcall
        have HS := Lib.hid (remJ_stay HX.out hst)
        clear hst
        go_wp2_with (go_at_call 43; rw [← hW]; refine hcall.mono ?_; clear hcall; rintro e w3 ⟨rfl, hG3⟩)
        obtain ⟨r1, r2⟩ := HS.out
        refine ⟨⟨k + 1, by omega, by go_num, ?_, by rw [r1]; exact HTW.out.next hG3.below, HKK.out.trans (kept2_below hG3.below)⟩, by simp [intOf]; omega⟩
        rw [r2, hC]
        congr 1; omega
      | false =>
        rw [hst] at hcall
        have HS := Lib.hid (remJ_go HH.out.map.sorted HX.out hst)
        clear hst
        have hky : KyOk ⟨v, m⟩ := HH.out.map.keys _ (List.mem_of_getElem? HX.out)
        go_wp2_with (go_at_call 43; rw [← hW]; refine hcall.mono ?_; clear hcall; rintro e w3 ⟨rfl, hG3⟩; obtain ⟨b0, b1, b2, b3, b4⟩ := (kW.next hG3.below).cells)
        have hT3 := HTW.out.next hG3.below
        have k3 := kW.next hG3.below
        obtain ⟨n4, hn4⟩ : ∃ n4, n4 = wr.heap.size := ⟨_, rfl⟩
        rw [← hn4] at k3 ⊢
        clear b0 b1 b2 b3 b4 q0 q1 q2 q3 q4
        have S0 : (w3.cell? ⟨tb, 1, none⟩ = some (.map (some mb))) ∧ (w3.cell? ⟨n4, 0, none⟩ = some (.int .i64 v) ∧ w3.cell? ⟨n4, 1, none⟩ = some (.string m) ∧ w3.cell? ⟨n4, 2, none⟩ = some (.int .i64 p) ∧ w3.cell? ⟨n4, 3, none⟩ = some (.int .i64 hh) ∧ w3.cell? ⟨n4, 4, none⟩ = some (.bool f)) := ⟨hT3.blk.cells.2.1, k3.cells⟩
        have HC := Lib.hid (fun w' => placeOf_any ⟨v, m, p, hh, f⟩ w')
        have HT3 := Lib.hid hT3
        have HD := Lib.hid (fun (w' : World) (hb : Below w3.heap.size w3 w') => (hT3.next hb).map.drop_any v m hky)
        clear hT3 hn4 hW kW
        go_upto_region 6 with (fail)
        go_region_held3 (fun w' => (w'.cell? ⟨tb, 1, none⟩ = some (.map (some mb))) ∧ (w'.cell? ⟨n4, 0, none⟩ = some (.int .i64 v) ∧ w'.cell? ⟨n4, 1, none⟩ = some (.string m) ∧ w'.cell? ⟨n4, 2, none⟩ = some (.int .i64 p) ∧ w'.cell? ⟨n4, 3, none⟩ = some (.int .i64 hh) ∧ w'.cell? ⟨n4, 4, none⟩ = some (.bool f))) (first | exact S0 | exact T0 | exact T1) (first | (go_at_call 55; (with_reducible refine (HC.out _).mono ?_); rintro e y0 ⟨rfl, g0⟩; have G0 := ((Grown.refl w3).drew).trans g0; have hT0 := HT3.out.next G0.below; have k0 := k3.next G0.below; have T0 : (y0.cell? ⟨tb, 1, none⟩ = some (.map (some mb))) ∧ (y0.cell? ⟨n4, 0, none⟩ = some (.int .i64 v) ∧ y0.cell? ⟨n4, 1, none⟩ = some (.string m) ∧ y0.cell? ⟨n4, 2, none⟩ = some (.int .i64 p) ∧ y0.cell? ⟨n4, 3, none⟩ = some (.int .i64 hh) ∧ y0.cell? ⟨n4, 4, none⟩ = some (.bool f)) := ⟨hT0.blk.cells.2.1, k0.cells⟩; obtain ⟨y1, hrun, hmp1, hturn1⟩ := HD.out y0 G0.below; have hnm := eblk_ne_map k0 hT0.map; have kt1 := hT0.blk.same (mapTurned_other hturn1 hT0.blk.lt hT0.ne); have ke1 : EBlk y1 n4 ⟨v, m, p, hh, f⟩ := (mapTurned_other hturn1 k0.lt hnm).trans k0; have T1 : (y1.cell? ⟨tb, 1, none⟩ = some (.map (some mb))) ∧ (y1.cell? ⟨n4, 0, none⟩ = some (.int .i64 v) ∧ y1.cell? ⟨n4, 1, none⟩ = some (.string m) ∧ y1.cell? ⟨n4, 2, none⟩ = some (.int .i64 p) ∧ y1.cell? ⟨n4, 3, none⟩ = some (.int .i64 hh) ∧ y1.cell? ⟨n4, 4, none⟩ = some (.bool f)) := ⟨kt1.cells.2.1, ke1.cells⟩))
        all_goals go_wp2_with fail
        obtain ⟨r1, r2⟩ := HS.out
        have hsub := sub_ok HH.out.ok (remJ_sub st t.l (k + 1))
        have hmp2 : IsMp y1 mb (remJ st t.l (k + 1)) := by rw [r1]; exact hmp1
        refine ⟨⟨k + 1, by omega, by go_num, ?_, ⟨kt1, hmp2, hsub, hT0.room1, hT0.room64, hT0.n0⟩, ((HKK.out.trans (kept2_below hG3.below)).trans (kept2_below G0.below)).trans (kept2_turned hturn1)⟩, by simp [intOf]; omega⟩
        rw [r2, hC]
        go_num
    · obtain rfl : k = n := by omega
      have hn := HN.out
      have hK := HK.out
      have hC : ((t.l.take k).filter st).length = K := by rw [← hn, List.take_length, hK]
      have hT2 : IsTab wr tb mb room ⟨t.l.filter st, t.learned⟩ := by rw [← hn, remJ_end] at hT; exact hT
      have HT2 := Lib.hid hT2
      rw [hC]
      clear hT hT2 hC hK hn
      go_wp2
      go_ret
      exact ⟨rfl, HT2.out, (kept2_below HB.out).trans hK2⟩

theorem OneI.kept2 {w w' : World} {b tb mb : Nat} {n : Int} (h : OneI w b n) (hk : Kept2 tb mb w w') (h1 : b ≠ tb) (h2 : b ≠ mb) : OneI w' b n := (hk.block b h.lt h1 h2).trans h
theorem two_boxes (w : World) (a b : Int) : OneI ((w.alloc (.cells #[.int .i64 a] 3)).alloc (.cells #[.int .i64 b] 3)) w.heap.size a ∧ OneI ((w.alloc (.cells #[.int .i64 a] 3)).alloc (.cells #[.int .i64 b] 3)) (w.heap.size + 1) b := by
  refine ⟨(onei_new w a).below (below_box _ _) (by simp), ?_⟩
  rw [← size_box w (.cells #[.int .i64 a] 3)]
  exact onei_new _ b

set_option maxHeartbeats 1000000 in
theorem age_w (tb mb room : Nat) (t : Tb) (now long : Int) (w : World) (h : IsTab w tb mb room t) (hn : -9223372036854775808 ≤ now ∧ now ≤ 9223372036854775807) :
    Calls Try.prog 16 #[.pointer (some ⟨tb, 0, none⟩), .int .i64 now, .int .i64 long] w fun e w' => e = .returned (.int .i64 (ageT t now long).2) ∧ IsTab w' tb mb room (ageT t now long).1 ∧ Kept2 tb mb w w' := by
  obtain ⟨o1, o2⟩ := two_boxes w now long
  have hb : Below w.heap.size w ((w.alloc (.cells #[.int .i64 now] 3)).alloc (.cells #[.int .i64 long] 3)) := bw_alloc (below_box _ _) _
  have h1 := h.blk.lt
  have h2 := h.map.lt
  have HR := removeA tb mb room t (.pointer (some ⟨w.heap.size, 0, none⟩)) (.pointer (some ⟨w.heap.size + 1, 0, none⟩)) (staysA now long) _ (h.next hb) (fun x hx w' hk => aged_any x _ _ now long w' hn (h.ok.each x hx).h0 (o1.kept2 hk (by omega) (by omega)) (o2.kept2 hk (by omega) (by omega)))
  clear h o1 o2
  have hmf : ∀ (fn : Fn) (first cap : Array Value) (w : World), (Instr.makeFunc fn first cap).run Try.prog w = .ok (.func fn first cap) w := fun _ _ _ _ => rfl
  unfold ageT
  obtain ⟨R, hR⟩ : ∃ R, ((t.l.length : Int) - (t.l.filter (staysA now long)).length) = R := ⟨_, rfl⟩
  rw [hR] at HR
  simp only [hR]
  go_enter Try.func16, Try.ntmps16
  go_wp2_with (go_at_call 38; refine HR.mono ?_; rintro e w1 ⟨rfl, hT, hK⟩)
  go_ret
  exact ⟨rfl, hT, (kept2_below hb).trans hK⟩

set_option maxHeartbeats 1000000 in
theorem flush_w (tb mb room : Nat) (t : Tb) (v p : Int) (w : World) (h : IsTab w tb mb room t) :
    Calls Try.prog 24 #[.pointer (some ⟨tb, 0, none⟩), .int .i64 v, .int .i64 p] w fun e w' => e = .returned (.int .i64 (flushT t v p).2) ∧ IsTab w' tb mb room (flushT t v p).1 ∧ Kept2 tb mb w w' := by
  obtain ⟨o1, o2⟩ := two_boxes w v p
  have hb : Below w.heap.size w ((w.alloc (.cells #[.int .i64 v] 3)).alloc (.cells #[.int .i64 p] 3)) := bw_alloc (below_box _ _) _
  have h1 := h.blk.lt
  have h2 := h.map.lt
  have HR := removeF tb mb room t (.pointer (some ⟨w.heap.size, 0, none⟩)) (.pointer (some ⟨w.heap.size + 1, 0, none⟩)) (staysF v p) _ (h.next hb) (fun x hx w' hk => flushed_any x _ _ v p w' (o1.kept2 hk (by omega) (by omega)) (o2.kept2 hk (by omega) (by omega)))
  clear h o1 o2
  have hmf : ∀ (fn : Fn) (first cap : Array Value) (w : World), (Instr.makeFunc fn first cap).run Try.prog w = .ok (.func fn first cap) w := fun _ _ _ _ => rfl
  unfold flushT
  obtain ⟨R, hR⟩ : ∃ R, ((t.l.length : Int) - (t.l.filter (staysF v p)).length) = R := ⟨_, rfl⟩
  rw [hR] at HR
  simp only [hR]
  go_enter Try.func24, Try.ntmps24
  go_wp2_with (go_at_call 38; refine HR.mono ?_; rintro e w1 ⟨rfl, hT, hK⟩)
  go_ret
  exact ⟨rfl, hT, (kept2_below hb).trans hK⟩
end Go.Proofs.Ytkpfdaomhkcokaa
