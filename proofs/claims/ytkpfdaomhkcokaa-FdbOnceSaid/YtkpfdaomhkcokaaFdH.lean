/-
  Layer 7: put, Learn, Fix, Drop, Find.
-/
import Derived.Test.YtkpfdaomhkcokaaFdG
namespace Go.Proofs.Ytkpfdaomhkcokaa
set_option linter.unusedVariables false
set_option linter.unusedSimpArgs false
open Go.RowKit Go.Maps Dm

theorem cloneLite_w (s : ByteArray) (w : World) (hs : s.size ≤ 1000) :
    Calls Try.prog 63 #[.string s] w fun e w' => e = .returned (.string s) ∧ Below w.heap.size w w' :=
  Go.Proofs.Any.stringslite_Clone Try.cloneS s w (by omega)
set_option maxHeartbeats 400000 in
theorem clone_w (s : ByteArray) (w : World) (hs : s.size ≤ 1000) :
    Calls Try.prog 57 #[.string s] w fun e w' => e = .returned (.string s) ∧ Below w.heap.size w w' := by
  go_enter Try.func57, Try.ntmps57
  go_wp2_with (go_at_call 63; refine (cloneLite_w s _ hs).mono ?_; rintro e w' ⟨rfl, hb⟩)
  go_ret
  exact ⟨rfl, hb⟩

theorem EBlk.set1 {w : World} {b : Nat} {v : Int} {m : ByteArray} {p h : Int} {f : Bool} (k : EBlk w b ⟨v, m, p, h, f⟩) : EBlk (w.setCell ⟨b, 1, none⟩ (.string m)) b ⟨v, m, p, h, f⟩ := by
  unfold EBlk at k ⊢
  obtain ⟨hlt, hk⟩ := Array.getElem?_eq_some_iff.1 k
  show (w.heap.modify b _)[b]? = _
  rw [Array.getElem?_eq_getElem (by rw [Array.size_modify]; exact hlt), Array.getElem_modify_self, hk]
  rfl

set_option maxHeartbeats 2000000 in
theorem put_w (tb mb room : Nat) (t : Tb) (x : En) (w : World) (h : IsTab w tb mb room t) (hx : x.ok) (hok : Tb.ok room ⟨putR t.l x, t.learned⟩) :
    Calls Try.prog 36 #[.pointer (some ⟨tb, 0, none⟩), ev x] w fun e w' => e = .returned (.tuple #[]) ∧ IsTab w' tb mb room ⟨putR t.l x, t.learned⟩ ∧ Kept2 tb mb w w' := by
  have hky : KyOk x.key := allOk_of (l := [x]) (fun y hy => by simp at hy; subst hy; exact hx) x (by simp)
  obtain ⟨v, m, p, hh, f⟩ := x
  have hm6 : m.size ≤ 1000 := by have := hx.mac; simp only at this; omega
  have hroom : (putR t.l ⟨v, m, p, hh, f⟩).length ≤ 1000 := by have := hok.room; have := h.room64; simp only at *; omega
  obtain ⟨W, hW⟩ : ∃ W, W = w.alloc (.cells #[.int .i64 v, .string m, .int .i64 p, .int .i64 hh, .bool f] 41) := ⟨_, rfl⟩
  have kW : EBlk W w.heap.size ⟨v, m, p, hh, f⟩ := by rw [hW]; exact eblk_new _ _ _ _ _ _
  have hWB : Below w.heap.size w W := by rw [hW]; exact below_box _ _
  have hTW := h.next hWB
  have lk := kW.lt
  have HTW := Lib.hid hTW
  have HWB := Lib.hid hWB
  have HH := Lib.hid h
  have hOk := Lib.hid hok
  have HCl := Lib.hid (clone_w m W hm6)
  obtain ⟨k0, k1, k2, k3, k4⟩ := kW.cells
  have hfw := kW.free 1
  clear h hTW hWB hok
  go_enter Try.func36, Try.ntmps36
  go_wp2_with (go_at_call 57; rw [← hW]; refine HCl.out.mono ?_; rintro e w1 ⟨rfl, hb1⟩; have q1 := (kW.next hb1).cells.2.1; have u1 := (kW.next hb1).free 1)
  obtain ⟨V, hV⟩ : ∃ V, V = w1.setCell ⟨w.heap.size, 1, none⟩ (.string m) := ⟨_, rfl⟩
  have kV : EBlk V w.heap.size ⟨v, m, p, hh, f⟩ := by rw [hV]; exact (kW.next hb1).set1
  have hw1 : Below w.heap.size w w1 := HWB.out.trans (hb1.mono HWB.out.size)
  have hwV : Below w.heap.size w V := by rw [hV]; exact hw1.setCell (p := ⟨w.heap.size, 1, none⟩) (Nat.le_refl _) _
  have hTV := HH.out.next hwV
  rw [← hV]
  obtain ⟨n4, hn4⟩ : ∃ n4, n4 = w.heap.size := ⟨_, rfl⟩
  rw [← hn4] at kV ⊢
  have htn : tb ≠ n4 := by have := HH.out.blk.lt; omega
  clear hV hw1 hb1 q1 u1 k0 k1 k2 k3 k4 hfw hn4 kW lk hW HTW HWB HCl
  have S0 : (V.cell? ⟨tb, 1, none⟩ = some (.map (some mb))) ∧ (V.cell? ⟨n4, 0, none⟩ = some (.int .i64 v) ∧ V.cell? ⟨n4, 1, none⟩ = some (.string m) ∧ V.cell? ⟨n4, 2, none⟩ = some (.int .i64 p) ∧ V.cell? ⟨n4, 3, none⟩ = some (.int .i64 hh) ∧ V.cell? ⟨n4, 4, none⟩ = some (.bool f)) := ⟨hTV.blk.cells.2.1, kV.cells⟩
  have HC := Lib.hid (fun w' => placeOf_any ⟨v, m, p, hh, f⟩ w')
  have HT := Lib.hid hTV
  have HD := Lib.hid (fun (w' : World) (hb : Below V.heap.size V w') => (hTV.next hb).map.store ⟨v, m, p, hh, f⟩ hky hroom)
  clear hTV
  go_region_held3 (fun w' => (w'.cell? ⟨tb, 1, none⟩ = some (.map (some mb))) ∧ (w'.cell? ⟨n4, 0, none⟩ = some (.int .i64 v) ∧ w'.cell? ⟨n4, 1, none⟩ = some (.string m) ∧ w'.cell? ⟨n4, 2, none⟩ = some (.int .i64 p) ∧ w'.cell? ⟨n4, 3, none⟩ = some (.int .i64 hh) ∧ w'.cell? ⟨n4, 4, none⟩ = some (.bool f))) (first | exact S0 | exact T0 | exact T1) (first | (go_at_call 55; (with_reducible refine (HC.out _).mono ?_); rintro e y0 ⟨rfl, g0⟩; have G0 := ((Grown.refl V).drew).trans g0; have hT0 := HT.out.next G0.below; have k0 := kV.next G0.below; have T0 : (y0.cell? ⟨tb, 1, none⟩ = some (.map (some mb))) ∧ (y0.cell? ⟨n4, 0, none⟩ = some (.int .i64 v) ∧ y0.cell? ⟨n4, 1, none⟩ = some (.string m) ∧ y0.cell? ⟨n4, 2, none⟩ = some (.int .i64 p) ∧ y0.cell? ⟨n4, 3, none⟩ = some (.int .i64 hh) ∧ y0.cell? ⟨n4, 4, none⟩ = some (.bool f)) := ⟨hT0.blk.cells.2.1, k0.cells⟩; obtain ⟨y1, hrun, hmp1, hturn1⟩ := HD.out y0 G0.below; have hnm := eblk_ne_map k0 hT0.map; have kt1 := hT0.blk.same (mapTurned_other hturn1 hT0.blk.lt hT0.ne); have ke1 : EBlk y1 n4 ⟨v, m, p, hh, f⟩ := (mapTurned_other hturn1 k0.lt hnm).trans k0; have T1 : (y1.cell? ⟨tb, 1, none⟩ = some (.map (some mb))) ∧ (y1.cell? ⟨n4, 0, none⟩ = some (.int .i64 v) ∧ y1.cell? ⟨n4, 1, none⟩ = some (.string m) ∧ y1.cell? ⟨n4, 2, none⟩ = some (.int .i64 p) ∧ y1.cell? ⟨n4, 3, none⟩ = some (.int .i64 hh) ∧ y1.cell? ⟨n4, 4, none⟩ = some (.bool f)) := ⟨kt1.cells.2.1, ke1.cells⟩))
  all_goals go_end0
  all_goals exact ⟨rfl, ⟨kt1, hmp1, hOk.out, hT0.room1, hT0.room64, hT0.n0⟩, (kept2_below (hwV.trans (G0.below.mono hwV.size))).trans (kept2_turned hturn1)⟩

/-! ### Find, Learned, New -/
def findR (l : List En) (k : Ky) : Int × Bool := match findE l k with | some x => (x.port, true) | none => (0, false)

set_option maxHeartbeats 400000 in
theorem find_w (tb mb room : Nat) (t : Tb) (v : Int) (m : ByteArray) (w : World) (h : IsTab w tb mb room t) (hk : KyOk ⟨v, m⟩) :
    Calls Try.prog 12 #[.pointer (some ⟨tb, 0, none⟩), .int .i64 v, .string m] w fun e w' => e = .returned (.tuple #[.int .i64 (findR t.l ⟨v, m⟩).1, .bool (findR t.l ⟨v, m⟩).2]) ∧ Grown w w' := by
  obtain ⟨c0, c1, c2⟩ := h.blk.cells
  have hrun := h.map.look v m hk
  unfold findR
  cases hf : findE t.l ⟨v, m⟩ with
  | none =>
    rw [hf] at hrun
    simp only [Option.getD, Option.isSome, zeroE] at hrun
    clear hf h hk
    go_enter Try.func12, Try.ntmps12
    go_wp2
    go_ret2
    exact ⟨rfl, (Grown.refl w).alloc _⟩
  | some x =>
    obtain ⟨v', m', p, hh, f⟩ := x
    rw [hf] at hrun
    simp only [Option.getD, Option.isSome] at hrun
    clear hf h hk
    go_enter Try.func12, Try.ntmps12
    go_wp2
    go_ret2
    exact ⟨rfl, (Grown.refl w).alloc _⟩

set_option maxHeartbeats 400000 in
theorem learned_w (tb mb room : Nat) (t : Tb) (w : World) (h : IsTab w tb mb room t) (h1 : t.learned ≤ 1000000) :
    Calls Try.prog 11 #[.pointer (some ⟨tb, 0, none⟩)] w fun e w' => e = .returned (.int .i64 t.learned) ∧ w = w' := by
  obtain ⟨c0, c1, c2⟩ := h.blk.cells
  have h0 := h.n0
  have hl := load_any tb 2 t.learned w c2
  clear h
  go_enter Try.func11, Try.ntmps11
  go_wp2_with (go_at_call 31; refine hl.mono ?_; rintro e w' ⟨rfl, rfl⟩)
  go_ret
  exact ⟨rfl, rfl⟩

set_option maxHeartbeats 400000 in
theorem new_bad (room : Int) (w : World) (h : ¬ (1 ≤ room ∧ room ≤ 64)) :
    Calls Try.prog 8 #[.int .i64 room] w fun e w' => e = .returned (.tuple #[.pointer none, .int .i64 1]) ∧ w = w' := by
  have hW := within_any room 1 64 w
  rw [decide_eq_false h] at hW
  go_enter Try.func8, Try.ntmps8
  go_wp2_with (go_at_call 18; refine hW.mono ?_; rintro e w' ⟨rfl, rfl⟩)
  go_ret2
  exact ⟨rfl, rfl⟩

set_option maxHeartbeats 400000 in
theorem new_w (room : Nat) (w : World) (h : 1 ≤ room ∧ room ≤ 64) :
    Calls Try.prog 8 #[.int .i64 room] w fun e w' => ∃ tb mb : Nat, e = .returned (.tuple #[.pointer (some ⟨tb, 0, none⟩), .int .i64 0]) ∧ IsTab w' tb mb room ⟨[], 0⟩ ∧ w.heap.size ≤ tb ∧ w.heap.size ≤ mb ∧ Below w.heap.size w w' := by
  have hW := within_any room 1 64 w
  rw [decide_eq_true (by omega)] at hW
  have hmm := @run_makeMap Try.prog
  go_enter Try.func8, Try.ntmps8
  go_wp2_with (go_at_call 18; refine hW.mono ?_; rintro e w' ⟨rfl, rfl⟩)
  go_ret2
  refine ⟨w.heap.size + 1, w.heap.size, rfl, ⟨?_, (mp_made w).kept (World.grownBy_alloc _ _ none) (by simp), ⟨List.Pairwise.nil, Nat.zero_le _, fun x hx => by simp at hx⟩, h.1, h.2, Int.le_refl _⟩, Nat.le_succ _, Nat.le_refl _, bw_alloc (below_box _ _) _⟩
  unfold TBlk
  rw [← size_box w (.map #[] 0)]
  exact heap_alloc_new _ _

/-! ### Drop -/
set_option maxHeartbeats 2000000 in
theorem drop_w (tb mb room : Nat) (t : Tb) (v : Int) (m : ByteArray) (w : World) (h : IsTab w tb mb room t) (hk : KyOk ⟨v, m⟩) :
    Calls Try.prog 17 #[.pointer (some ⟨tb, 0, none⟩), .int .i64 v, .string m] w fun e w' => e = .returned (.int .i64 (dropT t v m).2) ∧ IsTab w' tb mb room (dropT t v m).1 ∧ Kept2 tb mb w w' := by
  obtain ⟨W, hW⟩ : ∃ W, W = w.alloc (.cells #[.int .i64 v, .string m] 71) := ⟨_, rfl⟩
  have hWB : Below w.heap.size w W := by rw [hW]; exact below_box _ _
  have hTW := h.next hWB
  obtain ⟨c0, c1, c2⟩ := hTW.blk.cells
  have hb : W.heap[w.heap.size]? = some (.cells #[.int .i64 v, .string m] 71 (0, 0)) := by rw [hW]; exact heap_alloc_new _ _
  have b0 : W.cell? ⟨w.heap.size, 0, none⟩ = some (.int .i64 v) := by simp [World.cell?, hb]
  have b1 : W.cell? ⟨w.heap.size, 1, none⟩ = some (.string m) := by simp [World.cell?, hb]
  have ltb := hTW.blk.lt
  have lnb : w.heap.size < W.heap.size := (Array.getElem?_eq_some_iff.1 hb).1
  have a1 : ∀ o, (W.alloc o).cell? ⟨tb, 1, none⟩ = some (.map (some mb)) := fun o => ((below_box W o).cell (p := ⟨tb, 1, none⟩) ltb).trans c1
  have a2 : ∀ o, (W.alloc o).cell? ⟨w.heap.size, 0, none⟩ = some (.int .i64 v) := fun o => ((below_box W o).cell (p := ⟨w.heap.size, 0, none⟩) lnb).trans b0
  have a3 : ∀ o, (W.alloc o).cell? ⟨w.heap.size, 1, none⟩ = some (.string m) := fun o => ((below_box W o).cell (p := ⟨w.heap.size, 1, none⟩) lnb).trans b1
  obtain ⟨n4, hn4⟩ : ∃ n4, n4 = w.heap.size := ⟨_, rfl⟩
  rw [← hn4] at b0 b1 a2 a3
  cases hf : findE t.l ⟨v, m⟩ with
  | none =>
    have e2 : dropT t v m = (t, 5) := by unfold dropT; rw [if_pos hf]
    rw [e2]
    have hrun : ∀ o, (Instr.lookup 53 (.map (some mb)) (kv v m) true).run Try.prog (W.alloc o).drew = .ok (.tuple #[ev zeroE, .bool false]) (W.alloc o).drew := fun o => by
      have := (hTW.next ((below_box W o).drew)).map.look v m hk
      rw [hf] at this
      exact this
    have hrun2 : (Instr.lookup 53 (.map (some mb)) (kv v m) true).run Try.prog W.drew = .ok (.tuple #[ev zeroE, .bool false]) W.drew := by
      have := (hTW.next ((Below.refl W.heap.size W).drew)).map.look v m hk
      rw [hf] at this
      exact this
    simp only [zeroE] at hrun hrun2
    have HH := Lib.hid hTW
    have HB := Lib.hid hWB
    clear hf h hTW hWB hb e2
    go_enter Try.func17, Try.ntmps17
    go_wp2_with fail
    rw [← hW, ← hn4]
    clear hW hn4
    go_region
    all_goals go_wp2
    all_goals go_ret
    all_goals (
      have hbl : Below w.heap.size w (W.alloc (.cells #[.int .i64 0, .string ⟨#[]⟩, .int .i64 0, .int .i64 0, .bool false] 41)).drew := (bw_alloc HB.out _).drew
      exact ⟨rfl, HH.out.next ((below_box W _).drew), kept2_below hbl⟩)
  | some x =>
    obtain ⟨xv, xm, xp, xh, xf⟩ := x
    have hmem := find_mem hf
    have hkx : (⟨xv, xm⟩ : Ky) = ⟨v, m⟩ := hmem.2
    have e2 : dropT t v m = (⟨dropE t.l ⟨v, m⟩, t.learned⟩, 0) := by
      unfold dropT
      rw [hf, if_neg (by intro e; cases e)]
      have hp := place_find h.map.sorted ⟨v, m⟩
      rw [hf] at hp
      have hat := hp.2 hp.1
      have hd : dropE t.l (En.key ⟨xv, xm, xp, xh, xf⟩) = t.l.eraseIdx (placeR t.l ⟨v, m⟩).1 := drop_erase h.map.sorted hat
      rw [← hd]
      have : En.key ⟨xv, xm, xp, xh, xf⟩ = ⟨v, m⟩ := hkx
      rw [this]
    have hok : Tb.ok room ⟨dropE t.l ⟨v, m⟩, t.learned⟩ := ⟨sorted_drop h.map.sorted _, Nat.le_trans (List.length_filter_le _ _) h.ok.room, fun y hy => h.ok.each y (List.mem_filter.1 hy).1⟩
    rw [e2]
    have hrun : ∀ o, (Instr.lookup 53 (.map (some mb)) (kv v m) true).run Try.prog (W.alloc o).drew = .ok (.tuple #[ev ⟨xv, xm, xp, xh, xf⟩, .bool true]) (W.alloc o).drew := fun o => by
      have := (hTW.next ((below_box W o).drew)).map.look v m hk
      rw [hf] at this
      exact this
    have hrun2 : (Instr.lookup 53 (.map (some mb)) (kv v m) true).run Try.prog W.drew = .ok (.tuple #[ev ⟨xv, xm, xp, xh, xf⟩, .bool true]) W.drew := by
      have := (hTW.next ((Below.refl W.heap.size W).drew)).map.look v m hk
      rw [hf] at this
      exact this
    have HH := Lib.hid hTW
    have HB := Lib.hid hWB
    have HO := Lib.hid hok
    clear hf h hTW hWB hb e2 hmem hkx hok
    go_enter Try.func17, Try.ntmps17
    go_wp2_with fail
    rw [← hW, ← hn4]
    clear hW hn4
    go_region
    all_goals go_wp2
    obtain ⟨V, hV⟩ : ∃ V, V = (W.alloc (.cells #[.int .i64 xv, .string xm, .int .i64 xp, .int .i64 xh, .bool xf] 41)).drew := ⟨_, rfl⟩
    have hVB : Below W.heap.size W V := by rw [hV]; exact (below_box W _).drew
    have hTV := HH.out.next hVB
    have v1 : V.cell? ⟨tb, 1, none⟩ = some (.map (some mb)) := hTV.blk.cells.2.1
    have v2 : V.cell? ⟨n4, 0, none⟩ = some (.int .i64 v) := by rw [hV]; exact a2 _
    have v3 : V.cell? ⟨n4, 1, none⟩ = some (.string m) := by rw [hV]; exact a3 _
    obtain ⟨y1, hdel, hmp1, hturn1⟩ := (hTV.next ((Below.refl V.heap.size V).drew)).map.drop_any v m hk
    have hTD := Lib.hid (hTV.next ((Below.refl V.heap.size V).drew))
    have HVB := Lib.hid (HB.out.trans (hVB.mono HB.out.size))
    rw [← hV]
    clear hV hrun hrun2 a1 a2 a3 b0 b1 c0 c1 c2 hVB hTV
    go_region
    all_goals go_wp2
    all_goals go_ret
    all_goals (
      have hT1 := hTD.out
      have kt1 := hT1.blk.same (mapTurned_other hturn1 hT1.blk.lt hT1.ne)
      exact ⟨rfl, ⟨kt1, hmp1, HO.out, hT1.room1, hT1.room64, hT1.n0⟩, (kept2_below (HVB.out.drew)).trans (kept2_turned hturn1)⟩)

/-! ### Fix -/
theorem asked_sizes {v : Int} {m : ByteArray} {p now : Int} (h : askedR v m p now = 0) : KyOk ⟨v, m⟩ ∧ m.size = 6 := by
  have hok := asked_ok h false
  exact ⟨allOk_of (l := [⟨v, m, p, now, false⟩]) (fun y hy => by simp at hy; subst hy; exact hok) ⟨v, m, p, now, false⟩ (by simp), hok.mac⟩

set_option maxHeartbeats 2000000 in
theorem fix_w (tb mb room : Nat) (t : Tb) (v : Int) (m : ByteArray) (p : Int) (w : World) (h : IsTab w tb mb room t) (hm : m.size ≤ maxLen) :
    Calls Try.prog 15 #[.pointer (some ⟨tb, 0, none⟩), .int .i64 v, .string m, .int .i64 p] w fun e w' => e = .returned (.int .i64 (fixT room t v m p).2) ∧ IsTab w' tb mb room (fixT room t v m p).1 ∧ Kept2 tb mb w w' := by
  have hW := wrong_any v m p 0 w hm
  have hfok := fix_ok h.ok v m p
  by_cases ha : askedR v m p 0 = 0
  · rw [ha] at hW
    obtain ⟨hky, h6⟩ := asked_sizes ha
    have hx : En.ok ⟨v, m, p, 0, true⟩ := asked_ok ha true
    obtain ⟨c0, c1, c2⟩ := h.blk.cells
    have hlt := h.blk.lt
    have hrun := h.map.look v m hky
    have hFu := fun w' (hb : Below w.heap.size w w') => full_w tb mb room t w' (h.next hb)
    cases hf : findE t.l ⟨v, m⟩ with
    | none =>
      rw [hf] at hrun
      simp only [Option.getD, Option.isSome, zeroE] at hrun
      by_cases hfull : room ≤ t.l.length
      · have e2 : fixT room t v m p = (t, 7) := by unfold fixT; rw [if_pos ha, if_pos ⟨hf, hfull⟩]
        rw [e2]
        rw [decide_eq_true hfull] at hFu
        have HH := Lib.hid h
        clear h ha hf e2 hfok
        go_enter Try.func15, Try.ntmps15
        go_wp2_with (first
          | (go_at_call 33; refine hW.mono ?_; rintro e w1 ⟨rfl, rfl⟩)
          | (go_at_call 37; refine (hFu _ (below_box _ _)).mono ?_; rintro e w2 ⟨rfl, hG⟩))
        go_ret
        have hb := (below_box w (.cells #[.int .i64 0, .string ⟨#[]⟩, .int .i64 0, .int .i64 0, .bool false] 41)).trans (hG.below.mono (by simp))
        exact ⟨rfl, HH.out.next hb, kept2_below hb⟩
      · have e2 : fixT room t v m p = (⟨putR t.l ⟨v, m, p, 0, true⟩, t.learned⟩, 0) := by unfold fixT; rw [if_pos ha, if_neg (fun k => hfull k.2)]
        rw [e2] at hfok ⊢
        rw [decide_eq_false hfull] at hFu
        have HH := Lib.hid h
        have HP := Lib.hid (fun w' (hb : Below w.heap.size w w') => put_w tb mb room t ⟨v, m, p, 0, true⟩ w' (h.next hb) hx hfok)
        clear h ha hf e2 hfok
        go_enter Try.func15, Try.ntmps15
        go_wp2_with (first
          | (go_at_call 33; refine hW.mono ?_; rintro e w1 ⟨rfl, rfl⟩)
          | (go_at_call 37; refine (hFu _ (below_box _ _)).mono ?_; rintro e w2 ⟨rfl, hG⟩; have hb := (below_box w (.cells #[.int .i64 0, .string ⟨#[]⟩, .int .i64 0, .int .i64 0, .bool false] 41)).trans (hG.below.mono (by simp)))
          | (go_at_call 36; (with_reducible refine (HP.out _ hb).mono ?_); rintro e w3 ⟨rfl, hT3, hK3⟩))
        go_ret
        exact ⟨rfl, hT3, (kept2_below hb).trans hK3⟩
    | some x =>
      obtain ⟨xv, xm, xp, xh, xf⟩ := x
      rw [hf] at hrun
      simp only [Option.getD, Option.isSome] at hrun
      have e2 : fixT room t v m p = (⟨putR t.l ⟨v, m, p, 0, true⟩, t.learned⟩, 0) := by unfold fixT; rw [if_pos ha, if_neg (fun k => by rw [hf] at k; cases k.1)]
      rw [e2] at hfok ⊢
      have HP := Lib.hid (fun w' (hb : Below w.heap.size w w') => put_w tb mb room t ⟨v, m, p, 0, true⟩ w' (h.next hb) hx hfok)
      have hb := below_box w (.cells #[.int .i64 xv, .string xm, .int .i64 xp, .int .i64 xh, .bool xf] 41)
      clear h ha hf e2 hfok hFu
      go_enter Try.func15, Try.ntmps15
      go_wp2_with (first
        | (go_at_call 33; refine hW.mono ?_; rintro e w1 ⟨rfl, rfl⟩)
        | (go_at_call 36; (with_reducible refine (HP.out _ hb).mono ?_); rintro e w3 ⟨rfl, hT3, hK3⟩))
      go_ret
      exact ⟨rfl, hT3, (kept2_below hb).trans hK3⟩
  · have e2 : fixT room t v m p = (t, askedR v m p 0) := by unfold fixT; rw [if_neg ha]
    rw [e2]
    obtain ⟨A, hA⟩ : ∃ A, askedR v m p 0 = A := ⟨_, rfl⟩
    rw [hA] at hW ha ⊢
    have hne : (A != 0) = true := bne_iff_ne.2 ha
    have HH := Lib.hid h
    clear h e2 hfok hA
    go_enter Try.func15, Try.ntmps15
    go_wp2_with (go_at_call 33; refine hW.mono ?_; rintro e w1 ⟨rfl, rfl⟩)
    go_ret
    exact ⟨rfl, HH.out, Kept2.refl _ _ _⟩
end Go.Proofs.Ytkpfdaomhkcokaa
