/-
  Layer 7: full, makeRoom, put.
-/
import Derived.Test.YtkpfdaomhkcokaaFdF
import Derived.Deep.RegionLaw
namespace Go.Proofs.Ytkpfdaomhkcokaa
set_option linter.unusedVariables false
set_option linter.unusedSimpArgs false
open Go.RowKit Go.Maps Dm

/-- Nothing that was there has turned, but a table's two blocks. -/
structure Kept2 (tb mb : Nat) (w w' : World) : Prop where
  os : w'.os = w.os
  tape : w'.tape = w.tape
  output : w'.output = w.output
  size : w.heap.size ≤ w'.heap.size
  block : ∀ i, i < w.heap.size → i ≠ tb → i ≠ mb → w'.heap[i]? = w.heap[i]?
theorem Kept2.refl (tb mb : Nat) (w : World) : Kept2 tb mb w w := ⟨rfl, rfl, rfl, Nat.le_refl _, fun _ _ _ _ => rfl⟩
theorem Kept2.trans {tb mb : Nat} {a b c : World} (h : Kept2 tb mb a b) (k : Kept2 tb mb b c) : Kept2 tb mb a c :=
  ⟨k.os.trans h.os, k.tape.trans h.tape, k.output.trans h.output, Nat.le_trans h.size k.size, fun i hi h1 h2 => (k.block i (Nat.lt_of_lt_of_le hi h.size) h1 h2).trans (h.block i hi h1 h2)⟩
theorem kept2_below {tb mb : Nat} {w w' : World} (h : Below w.heap.size w w') : Kept2 tb mb w w' := ⟨h.os, h.tape, h.output, h.size, fun i hi _ _ => h.block i hi⟩
theorem kept2_turned {tb mb : Nat} {w w' : World} (h : w.mapTurned w' mb) : Kept2 tb mb w w' := by
  have g := h.grown
  exact ⟨g.os, g.tape, g.output, g.size, fun i hi _ h2 => g.block i hi (fun e => h2 (by cases e; rfl))⟩
theorem kept2_set {tb mb : Nat} (w : World) (j : Nat) (v : Value) : Kept2 tb mb w (w.setCell ⟨tb, j, none⟩ v) :=
  ⟨rfl, rfl, rfl, by show w.heap.size ≤ (w.heap.modify _ _).size; simp, fun i _ h1 _ => Below.heap_setCell w ⟨tb, j, none⟩ v i h1⟩
theorem Kept2.below {tb mb B : Nat} {a w w' : World} (h : Kept2 tb mb w w') (hb : Below B a w) (h1 : B ≤ tb) (h2 : B ≤ mb) (h3 : B ≤ w.heap.size) : Below B a w' :=
  ⟨h.os.trans hb.os, h.tape.trans hb.tape, h.output.trans hb.output, Nat.le_trans hb.size h.size, fun i hi => (h.block i (by omega) (by omega) (by omega)).trans (hb.block i hi)⟩
theorem mapTurned_other {w w' : World} {mb i : Nat} (h : w.mapTurned w' mb) (hi : i < w.heap.size) (hne : i ≠ mb) : w'.heap[i]? = w.heap[i]? :=
  h.grown.block i hi (fun e => hne (by cases e; rfl))
/-- A row that the call has made, with an entry in it at least. -/
theorem row_g {w : World} {a : Option Addr} {n : Nat} {l : List En} (hr : Row w a l) (hf : Fresh w n a l.length) (h0 : 0 < l.length) : ∃ g, a = some ⟨g, 0, none⟩ ∧ RowW w g 0 l ∧ n ≤ g := by
  obtain ⟨x, hx⟩ := at_some h0
  obtain ⟨g, o, e, hg, _⟩ := hr.at_ 0 x hx
  subst e
  obtain ⟨e1, _, hng, _⟩ := hf _ rfl
  simp only at e1 hng
  subst e1
  exact ⟨g, rfl, rowW_of hr hf hg, hng⟩
theorem IsMp.drop_any {w : World} {mb : Nat} {l : List En} (h : IsMp w mb l) (v : Int) (m : ByteArray) (hk : KyOk ⟨v, m⟩) :
    ∃ w', (∀ ty, (Builtin.delete_ #[53, 71] ty #[.map (some mb), kv v m]).run Try.prog w = .ok (.tuple #[]) w') ∧ IsMp w' mb (dropE l ⟨v, m⟩) ∧ w.mapTurned w' mb := by
  obtain ⟨w', h1, h2, h3⟩ := h.drop v m hk 0
  exact ⟨w', fun ty => h1, h2, h3⟩

theorem eblk_ne_map {w : World} {b mb : Nat} {x : En} {l : List En} (h : EBlk w b x) (hm : IsMp w mb l) : b ≠ mb := by
  intro e
  obtain ⟨D, ⟨es, clock, hbk, _⟩, _⟩ := hm.own
  unfold EBlk at h
  rw [e, hbk] at h
  cases h

set_option maxHeartbeats 400000 in
theorem full_w (tb mb room : Nat) (t : Tb) (w : World) (h : IsTab w tb mb room t) :
    Calls Try.prog 37 #[.pointer (some ⟨tb, 0, none⟩)] w fun e w' => e = .returned (.bool (decide (room ≤ t.l.length))) ∧ Grown w w' := by
  obtain ⟨c0, c1, c2⟩ := h.blk.cells
  have hlt := h.blk.lt
  have hl : ∀ nq ty, (Builtin.len_ #[53] ty #[.map (some mb)]).run Try.prog (w.drewN nq) = .ok (.int .i64 t.l.length) (w.drewN nq) := fun nq ty => (h.map.same (w' := w.drewN nq) rfl).len ty
  have hl0 : ∀ ty, (Builtin.len_ #[53] ty #[.map (some mb)]).run Try.prog w = .ok (.int .i64 t.l.length) w := fun ty => h.map.len ty
  clear h
  go_enter Try.func37, Try.ntmps37
  go_wp2
  go_quiet (fail)
  go_wp2
  go_ret
  refine ⟨ret_bool ?_, (Grown.refl w).drewN _⟩
  rw [Bool.eq_iff_iff]

theorem oldest_min {l : List En} (hs : Sorted l) {mi : Nat} {x : En} (h : MinAt (l.filter keptB) (l.filter keptB).length mi x) : ∃ o, oldN l l.length = some o ∧ l[o]? = some x := by
  have hx := List.mem_of_getElem? h.at_
  obtain ⟨hxl, hxk⟩ := List.mem_filter.1 hx
  cases ho : oldN l l.length with
  | none =>
    obtain ⟨i, hi⟩ := List.getElem?_of_mem hxl
    have := (old_spec l l.length (Nat.le_refl _)).1 ho i x ((List.getElem?_eq_some_iff.1 hi).1) hi
    simp [keptB, this] at hxk
  | some o =>
    obtain ⟨y, hy⟩ := (old_spec l l.length (Nat.le_refl _)).2 o ho
    refine ⟨o, rfl, ?_⟩
    rw [hy.at_]
    congr 1
    have hyf : y ∈ l.filter keptB := List.mem_filter.2 ⟨List.mem_of_getElem? hy.at_, by simp [keptB, hy.free]⟩
    obtain ⟨j, hj⟩ := List.getElem?_of_mem hyf
    obtain ⟨i, hi⟩ := List.getElem?_of_mem hxl
    have hxfree : x.fixed = false := by simpa [keptB] using hxk
    have a1 := h.least j y ((List.getElem?_eq_some_iff.1 hj).1) hj
    have a2 := hy.least i x ((List.getElem?_eq_some_iff.1 hi).1) hi hxfree
    have e : x.heard = y.heard := by rcases a1 with a | ⟨a, _⟩ <;> rcases a2 with b | ⟨b, _⟩ <;> omega
    have k1 : mi ≤ j := by rcases a1 with a | ⟨_, a⟩; omega; exact a
    have k2 : o ≤ i := by rcases a2 with a | ⟨_, a⟩; omega; exact a
    have mono : ∀ (L : List En), Sorted L → ∀ (a b : Nat) (u v : En), a ≤ b → L[a]? = some u → L[b]? = some v → u = v ∨ u.key.lt v.key := fun L hL a b u v hab hu hv => by
      rcases Nat.lt_or_eq_of_le hab with h1 | h1
      · right
        obtain ⟨ha, ha'⟩ := List.getElem?_eq_some_iff.1 hu
        obtain ⟨hb, hb'⟩ := List.getElem?_eq_some_iff.1 hv
        have := (List.pairwise_iff_getElem.1 hL) a b ha hb h1
        rw [ha', hb'] at this
        exact this
      · subst h1; rw [hu] at hv; cases hv; exact .inl rfl
    rcases mono _ (sorted_filter hs keptB) mi j x y k1 h.at_ hj with e1 | e1
    · exact e1.symm
    · rcases mono _ hs o i y x k2 hy.at_ hi with e2 | e2
      · exact e2
      · exact absurd e1 (lt_not e2)
theorem old_none {l : List En} (h : l.filter keptB = []) : oldN l l.length = none := by
  cases ho : oldN l l.length with
  | none => rfl
  | some o =>
    obtain ⟨y, hy⟩ := (old_spec l l.length (Nat.le_refl _)).2 o ho
    have : y ∈ l.filter keptB := List.mem_filter.2 ⟨List.mem_of_getElem? hy.at_, by simp [keptB, hy.free]⟩
    rw [h] at this; cases this
theorem drop_erase {l : List En} (hs : Sorted l) {o : Nat} {x : En} (hx : l[o]? = some x) : dropE l x.key = l.eraseIdx o :=
  sorted_ext (sorted_drop hs _) (sorted_erase hs o) fun k => by rw [find_drop hs, find_erase hs hx]

/-- What makeRoom does to a table. -/
def roomT (room : Nat) (t : Tb) : Tb × Bool :=
  if t.l.length < room then (t, true) else match oldN t.l t.l.length with
    | none => (t, false)
    | some o => (⟨t.l.eraseIdx o, t.learned⟩, true)
theorem room_ok {room : Nat} {t : Tb} (h : t.ok room) (o : Nat) : Tb.ok room ⟨t.l.eraseIdx o, t.learned⟩ :=
  ⟨sorted_erase h.sorted o, Nat.le_trans (List.length_eraseIdx_le _ _) h.room, fun x hx => h.each x (List.mem_of_mem_eraseIdx hx)⟩

set_option maxHeartbeats 2000000 in
theorem makeRoom_w (tb mb room : Nat) (t : Tb) (w : World) (h : IsTab w tb mb room t) :
    Calls Try.prog 34 #[.pointer (some ⟨tb, 0, none⟩)] w fun e w' => e = .returned (.bool (roomT room t).2) ∧ IsTab w' tb mb room (roomT room t).1 ∧ Kept2 tb mb w w' := by
  have hF := full_w tb mb room t w h
  by_cases hfull : room ≤ t.l.length
  · have e1 : ¬ t.l.length < room := by omega
    rw [decide_eq_true hfull] at hF
    have hL := fun w' (hb : Below w.heap.size w w') => list_w tb mb room t w' (h.next hb)
    have h0 : 0 < t.l.length := by have := h.room1; omega
    have h1000 : t.l.length ≤ 1000 := h.map.few
    by_cases hnil : t.l.filter keptB = []
    · have e2 : roomT room t = (t, false) := by unfold roomT; rw [if_neg e1, old_none hnil]
      rw [e2]
      have HH := Lib.hid h
      have HN := Lib.hid hnil
      clear h hnil
      go_enter Try.func34, Try.ntmps34
      go_wp2_with (first
        | (go_at_call 37; refine hF.mono ?_; clear hF; rintro e w1 ⟨rfl, hG⟩)
        | (go_at_call 10; refine (hL w1 hG.below).mono ?_; clear hL; rintro e w2 ⟨a, cap, rfl, hcap, hr, hfr, hb2⟩; obtain ⟨g, rfl, hRW, hng⟩ := row_g hr hfr h0)
        | (go_at_call 51; refine (delete_w g 0 cap w1.heap.size t.l w2 hRW h1000 hcap hng).mono ?_; rw [HN.out]; rintro e w3 ⟨rfl, hR3, hb3⟩))
      go_ret
      have hb : Below w.heap.size w w3 := (hG.below.trans (hb2.mono hG.below.size)).trans (hb3.mono hG.below.size)
      exact ⟨rfl, HH.out.next hb, kept2_below hb⟩
    · have hlen0 : 0 < (t.l.filter keptB).length := by
        rcases List.eq_nil_or_concat (t.l.filter keptB) with e | ⟨_, _, e⟩
        · exact absurd e hnil
        · rw [e]; simp
      have hK1000 : (t.l.filter keptB).length ≤ 1000 := Nat.le_trans (List.length_filter_le _ _) h1000
      obtain ⟨o, ho⟩ : ∃ o, oldN t.l t.l.length = some o := by
        obtain ⟨z, hz⟩ := at_some hlen0
        obtain ⟨hzl, hzk⟩ := List.mem_filter.1 (List.mem_of_getElem? hz)
        cases ho : oldN t.l t.l.length with
        | some o => exact ⟨o, rfl⟩
        | none =>
          obtain ⟨i, hi⟩ := List.getElem?_of_mem hzl
          have := (old_spec t.l t.l.length (Nat.le_refl _)).1 ho i z ((List.getElem?_eq_some_iff.1 hi).1) hi
          simp [keptB, this] at hzk
      obtain ⟨⟨v, m, p, hh, f⟩, hy⟩ := (old_spec t.l t.l.length (Nat.le_refl _)).2 o ho
      have hyl := hy.at_
      have e2 : roomT room t = (⟨t.l.eraseIdx o, t.learned⟩, true) := by unfold roomT; rw [if_neg e1, ho]
      rw [e2]
      have hky : KyOk ⟨v, m⟩ := h.map.keys _ (List.mem_of_getElem? hyl)
      have hUniq := Lib.hid (fun mi x (hM : MinAt (t.l.filter keptB) (t.l.filter keptB).length mi x) => show x = ⟨v, m, p, hh, f⟩ from by
        obtain ⟨o2, h1, h2⟩ := oldest_min h.map.sorted hM
        rw [ho] at h1; cases h1
        rw [hyl] at h2; exact (Option.some.inj h2).symm)
      have hde : dropE t.l ⟨v, m⟩ = t.l.eraseIdx o := drop_erase h.map.sorted hyl
      have HH := Lib.hid h
      have HE := Lib.hid hde
      obtain ⟨K, hK⟩ : ∃ K, t.l.filter keptB = K := ⟨_, rfl⟩
      rw [hK] at hlen0 hK1000 hUniq
      have HK := Lib.hid hK
      clear h hnil hy ho hyl hde hK e2
      go_enter Try.func34, Try.ntmps34
      go_wp2_with (first
        | (go_at_call 37; refine hF.mono ?_; clear hF; rintro e w1 ⟨rfl, hG⟩)
        | (go_at_call 10; refine (hL w1 hG.below).mono ?_; clear hL; rintro e w2 ⟨a, cap, rfl, hcap, hr, hfr, hb2⟩; obtain ⟨g, rfl, hRW, hng⟩ := row_g hr hfr h0)
        | (go_at_call 51; refine (delete_w g 0 cap w1.heap.size t.l w2 hRW h1000 hcap hng).mono ?_; rw [HK.out]; rintro e w3 ⟨rfl, hR3, hb3⟩)
        | (go_at_call 53; refine (minFunc_w g 0 cap K w3 hR3 hK1000 hlen0).mono ?_; rintro e w4 ⟨mi, x, rfl, hM, hb4⟩; obtain rfl := hUniq.out mi x hM))
      have hb : Below w.heap.size w w4 := ((hG.below.trans (hb2.mono hG.below.size)).trans (hb3.mono hG.below.size)).trans (hb4.mono (Nat.le_trans hG.below.size (Nat.le_trans hb2.size hb3.size)))
      clear hRW hR3 hr hfr hM hUniq hb2 hb3 hb4 hG
      have hTb := HH.out.next hb
      obtain ⟨W, hW⟩ : ∃ W, W = w4.alloc (.cells #[.int .i64 v, .string m, .int .i64 p, .int .i64 hh, .bool f] 41) := ⟨_, rfl⟩
      have hWB : Below w4.heap.size w4 W := by rw [hW]; exact below_box _ _
      have kW : EBlk W w4.heap.size ⟨v, m, p, hh, f⟩ := by rw [hW]; exact eblk_new _ _ _ _ _ _
      have hTW := hTb.next hWB
      have hbW : Below w.heap.size w W := hb.trans (hWB.mono hb.size)
      obtain ⟨n4, hn4⟩ : ∃ n4, n4 = w4.heap.size := ⟨_, rfl⟩
      rw [← hW, ← hn4]
      rw [← hn4] at kW
      have htn : tb ≠ n4 := by have := hTb.blk.lt; omega
      clear hW hWB hn4
      have S0 : (W.cell? ⟨tb, 1, none⟩ = some (.map (some mb))) ∧ (W.cell? ⟨n4, 0, none⟩ = some (.int .i64 v) ∧ W.cell? ⟨n4, 1, none⟩ = some (.string m) ∧ W.cell? ⟨n4, 2, none⟩ = some (.int .i64 p) ∧ W.cell? ⟨n4, 3, none⟩ = some (.int .i64 hh) ∧ W.cell? ⟨n4, 4, none⟩ = some (.bool f)) := ⟨hTW.blk.cells.2.1, kW.cells⟩
      have HC := Lib.hid (fun w' => placeOf_any ⟨v, m, p, hh, f⟩ w')
      have HT := Lib.hid hTW
      have HD := Lib.hid (fun (w' : World) (hb : Below W.heap.size W w') => (hTW.next hb).map.drop_any v m hky)
      clear hTW hTb
      go_region_held3 (fun w' => (w'.cell? ⟨tb, 1, none⟩ = some (.map (some mb))) ∧ (w'.cell? ⟨n4, 0, none⟩ = some (.int .i64 v) ∧ w'.cell? ⟨n4, 1, none⟩ = some (.string m) ∧ w'.cell? ⟨n4, 2, none⟩ = some (.int .i64 p) ∧ w'.cell? ⟨n4, 3, none⟩ = some (.int .i64 hh) ∧ w'.cell? ⟨n4, 4, none⟩ = some (.bool f))) (first | exact S0 | exact T0 | exact T1) (first | (go_at_call 55; (with_reducible refine (HC.out _).mono ?_); rintro e y0 ⟨rfl, g0⟩; have G0 := ((Grown.refl W).drew).trans g0; have T0 : (y0.cell? ⟨tb, 1, none⟩ = some (.map (some mb))) ∧ (y0.cell? ⟨n4, 0, none⟩ = some (.int .i64 v) ∧ y0.cell? ⟨n4, 1, none⟩ = some (.string m) ∧ y0.cell? ⟨n4, 2, none⟩ = some (.int .i64 p) ∧ y0.cell? ⟨n4, 3, none⟩ = some (.int .i64 hh) ∧ y0.cell? ⟨n4, 4, none⟩ = some (.bool f)) := ⟨(HT.out.next G0.below).blk.cells.2.1, (kW.next G0.below).cells⟩; obtain ⟨y1, hrun, hmp1, hturn1⟩ := HD.out y0 G0.below; have hT0 := HT.out.next G0.below; have k0 := kW.next G0.below; have hnm := eblk_ne_map k0 hT0.map; have kt1 := hT0.blk.same (mapTurned_other hturn1 hT0.blk.lt hT0.ne); have ke1 : EBlk y1 n4 ⟨v, m, p, hh, f⟩ := (mapTurned_other hturn1 k0.lt hnm).trans k0; have T1 : (y1.cell? ⟨tb, 1, none⟩ = some (.map (some mb))) ∧ (y1.cell? ⟨n4, 0, none⟩ = some (.int .i64 v) ∧ y1.cell? ⟨n4, 1, none⟩ = some (.string m) ∧ y1.cell? ⟨n4, 2, none⟩ = some (.int .i64 p) ∧ y1.cell? ⟨n4, 3, none⟩ = some (.int .i64 hh) ∧ y1.cell? ⟨n4, 4, none⟩ = some (.bool f)) := ⟨kt1.cells.2.1, ke1.cells⟩))
      all_goals go_wp2
      all_goals go_ret
      all_goals (rw [HE.out] at hmp1; exact ⟨rfl, ⟨kt1, hmp1, room_ok hT0.ok o, hT0.room1, hT0.room64, hT0.n0⟩, (kept2_below (hbW.trans (G0.below.mono hbW.size))).trans (kept2_turned hturn1)⟩)
  · have e2 : roomT room t = (t, true) := by unfold roomT; rw [if_pos (by omega)]
    rw [e2]
    rw [decide_eq_false hfull] at hF
    have HH := Lib.hid h
    clear h
    go_enter Try.func34, Try.ntmps34
    go_wp2_with (go_at_call 37; refine hF.mono ?_; clear hF; rintro e w1 ⟨rfl, hG⟩)
    go_ret
    exact ⟨rfl, HH.out.next hG.below, kept2_below hG.below⟩
end Go.Proofs.Ytkpfdaomhkcokaa
