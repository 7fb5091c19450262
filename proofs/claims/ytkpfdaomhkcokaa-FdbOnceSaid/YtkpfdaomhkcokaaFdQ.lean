/-
  What an act does, to a table and to the document's.
-/
import Derived.Test.YtkpfdaomhkcokaaFdP
namespace Go.Proofs.Ytkpfdaomhkcokaa
set_option linter.unusedVariables false
set_option linter.unusedSimpArgs false
open Go.RowKit Go.Maps Dm

abbrev av (x : Ac) : Value := .agg #[.int .i64 x.kind, .int .i64 x.vlan, .string x.mac, .int .i64 x.port, .int .i64 x.n, .int .i64 x.m]
/-- Block b is an act. -/
def ABlk (w : World) (b : Nat) (x : Ac) : Prop := w.heap[b]? = some (.cells #[.int .i64 x.kind, .int .i64 x.vlan, .string x.mac, .int .i64 x.port, .int .i64 x.n, .int .i64 x.m] 35 (0, 0))
theorem ABlk.lt {w : World} {b : Nat} {x : Ac} (h : ABlk w b x) : b < w.heap.size := (Array.getElem?_eq_some_iff.1 h).1
theorem ABlk.next {w w' : World} {b : Nat} {x : Ac} (h : ABlk w b x) (hb : Below w.heap.size w w') : ABlk w' b x := (hb.block b h.lt).trans h
theorem ablk_new (w : World) (x : Ac) : ABlk (w.alloc (.cells #[.int .i64 x.kind, .int .i64 x.vlan, .string x.mac, .int .i64 x.port, .int .i64 x.n, .int .i64 x.m] 35)) w.heap.size x := heap_alloc_new w _
theorem ABlk.cells {w : World} {b : Nat} {x : Ac} (h : ABlk w b x) :
    w.cell? ⟨b, 0, none⟩ = some (.int .i64 x.kind) ∧ w.cell? ⟨b, 1, none⟩ = some (.int .i64 x.vlan) ∧ w.cell? ⟨b, 2, none⟩ = some (.string x.mac) ∧ w.cell? ⟨b, 3, none⟩ = some (.int .i64 x.port) ∧ w.cell? ⟨b, 4, none⟩ = some (.int .i64 x.n) ∧ w.cell? ⟨b, 5, none⟩ = some (.int .i64 x.m) := by
  unfold ABlk at h
  refine ⟨?_, ?_, ?_, ?_, ?_, ?_⟩ <;> simp [World.cell?, h]
theorem ABlk.kept2 {w w' : World} {b tb mb : Nat} {x : Ac} (h : ABlk w b x) (hk : Kept2 tb mb w w') (h1 : b ≠ tb) (h2 : b ≠ mb) : ABlk w' b x := (hk.block b h.lt h1 h2).trans h
theorem RBlk.kept2 {w w' : World} {b tb mb : Nat} {room : Int} {a : Option Addr} {n cap : Nat} {lr : Int} (h : RBlk w b room a n cap lr) (hk : Kept2 tb mb w w') (h1 : b ≠ tb) (h2 : b ≠ mb) : RBlk w' b room a n cap lr := (hk.block b h.lt h1 h2).trans h
theorem ABlk.other {w : World} {b c : Nat} {x : Ac} (h : ABlk w b x) (hne : b ≠ c) (j : Nat) (v : Value) : ABlk (w.setCell ⟨c, j, none⟩ v) b x := (Below.heap_setCell w ⟨c, j, none⟩ v b hne).trans h
theorem IsTab.other {w : World} {tb mb room c : Nat} {t : Tb} (h : IsTab w tb mb room t) (h1 : tb ≠ c) (h2 : mb ≠ c) (j : Nat) (v : Value) : IsTab (w.setCell ⟨c, j, none⟩ v) tb mb room t :=
  h.same (Below.heap_setCell w ⟨c, j, none⟩ v tb h1) (Below.heap_setCell w ⟨c, j, none⟩ v mb h2)
theorem kept2_other {tb mb : Nat} {w0 w : World} (h : Kept2 tb mb w0 w) (c j : Nat) (v : Value) (hc : w0.heap.size ≤ c) : Kept2 tb mb w0 (w.setCell ⟨c, j, none⟩ v) :=
  ⟨h.os, h.tape, h.output, by show _ ≤ (w.heap.modify _ _).size; simp; exact h.size, fun i hi h1 h2 => (Below.heap_setCell w ⟨c, j, none⟩ v i (show i ≠ c by omega)).trans (h.block i hi h1 h2)⟩
/-- An entry lies in no table's blocks. -/
theorem row_ne_tab {w : World} {a : Option Addr} {l : List En} {tb mb room : Nat} {t : Tb} (h : Row w a l) (hT : IsTab w tb mb room t) : l = [] ∨ ∀ g, a = some g → g.block ≠ tb ∧ g.block ≠ mb := by
  cases l with
  | nil => exact .inl rfl
  | cons y l =>
    right
    rintro g rfl
    obtain ⟨g', o, e', _, k⟩ := h.at_ 0 y rfl
    cases e'
    have k1 := k.2.1
    refine ⟨fun e => ?_, fun e => ?_⟩
    · have e : g' = tb := e
      subst e
      have hb := hT.blk
      have hs : ∀ j, w.cell? ⟨g', j, none⟩ ≠ some (.string y.mac) := by
        intro j
        obtain ⟨c0, c1, c2⟩ := hb.cells
        match j with
        | 0 => rw [c0]; simp
        | 1 => rw [c1]; simp
        | 2 => rw [c2]; simp
        | j + 3 => unfold TBlk at hb; simp [World.cell?, hb]
      exact hs _ k1
    · have e : g' = mb := e
      subst e
      obtain ⟨D, ⟨es, clock, hb, _⟩, _⟩ := hT.map.own
      have : w.cell? ⟨g', o + 0 * 5 + 1, none⟩ = none := by simp [World.cell?, hb]
      rw [this] at k1
      cases k1
theorem Row.tab {w w' : World} {a : Option Addr} {l : List En} {tb mb room : Nat} {t : Tb} (h : Row w a l) (hT : IsTab w tb mb room t) (hk : Kept2 tb mb w w') : Row w' a l := by
  rcases row_ne_tab h hT with rfl | hne
  · exact row_nil _ _
  · exact h.kept2 hk hne

/-- What an act is answered: the document's table behind, are the answers the same? -/
def DoesAns (tb mb room : Nat) (w : World) (X Y : Tb × Int) (e : Ending) (w' : World) : Prop :=
  ∃ a' cap', e = .returned (.tuple #[rv room a' Y.1.l.length cap' Y.1.learned, .bool (X.2 == Y.2)]) ∧ Row w' a' Y.1.l ∧ Y.1.l.length ≤ cap' ∧ IsTab w' tb mb room X.1 ∧ Kept2 tb mb w w'
theorem ends_does {w X : World} {tb mb room bz : Nat} {t' : Tb} {a : Option Addr} {l : List En} (hrz : RBlk X bz 0 none 0 0 0) (hw : w.heap.size ≤ bz) (ht : IsTab X tb mb room t') (h1 : tb < w.heap.size) (h2 : mb < w.heap.size) (hk : Kept2 tb mb w X) (hrow : Row X a l) (rm : Int) (n cap : Nat) (lr : Int) :
    (∀ V, V = (((X.setCell ⟨bz, 0, none⟩ (.int .i64 rm)).setCell ⟨bz, 1, none⟩ (.slice a n cap)).setCell ⟨bz, 2, none⟩ (.int .i64 lr)) → (V.cell? ⟨bz, 0, none⟩ = some (.int .i64 rm) ∧ V.cell? ⟨bz, 1, none⟩ = some (.slice a n cap) ∧ V.cell? ⟨bz, 2, none⟩ = some (.int .i64 lr)) ∧ Row V a l ∧ IsTab V tb mb room t' ∧ Kept2 tb mb w V) := by
  rintro V rfl
  exact ⟨(rblk_set3 hrz rm a n cap lr).cells, row_set3 hrow hrz _ _ _, ((ht.other (c := bz) (by omega) (by omega) 0 _).other (by omega) (by omega) 1 _).other (by omega) (by omega) 2 _, kept2_other (kept2_other (kept2_other hk bz 0 _ hw) bz 1 _ hw) bz 2 _ hw⟩
theorem three_boxes (w : World) (room : Int) (a : Option Addr) (n cap : Nat) (lr : Int) (x : Ac) : ∀ W, W = ((w.alloc (.cells #[.int .i64 room, .slice a n cap, .int .i64 lr] 31)).alloc (.cells #[.int .i64 x.kind, .int .i64 x.vlan, .string x.mac, .int .i64 x.port, .int .i64 x.n, .int .i64 x.m] 35)).alloc (.cells #[.int .i64 0, .slice none 0 0, .int .i64 0] 31) → RBlk W w.heap.size room a n cap lr ∧ ABlk W (w.heap.size + 1) x ∧ RBlk W (w.heap.size + 1 + 1) 0 none 0 0 0 ∧ Below w.heap.size w W := by
  rintro W rfl
  refine ⟨((rblk_new w room a n cap lr).next (below_box _ _)).next (below_box _ _), ?_, ?_, bw_alloc (bw_alloc (below_box _ _) _) _⟩
  · have h := ablk_new (w.alloc (.cells #[.int .i64 room, .slice a n cap, .int .i64 lr] 31)) x
    rw [size_box] at h
    exact h.next (below_box _ _)
  · have h := rblk_new ((w.alloc (.cells #[.int .i64 room, .slice a n cap, .int .i64 lr] 31)).alloc (.cells #[.int .i64 x.kind, .int .i64 x.vlan, .string x.mac, .int .i64 x.port, .int .i64 x.n, .int .i64 x.m] 35)) 0 none 0 0 0
    rw [size_box, size_box] at h
    exact h

set_option maxRecDepth 20000 in
set_option maxHeartbeats 8000000 in
theorem does_learn (tb mb room : Nat) (t T : Tb) (a : Option Addr) (cap : Nat) (v : Int) (m : ByteArray) (p n q : Int) (w : World) (h : IsTab w tb mb room t) (hr : Row w a T.l) (hc : T.l.length ≤ cap) (hT : Tb.ok room T) (hlr0 : 0 ≤ T.learned) (hlr : T.learned ≤ 1000000) (hn1 : t.learned ≤ 1000000) (hm : m.size ≤ 20) (hv : -9223372036854775808 ≤ v ∧ v ≤ 9223372036854775807) (hnn : -9223372036854775808 ≤ n ∧ n ≤ 9223372036854775807) :
    Calls Try.prog 9 #[.pointer (some ⟨tb, 0, none⟩), rv room a T.l.length cap T.learned, av ⟨0, v, m, p, n, q⟩] w (DoesAns tb mb room w (learnT room t v m p n) (learnT room T v m p n)) := by
  have hml : m.size ≤ maxLen := by unfold maxLen; omega
  have h9 : T.l.length ≤ 900 := by have := hT.room; have := h.room64; omega
  have hky : KyOk ⟨v, m⟩ := ⟨by simp [Lit.wf, IntKind.min, IntKind.max, IntKind.signed, IntKind.bits]; omega, hml⟩
  obtain ⟨W, hW⟩ : ∃ W, W = ((w.alloc (.cells #[.int .i64 room, .slice a T.l.length cap, .int .i64 T.learned] 31)).alloc (.cells #[.int .i64 0, .int .i64 v, .string m, .int .i64 p, .int .i64 n, .int .i64 q] 35)).alloc (.cells #[.int .i64 0, .slice none 0 0, .int .i64 0] 31) := ⟨_, rfl⟩
  obtain ⟨kW, aW, rW, hB⟩ := three_boxes w room a T.l.length cap T.learned ⟨0, v, m, p, n, q⟩ W hW
  have hX := rlearn_w room a cap T v m p n W (hr.next hB) hc hT.sorted hml h9 hlr0 hlr
  have HP := Lib.hid (fun w' (ht : IsTab w' tb mb room t) => learn_w tb mb room t v m p n w' ht hml hn1)
  obtain ⟨Y, hY⟩ : ∃ Y, learnT room T v m p n = Y := ⟨_, rfl⟩
  obtain ⟨X, hXX⟩ : ∃ X, learnT room t v m p n = X := ⟨_, rfl⟩
  rw [hY] at hX
  rw [hXX] at HP
  rw [hY, hXX]
  obtain ⟨N, hN⟩ : ∃ N, Y.1.l.length = N := ⟨_, rfl⟩
  obtain ⟨LR, hLR⟩ : ∃ L, Y.1.learned = L := ⟨_, rfl⟩
  obtain ⟨C, hC⟩ : ∃ C, Y.2 = C := ⟨_, rfl⟩
  obtain ⟨XC, hXC⟩ : ∃ C, X.2 = C := ⟨_, rfl⟩
  unfold RefAns at hX
  unfold DoesAns
  rw [hN, hLR, hC] at hX
  rw [hN, hLR, hC, hXC]
  rw [hXC] at HP
  have htb := h.blk.lt
  have hmb := h.map.lt
  have hHB := Lib.hid hB
  have hTW := Lib.hid (h.next hB)
  have HA := Lib.hid aW
  have HZ := Lib.hid rW
  have HX := Lib.hid hX
  clear hX hB kW aW rW h hr hT hXX hY hN hLR hC hXC
  go_enter Try.func9, Try.ntmps9
  go_wp2_with (go_at_call 19; rw [← hW]; refine HX.out.mono ?_; rintro e w2 ⟨a', cap', rfl, hr2, hc2, hB2⟩; obtain ⟨e0, e1, e2, e3, e4, e5⟩ := (HA.out.next hB2).cells)
  obtain ⟨w3, hw3⟩ : ∃ w3, w3 = w2.alloc (.cells #[.int .i64 room, .slice a' N cap', .int .i64 LR] 31) := ⟨_, rfl⟩
  have hB23 : Below w2.heap.size w2 w3 := by rw [hw3]; exact below_box _ _
  have k3 : RBlk w3 w2.heap.size room a' N cap' LR := by rw [hw3]; exact rblk_new _ _ _ _ _ _
  have hBW3 : Below W.heap.size W w3 := hB2.trans (hB23.mono hB2.size)
  have hB3 : Below w.heap.size w w3 := hHB.out.trans (hBW3.mono hHB.out.size)
  have hsz2 : w.heap.size + 1 + 1 < w2.heap.size := Nat.lt_of_lt_of_le HZ.out.lt hB2.size
  have a3 := HA.out.next hBW3
  have z3 := HZ.out.next hBW3
  have t3 := hTW.out.next hBW3
  have r3 := hr2.next hB23
  rw [← hw3]
  clear hw3 e0 e1 e2 e3 e4 e5 hW HX
  obtain ⟨bn, hbn⟩ : ∃ bn, w2.heap.size = bn := ⟨_, rfl⟩
  obtain ⟨bz, hbz⟩ : ∃ bz, w.heap.size + 1 + 1 = bz := ⟨_, rfl⟩
  obtain ⟨ba, hba⟩ : ∃ ba, w.heap.size + 1 = ba := ⟨_, rfl⟩
  rw [hbz] at hsz2 z3 ⊢
  rw [hbn] at k3 hsz2 ⊢
  rw [hba] at a3 ⊢
  have l1 : w.heap.size ≤ bz := by omega
  have n1 : bn ≠ tb := by omega
  have n2 : bn ≠ mb := by omega
  have n3 : ba ≠ tb := by omega
  have n4 : ba ≠ mb := by omega
  have n5 : bz ≠ tb := by omega
  have n6 : bz ≠ mb := by omega
  have n7 : bn ≠ bz := by omega
  have n8 : ba ≠ bz := by omega
  have HNE := Lib.hid (And.intro l1 (And.intro n7 n8))
  have S0 : (((w3).cell? ⟨bn, 0, none⟩ = some (.int .i64 room) ∧ (w3).cell? ⟨bn, 1, none⟩ = some (.slice a' N cap') ∧ (w3).cell? ⟨bn, 2, none⟩ = some (.int .i64 LR)) ∧ ((w3).cell? ⟨ba, 0, none⟩ = some (.int .i64 0) ∧ (w3).cell? ⟨ba, 1, none⟩ = some (.int .i64 v) ∧ (w3).cell? ⟨ba, 2, none⟩ = some (.string m) ∧ (w3).cell? ⟨ba, 3, none⟩ = some (.int .i64 p) ∧ (w3).cell? ⟨ba, 4, none⟩ = some (.int .i64 n) ∧ (w3).cell? ⟨ba, 5, none⟩ = some (.int .i64 q))) := ⟨k3.cells, a3.cells⟩
  have HC := Lib.hid (HP.out w3.drew (t3.same rfl rfl))
  have HT3 := Lib.hid t3
  have HK3 := Lib.hid k3
  have HA3 := Lib.hid a3
  have HZ3 := Lib.hid z3
  have HR3 := Lib.hid r3
  have HB3 := Lib.hid hB3
  clear t3 k3 a3 z3 r3 hB3 hBW3 hB23 hB2 hbn hbz hba hr2 hsz2 HA HZ HP hTW hHB n7 n8
  go_region_held3 (fun w' => (((w').cell? ⟨bn, 0, none⟩ = some (.int .i64 room) ∧ (w').cell? ⟨bn, 1, none⟩ = some (.slice a' N cap') ∧ (w').cell? ⟨bn, 2, none⟩ = some (.int .i64 LR)) ∧ ((w').cell? ⟨ba, 0, none⟩ = some (.int .i64 0) ∧ (w').cell? ⟨ba, 1, none⟩ = some (.int .i64 v) ∧ (w').cell? ⟨ba, 2, none⟩ = some (.string m) ∧ (w').cell? ⟨ba, 3, none⟩ = some (.int .i64 p) ∧ (w').cell? ⟨ba, 4, none⟩ = some (.int .i64 n) ∧ (w').cell? ⟨ba, 5, none⟩ = some (.int .i64 q)))) (first | exact S0 | exact T0 | exact T1) (first | (go_at_call 14; (with_reducible refine HC.out.mono ?_); rintro e w4 ⟨rfl, ht4, hk4⟩; have hk34 : Kept2 tb mb w3 w4 := (kept2_below (Below.refl _ w3).drew).trans hk4; have k4 := HK3.out.kept2 hk34 n1 n2; have a4 := HA3.out.kept2 hk34 n3 n4; have z4 := HZ3.out.kept2 hk34 n5 n6; have T0 : (((w4).cell? ⟨bn, 0, none⟩ = some (.int .i64 room) ∧ (w4).cell? ⟨bn, 1, none⟩ = some (.slice a' N cap') ∧ (w4).cell? ⟨bn, 2, none⟩ = some (.int .i64 LR)) ∧ ((w4).cell? ⟨ba, 0, none⟩ = some (.int .i64 0) ∧ (w4).cell? ⟨ba, 1, none⟩ = some (.int .i64 v) ∧ (w4).cell? ⟨ba, 2, none⟩ = some (.string m) ∧ (w4).cell? ⟨ba, 3, none⟩ = some (.int .i64 p) ∧ (w4).cell? ⟨ba, 4, none⟩ = some (.int .i64 n) ∧ (w4).cell? ⟨ba, 5, none⟩ = some (.int .i64 q))) := ⟨k4.cells, a4.cells⟩; obtain ⟨i0, i1, i2⟩ := z4.cells; have j0 := z4.free 0; have j1 := z4.free 1; have j2 := z4.free 2; have T1 : (((((w4.setCell ⟨bz, 0, none⟩ (.int .i64 room)).setCell ⟨bz, 1, none⟩ (.slice a' N cap')).setCell ⟨bz, 2, none⟩ (.int .i64 LR)).cell? ⟨bn, 0, none⟩ = some (.int .i64 room) ∧ (((w4.setCell ⟨bz, 0, none⟩ (.int .i64 room)).setCell ⟨bz, 1, none⟩ (.slice a' N cap')).setCell ⟨bz, 2, none⟩ (.int .i64 LR)).cell? ⟨bn, 1, none⟩ = some (.slice a' N cap') ∧ (((w4.setCell ⟨bz, 0, none⟩ (.int .i64 room)).setCell ⟨bz, 1, none⟩ (.slice a' N cap')).setCell ⟨bz, 2, none⟩ (.int .i64 LR)).cell? ⟨bn, 2, none⟩ = some (.int .i64 LR)) ∧ ((((w4.setCell ⟨bz, 0, none⟩ (.int .i64 room)).setCell ⟨bz, 1, none⟩ (.slice a' N cap')).setCell ⟨bz, 2, none⟩ (.int .i64 LR)).cell? ⟨ba, 0, none⟩ = some (.int .i64 0) ∧ (((w4.setCell ⟨bz, 0, none⟩ (.int .i64 room)).setCell ⟨bz, 1, none⟩ (.slice a' N cap')).setCell ⟨bz, 2, none⟩ (.int .i64 LR)).cell? ⟨ba, 1, none⟩ = some (.int .i64 v) ∧ (((w4.setCell ⟨bz, 0, none⟩ (.int .i64 room)).setCell ⟨bz, 1, none⟩ (.slice a' N cap')).setCell ⟨bz, 2, none⟩ (.int .i64 LR)).cell? ⟨ba, 2, none⟩ = some (.string m) ∧ (((w4.setCell ⟨bz, 0, none⟩ (.int .i64 room)).setCell ⟨bz, 1, none⟩ (.slice a' N cap')).setCell ⟨bz, 2, none⟩ (.int .i64 LR)).cell? ⟨ba, 3, none⟩ = some (.int .i64 p) ∧ (((w4.setCell ⟨bz, 0, none⟩ (.int .i64 room)).setCell ⟨bz, 1, none⟩ (.slice a' N cap')).setCell ⟨bz, 2, none⟩ (.int .i64 LR)).cell? ⟨ba, 4, none⟩ = some (.int .i64 n) ∧ (((w4.setCell ⟨bz, 0, none⟩ (.int .i64 room)).setCell ⟨bz, 1, none⟩ (.slice a' N cap')).setCell ⟨bz, 2, none⟩ (.int .i64 LR)).cell? ⟨ba, 5, none⟩ = some (.int .i64 q))) := ⟨(((k4.other HNE.out.2.1 0 _).other HNE.out.2.1 1 _).other HNE.out.2.1 2 _).cells, (((a4.other HNE.out.2.2 0 _).other HNE.out.2.2 1 _).other HNE.out.2.2 2 _).cells⟩))
  all_goals (
    have r4 := HR3.out.tab HT3.out hk34
    have hkw : Kept2 tb mb w w4 := (kept2_below HB3.out).trans hk34
    obtain ⟨Vf, hVf⟩ : ∃ V, V = ((w4.setCell ⟨bz, 0, none⟩ (.int .i64 room)).setCell ⟨bz, 1, none⟩ (.slice a' N cap')).setCell ⟨bz, 2, none⟩ (.int .i64 LR) := ⟨_, rfl⟩
    obtain ⟨⟨g0, g1, g2⟩, hrF, htF, hkF⟩ := ends_does (w := w) z4 HNE.out.1 ht4 htb hmb hkw r4 room N cap' LR Vf hVf
    rw [← hVf]
    have HE := Lib.hid (And.intro hrF (And.intro htF hkF))
    clear hVf T1 T0 i0 i1 i2 j0 j1 j2 k4 a4 z4 hrF htF hkF S0
    go_wp2
    exact bodyPost_ret (v := .tuple #[rv room a' N cap' LR, .bool (XC == C)]) (by simp [results, Try.results9, go_sem, g0, g1, g2]) rfl ⟨a', cap', rfl, HE.out.1, hc2, HE.out.2.1, HE.out.2.2⟩)

set_option maxRecDepth 20000 in
set_option maxHeartbeats 8000000 in
theorem does_fix (tb mb room : Nat) (t T : Tb) (a : Option Addr) (cap : Nat) (v : Int) (m : ByteArray) (p n q : Int) (w : World) (h : IsTab w tb mb room t) (hr : Row w a T.l) (hc : T.l.length ≤ cap) (hT : Tb.ok room T) (hlr0 : 0 ≤ T.learned) (hlr : T.learned ≤ 1000000) (hn1 : t.learned ≤ 1000000) (hm : m.size ≤ 20) (hv : -9223372036854775808 ≤ v ∧ v ≤ 9223372036854775807) (hnn : -9223372036854775808 ≤ n ∧ n ≤ 9223372036854775807) :
    Calls Try.prog 9 #[.pointer (some ⟨tb, 0, none⟩), rv room a T.l.length cap T.learned, av ⟨1, v, m, p, n, q⟩] w (DoesAns tb mb room w (fixT room t v m p) (fixT room T v m p)) := by
  have hml : m.size ≤ maxLen := by unfold maxLen; omega
  have h9 : T.l.length ≤ 900 := by have := hT.room; have := h.room64; omega
  have hky : KyOk ⟨v, m⟩ := ⟨by simp [Lit.wf, IntKind.min, IntKind.max, IntKind.signed, IntKind.bits]; omega, hml⟩
  obtain ⟨W, hW⟩ : ∃ W, W = ((w.alloc (.cells #[.int .i64 room, .slice a T.l.length cap, .int .i64 T.learned] 31)).alloc (.cells #[.int .i64 1, .int .i64 v, .string m, .int .i64 p, .int .i64 n, .int .i64 q] 35)).alloc (.cells #[.int .i64 0, .slice none 0 0, .int .i64 0] 31) := ⟨_, rfl⟩
  obtain ⟨kW, aW, rW, hB⟩ := three_boxes w room a T.l.length cap T.learned ⟨1, v, m, p, n, q⟩ W hW
  have hX := rfix_w room a cap T v m p W (hr.next hB) hc hT.sorted hml h9
  have HP := Lib.hid (fun w' (ht : IsTab w' tb mb room t) => fix_w tb mb room t v m p w' ht hml)
  obtain ⟨Y, hY⟩ : ∃ Y, fixT room T v m p = Y := ⟨_, rfl⟩
  obtain ⟨X, hXX⟩ : ∃ X, fixT room t v m p = X := ⟨_, rfl⟩
  rw [hY] at hX
  rw [hXX] at HP
  rw [hY, hXX]
  obtain ⟨N, hN⟩ : ∃ N, Y.1.l.length = N := ⟨_, rfl⟩
  obtain ⟨LR, hLR⟩ : ∃ L, Y.1.learned = L := ⟨_, rfl⟩
  obtain ⟨C, hC⟩ : ∃ C, Y.2 = C := ⟨_, rfl⟩
  obtain ⟨XC, hXC⟩ : ∃ C, X.2 = C := ⟨_, rfl⟩
  unfold RefAns at hX
  unfold DoesAns
  rw [hN, hLR, hC] at hX
  rw [hN, hLR, hC, hXC]
  rw [hXC] at HP
  have htb := h.blk.lt
  have hmb := h.map.lt
  have hHB := Lib.hid hB
  have hTW := Lib.hid (h.next hB)
  have HA := Lib.hid aW
  have HZ := Lib.hid rW
  have HX := Lib.hid hX
  clear hX hB kW aW rW h hr hT hXX hY hN hLR hC hXC
  go_enter Try.func9, Try.ntmps9
  go_wp2_with (go_at_call 20; rw [← hW]; refine HX.out.mono ?_; rintro e w2 ⟨a', cap', rfl, hr2, hc2, hB2⟩; obtain ⟨e0, e1, e2, e3, e4, e5⟩ := (HA.out.next hB2).cells)
  obtain ⟨w3, hw3⟩ : ∃ w3, w3 = w2.alloc (.cells #[.int .i64 room, .slice a' N cap', .int .i64 LR] 31) := ⟨_, rfl⟩
  have hB23 : Below w2.heap.size w2 w3 := by rw [hw3]; exact below_box _ _
  have k3 : RBlk w3 w2.heap.size room a' N cap' LR := by rw [hw3]; exact rblk_new _ _ _ _ _ _
  have hBW3 : Below W.heap.size W w3 := hB2.trans (hB23.mono hB2.size)
  have hB3 : Below w.heap.size w w3 := hHB.out.trans (hBW3.mono hHB.out.size)
  have hsz2 : w.heap.size + 1 + 1 < w2.heap.size := Nat.lt_of_lt_of_le HZ.out.lt hB2.size
  have a3 := HA.out.next hBW3
  have z3 := HZ.out.next hBW3
  have t3 := hTW.out.next hBW3
  have r3 := hr2.next hB23
  rw [← hw3]
  clear hw3 e0 e1 e2 e3 e4 e5 hW HX
  obtain ⟨bn, hbn⟩ : ∃ bn, w2.heap.size = bn := ⟨_, rfl⟩
  obtain ⟨bz, hbz⟩ : ∃ bz, w.heap.size + 1 + 1 = bz := ⟨_, rfl⟩
  obtain ⟨ba, hba⟩ : ∃ ba, w.heap.size + 1 = ba := ⟨_, rfl⟩
  rw [hbz] at hsz2 z3 ⊢
  rw [hbn] at k3 hsz2 ⊢
  rw [hba] at a3 ⊢
  have l1 : w.heap.size ≤ bz := by omega
  have n1 : bn ≠ tb := by omega
  have n2 : bn ≠ mb := by omega
  have n3 : ba ≠ tb := by omega
  have n4 : ba ≠ mb := by omega
  have n5 : bz ≠ tb := by omega
  have n6 : bz ≠ mb := by omega
  have n7 : bn ≠ bz := by omega
  have n8 : ba ≠ bz := by omega
  have HNE := Lib.hid (And.intro l1 (And.intro n7 n8))
  have S0 : (((w3).cell? ⟨bn, 0, none⟩ = some (.int .i64 room) ∧ (w3).cell? ⟨bn, 1, none⟩ = some (.slice a' N cap') ∧ (w3).cell? ⟨bn, 2, none⟩ = some (.int .i64 LR)) ∧ ((w3).cell? ⟨ba, 0, none⟩ = some (.int .i64 1) ∧ (w3).cell? ⟨ba, 1, none⟩ = some (.int .i64 v) ∧ (w3).cell? ⟨ba, 2, none⟩ = some (.string m) ∧ (w3).cell? ⟨ba, 3, none⟩ = some (.int .i64 p) ∧ (w3).cell? ⟨ba, 4, none⟩ = some (.int .i64 n) ∧ (w3).cell? ⟨ba, 5, none⟩ = some (.int .i64 q))) := ⟨k3.cells, a3.cells⟩
  have HC := Lib.hid (HP.out w3.drew (t3.same rfl rfl))
  have HT3 := Lib.hid t3
  have HK3 := Lib.hid k3
  have HA3 := Lib.hid a3
  have HZ3 := Lib.hid z3
  have HR3 := Lib.hid r3
  have HB3 := Lib.hid hB3
  clear t3 k3 a3 z3 r3 hB3 hBW3 hB23 hB2 hbn hbz hba hr2 hsz2 HA HZ HP hTW hHB n7 n8
  go_region_held3 (fun w' => (((w').cell? ⟨bn, 0, none⟩ = some (.int .i64 room) ∧ (w').cell? ⟨bn, 1, none⟩ = some (.slice a' N cap') ∧ (w').cell? ⟨bn, 2, none⟩ = some (.int .i64 LR)) ∧ ((w').cell? ⟨ba, 0, none⟩ = some (.int .i64 1) ∧ (w').cell? ⟨ba, 1, none⟩ = some (.int .i64 v) ∧ (w').cell? ⟨ba, 2, none⟩ = some (.string m) ∧ (w').cell? ⟨ba, 3, none⟩ = some (.int .i64 p) ∧ (w').cell? ⟨ba, 4, none⟩ = some (.int .i64 n) ∧ (w').cell? ⟨ba, 5, none⟩ = some (.int .i64 q)))) (first | exact S0 | exact T0 | exact T1) (first | (go_at_call 15; (with_reducible refine HC.out.mono ?_); rintro e w4 ⟨rfl, ht4, hk4⟩; have hk34 : Kept2 tb mb w3 w4 := (kept2_below (Below.refl _ w3).drew).trans hk4; have k4 := HK3.out.kept2 hk34 n1 n2; have a4 := HA3.out.kept2 hk34 n3 n4; have z4 := HZ3.out.kept2 hk34 n5 n6; have T0 : (((w4).cell? ⟨bn, 0, none⟩ = some (.int .i64 room) ∧ (w4).cell? ⟨bn, 1, none⟩ = some (.slice a' N cap') ∧ (w4).cell? ⟨bn, 2, none⟩ = some (.int .i64 LR)) ∧ ((w4).cell? ⟨ba, 0, none⟩ = some (.int .i64 1) ∧ (w4).cell? ⟨ba, 1, none⟩ = some (.int .i64 v) ∧ (w4).cell? ⟨ba, 2, none⟩ = some (.string m) ∧ (w4).cell? ⟨ba, 3, none⟩ = some (.int .i64 p) ∧ (w4).cell? ⟨ba, 4, none⟩ = some (.int .i64 n) ∧ (w4).cell? ⟨ba, 5, none⟩ = some (.int .i64 q))) := ⟨k4.cells, a4.cells⟩; obtain ⟨i0, i1, i2⟩ := z4.cells; have j0 := z4.free 0; have j1 := z4.free 1; have j2 := z4.free 2; have T1 : (((((w4.setCell ⟨bz, 0, none⟩ (.int .i64 room)).setCell ⟨bz, 1, none⟩ (.slice a' N cap')).setCell ⟨bz, 2, none⟩ (.int .i64 LR)).cell? ⟨bn, 0, none⟩ = some (.int .i64 room) ∧ (((w4.setCell ⟨bz, 0, none⟩ (.int .i64 room)).setCell ⟨bz, 1, none⟩ (.slice a' N cap')).setCell ⟨bz, 2, none⟩ (.int .i64 LR)).cell? ⟨bn, 1, none⟩ = some (.slice a' N cap') ∧ (((w4.setCell ⟨bz, 0, none⟩ (.int .i64 room)).setCell ⟨bz, 1, none⟩ (.slice a' N cap')).setCell ⟨bz, 2, none⟩ (.int .i64 LR)).cell? ⟨bn, 2, none⟩ = some (.int .i64 LR)) ∧ ((((w4.setCell ⟨bz, 0, none⟩ (.int .i64 room)).setCell ⟨bz, 1, none⟩ (.slice a' N cap')).setCell ⟨bz, 2, none⟩ (.int .i64 LR)).cell? ⟨ba, 0, none⟩ = some (.int .i64 1) ∧ (((w4.setCell ⟨bz, 0, none⟩ (.int .i64 room)).setCell ⟨bz, 1, none⟩ (.slice a' N cap')).setCell ⟨bz, 2, none⟩ (.int .i64 LR)).cell? ⟨ba, 1, none⟩ = some (.int .i64 v) ∧ (((w4.setCell ⟨bz, 0, none⟩ (.int .i64 room)).setCell ⟨bz, 1, none⟩ (.slice a' N cap')).setCell ⟨bz, 2, none⟩ (.int .i64 LR)).cell? ⟨ba, 2, none⟩ = some (.string m) ∧ (((w4.setCell ⟨bz, 0, none⟩ (.int .i64 room)).setCell ⟨bz, 1, none⟩ (.slice a' N cap')).setCell ⟨bz, 2, none⟩ (.int .i64 LR)).cell? ⟨ba, 3, none⟩ = some (.int .i64 p) ∧ (((w4.setCell ⟨bz, 0, none⟩ (.int .i64 room)).setCell ⟨bz, 1, none⟩ (.slice a' N cap')).setCell ⟨bz, 2, none⟩ (.int .i64 LR)).cell? ⟨ba, 4, none⟩ = some (.int .i64 n) ∧ (((w4.setCell ⟨bz, 0, none⟩ (.int .i64 room)).setCell ⟨bz, 1, none⟩ (.slice a' N cap')).setCell ⟨bz, 2, none⟩ (.int .i64 LR)).cell? ⟨ba, 5, none⟩ = some (.int .i64 q))) := ⟨(((k4.other HNE.out.2.1 0 _).other HNE.out.2.1 1 _).other HNE.out.2.1 2 _).cells, (((a4.other HNE.out.2.2 0 _).other HNE.out.2.2 1 _).other HNE.out.2.2 2 _).cells⟩))
  all_goals (
    have r4 := HR3.out.tab HT3.out hk34
    have hkw : Kept2 tb mb w w4 := (kept2_below HB3.out).trans hk34
    obtain ⟨Vf, hVf⟩ : ∃ V, V = ((w4.setCell ⟨bz, 0, none⟩ (.int .i64 room)).setCell ⟨bz, 1, none⟩ (.slice a' N cap')).setCell ⟨bz, 2, none⟩ (.int .i64 LR) := ⟨_, rfl⟩
    obtain ⟨⟨g0, g1, g2⟩, hrF, htF, hkF⟩ := ends_does (w := w) z4 HNE.out.1 ht4 htb hmb hkw r4 room N cap' LR Vf hVf
    rw [← hVf]
    have HE := Lib.hid (And.intro hrF (And.intro htF hkF))
    clear hVf T1 T0 i0 i1 i2 j0 j1 j2 k4 a4 z4 hrF htF hkF S0
    go_wp2
    exact bodyPost_ret (v := .tuple #[rv room a' N cap' LR, .bool (XC == C)]) (by simp [results, Try.results9, go_sem, g0, g1, g2]) rfl ⟨a', cap', rfl, HE.out.1, hc2, HE.out.2.1, HE.out.2.2⟩)

set_option maxRecDepth 20000 in
set_option maxHeartbeats 8000000 in
theorem does_drop (tb mb room : Nat) (t T : Tb) (a : Option Addr) (cap : Nat) (v : Int) (m : ByteArray) (p n q : Int) (w : World) (h : IsTab w tb mb room t) (hr : Row w a T.l) (hc : T.l.length ≤ cap) (hT : Tb.ok room T) (hlr0 : 0 ≤ T.learned) (hlr : T.learned ≤ 1000000) (hn1 : t.learned ≤ 1000000) (hm : m.size ≤ 20) (hv : -9223372036854775808 ≤ v ∧ v ≤ 9223372036854775807) (hnn : -9223372036854775808 ≤ n ∧ n ≤ 9223372036854775807) :
    Calls Try.prog 9 #[.pointer (some ⟨tb, 0, none⟩), rv room a T.l.length cap T.learned, av ⟨2, v, m, p, n, q⟩] w (DoesAns tb mb room w (dropT t v m) (dropT T v m)) := by
  have hml : m.size ≤ maxLen := by unfold maxLen; omega
  have h9 : T.l.length ≤ 900 := by have := hT.room; have := h.room64; omega
  have hky : KyOk ⟨v, m⟩ := ⟨by simp [Lit.wf, IntKind.min, IntKind.max, IntKind.signed, IntKind.bits]; omega, hml⟩
  obtain ⟨W, hW⟩ : ∃ W, W = ((w.alloc (.cells #[.int .i64 room, .slice a T.l.length cap, .int .i64 T.learned] 31)).alloc (.cells #[.int .i64 2, .int .i64 v, .string m, .int .i64 p, .int .i64 n, .int .i64 q] 35)).alloc (.cells #[.int .i64 0, .slice none 0 0, .int .i64 0] 31) := ⟨_, rfl⟩
  obtain ⟨kW, aW, rW, hB⟩ := three_boxes w room a T.l.length cap T.learned ⟨2, v, m, p, n, q⟩ W hW
  have hX := rdrop_w room a cap T v m W (hr.next hB) hc hT.sorted
  have HP := Lib.hid (fun w' (ht : IsTab w' tb mb room t) => drop_w tb mb room t v m w' ht hky)
  obtain ⟨Y, hY⟩ : ∃ Y, dropT T v m = Y := ⟨_, rfl⟩
  obtain ⟨X, hXX⟩ : ∃ X, dropT t v m = X := ⟨_, rfl⟩
  rw [hY] at hX
  rw [hXX] at HP
  rw [hY, hXX]
  obtain ⟨N, hN⟩ : ∃ N, Y.1.l.length = N := ⟨_, rfl⟩
  obtain ⟨LR, hLR⟩ : ∃ L, Y.1.learned = L := ⟨_, rfl⟩
  obtain ⟨C, hC⟩ : ∃ C, Y.2 = C := ⟨_, rfl⟩
  obtain ⟨XC, hXC⟩ : ∃ C, X.2 = C := ⟨_, rfl⟩
  unfold RefAns at hX
  unfold DoesAns
  rw [hN, hLR, hC] at hX
  rw [hN, hLR, hC, hXC]
  rw [hXC] at HP
  have htb := h.blk.lt
  have hmb := h.map.lt
  have hHB := Lib.hid hB
  have hTW := Lib.hid (h.next hB)
  have HA := Lib.hid aW
  have HZ := Lib.hid rW
  have HX := Lib.hid hX
  clear hX hB kW aW rW h hr hT hXX hY hN hLR hC hXC
  go_enter Try.func9, Try.ntmps9
  go_wp2_with (go_at_call 21; rw [← hW]; refine HX.out.mono ?_; rintro e w2 ⟨a', cap', rfl, hr2, hc2, hB2⟩; obtain ⟨e0, e1, e2, e3, e4, e5⟩ := (HA.out.next hB2).cells)
  obtain ⟨w3, hw3⟩ : ∃ w3, w3 = w2.alloc (.cells #[.int .i64 room, .slice a' N cap', .int .i64 LR] 31) := ⟨_, rfl⟩
  have hB23 : Below w2.heap.size w2 w3 := by rw [hw3]; exact below_box _ _
  have k3 : RBlk w3 w2.heap.size room a' N cap' LR := by rw [hw3]; exact rblk_new _ _ _ _ _ _
  have hBW3 : Below W.heap.size W w3 := hB2.trans (hB23.mono hB2.size)
  have hB3 : Below w.heap.size w w3 := hHB.out.trans (hBW3.mono hHB.out.size)
  have hsz2 : w.heap.size + 1 + 1 < w2.heap.size := Nat.lt_of_lt_of_le HZ.out.lt hB2.size
  have a3 := HA.out.next hBW3
  have z3 := HZ.out.next hBW3
  have t3 := hTW.out.next hBW3
  have r3 := hr2.next hB23
  rw [← hw3]
  clear hw3 e0 e1 e2 e3 e4 e5 hW HX
  obtain ⟨bn, hbn⟩ : ∃ bn, w2.heap.size = bn := ⟨_, rfl⟩
  obtain ⟨bz, hbz⟩ : ∃ bz, w.heap.size + 1 + 1 = bz := ⟨_, rfl⟩
  obtain ⟨ba, hba⟩ : ∃ ba, w.heap.size + 1 = ba := ⟨_, rfl⟩
  rw [hbz] at hsz2 z3 ⊢
  rw [hbn] at k3 hsz2 ⊢
  rw [hba] at a3 ⊢
  have l1 : w.heap.size ≤ bz := by omega
  have n1 : bn ≠ tb := by omega
  have n2 : bn ≠ mb := by omega
  have n3 : ba ≠ tb := by omega
  have n4 : ba ≠ mb := by omega
  have n5 : bz ≠ tb := by omega
  have n6 : bz ≠ mb := by omega
  have n7 : bn ≠ bz := by omega
  have n8 : ba ≠ bz := by omega
  have HNE := Lib.hid (And.intro l1 (And.intro n7 n8))
  have S0 : (((w3).cell? ⟨bn, 0, none⟩ = some (.int .i64 room) ∧ (w3).cell? ⟨bn, 1, none⟩ = some (.slice a' N cap') ∧ (w3).cell? ⟨bn, 2, none⟩ = some (.int .i64 LR)) ∧ ((w3).cell? ⟨ba, 0, none⟩ = some (.int .i64 2) ∧ (w3).cell? ⟨ba, 1, none⟩ = some (.int .i64 v) ∧ (w3).cell? ⟨ba, 2, none⟩ = some (.string m) ∧ (w3).cell? ⟨ba, 3, none⟩ = some (.int .i64 p) ∧ (w3).cell? ⟨ba, 4, none⟩ = some (.int .i64 n) ∧ (w3).cell? ⟨ba, 5, none⟩ = some (.int .i64 q))) := ⟨k3.cells, a3.cells⟩
  have HC := Lib.hid (HP.out w3.drew (t3.same rfl rfl))
  have HT3 := Lib.hid t3
  have HK3 := Lib.hid k3
  have HA3 := Lib.hid a3
  have HZ3 := Lib.hid z3
  have HR3 := Lib.hid r3
  have HB3 := Lib.hid hB3
  clear t3 k3 a3 z3 r3 hB3 hBW3 hB23 hB2 hbn hbz hba hr2 hsz2 HA HZ HP hTW hHB n7 n8
  go_region_held3 (fun w' => (((w').cell? ⟨bn, 0, none⟩ = some (.int .i64 room) ∧ (w').cell? ⟨bn, 1, none⟩ = some (.slice a' N cap') ∧ (w').cell? ⟨bn, 2, none⟩ = some (.int .i64 LR)) ∧ ((w').cell? ⟨ba, 0, none⟩ = some (.int .i64 2) ∧ (w').cell? ⟨ba, 1, none⟩ = some (.int .i64 v) ∧ (w').cell? ⟨ba, 2, none⟩ = some (.string m) ∧ (w').cell? ⟨ba, 3, none⟩ = some (.int .i64 p) ∧ (w').cell? ⟨ba, 4, none⟩ = some (.int .i64 n) ∧ (w').cell? ⟨ba, 5, none⟩ = some (.int .i64 q)))) (first | exact S0 | exact T0 | exact T1) (first | (go_at_call 17; (with_reducible refine HC.out.mono ?_); rintro e w4 ⟨rfl, ht4, hk4⟩; have hk34 : Kept2 tb mb w3 w4 := (kept2_below (Below.refl _ w3).drew).trans hk4; have k4 := HK3.out.kept2 hk34 n1 n2; have a4 := HA3.out.kept2 hk34 n3 n4; have z4 := HZ3.out.kept2 hk34 n5 n6; have T0 : (((w4).cell? ⟨bn, 0, none⟩ = some (.int .i64 room) ∧ (w4).cell? ⟨bn, 1, none⟩ = some (.slice a' N cap') ∧ (w4).cell? ⟨bn, 2, none⟩ = some (.int .i64 LR)) ∧ ((w4).cell? ⟨ba, 0, none⟩ = some (.int .i64 2) ∧ (w4).cell? ⟨ba, 1, none⟩ = some (.int .i64 v) ∧ (w4).cell? ⟨ba, 2, none⟩ = some (.string m) ∧ (w4).cell? ⟨ba, 3, none⟩ = some (.int .i64 p) ∧ (w4).cell? ⟨ba, 4, none⟩ = some (.int .i64 n) ∧ (w4).cell? ⟨ba, 5, none⟩ = some (.int .i64 q))) := ⟨k4.cells, a4.cells⟩; obtain ⟨i0, i1, i2⟩ := z4.cells; have j0 := z4.free 0; have j1 := z4.free 1; have j2 := z4.free 2; have T1 : (((((w4.setCell ⟨bz, 0, none⟩ (.int .i64 room)).setCell ⟨bz, 1, none⟩ (.slice a' N cap')).setCell ⟨bz, 2, none⟩ (.int .i64 LR)).cell? ⟨bn, 0, none⟩ = some (.int .i64 room) ∧ (((w4.setCell ⟨bz, 0, none⟩ (.int .i64 room)).setCell ⟨bz, 1, none⟩ (.slice a' N cap')).setCell ⟨bz, 2, none⟩ (.int .i64 LR)).cell? ⟨bn, 1, none⟩ = some (.slice a' N cap') ∧ (((w4.setCell ⟨bz, 0, none⟩ (.int .i64 room)).setCell ⟨bz, 1, none⟩ (.slice a' N cap')).setCell ⟨bz, 2, none⟩ (.int .i64 LR)).cell? ⟨bn, 2, none⟩ = some (.int .i64 LR)) ∧ ((((w4.setCell ⟨bz, 0, none⟩ (.int .i64 room)).setCell ⟨bz, 1, none⟩ (.slice a' N cap')).setCell ⟨bz, 2, none⟩ (.int .i64 LR)).cell? ⟨ba, 0, none⟩ = some (.int .i64 2) ∧ (((w4.setCell ⟨bz, 0, none⟩ (.int .i64 room)).setCell ⟨bz, 1, none⟩ (.slice a' N cap')).setCell ⟨bz, 2, none⟩ (.int .i64 LR)).cell? ⟨ba, 1, none⟩ = some (.int .i64 v) ∧ (((w4.setCell ⟨bz, 0, none⟩ (.int .i64 room)).setCell ⟨bz, 1, none⟩ (.slice a' N cap')).setCell ⟨bz, 2, none⟩ (.int .i64 LR)).cell? ⟨ba, 2, none⟩ = some (.string m) ∧ (((w4.setCell ⟨bz, 0, none⟩ (.int .i64 room)).setCell ⟨bz, 1, none⟩ (.slice a' N cap')).setCell ⟨bz, 2, none⟩ (.int .i64 LR)).cell? ⟨ba, 3, none⟩ = some (.int .i64 p) ∧ (((w4.setCell ⟨bz, 0, none⟩ (.int .i64 room)).setCell ⟨bz, 1, none⟩ (.slice a' N cap')).setCell ⟨bz, 2, none⟩ (.int .i64 LR)).cell? ⟨ba, 4, none⟩ = some (.int .i64 n) ∧ (((w4.setCell ⟨bz, 0, none⟩ (.int .i64 room)).setCell ⟨bz, 1, none⟩ (.slice a' N cap')).setCell ⟨bz, 2, none⟩ (.int .i64 LR)).cell? ⟨ba, 5, none⟩ = some (.int .i64 q))) := ⟨(((k4.other HNE.out.2.1 0 _).other HNE.out.2.1 1 _).other HNE.out.2.1 2 _).cells, (((a4.other HNE.out.2.2 0 _).other HNE.out.2.2 1 _).other HNE.out.2.2 2 _).cells⟩))
  all_goals (
    have r4 := HR3.out.tab HT3.out hk34
    have hkw : Kept2 tb mb w w4 := (kept2_below HB3.out).trans hk34
    obtain ⟨Vf, hVf⟩ : ∃ V, V = ((w4.setCell ⟨bz, 0, none⟩ (.int .i64 room)).setCell ⟨bz, 1, none⟩ (.slice a' N cap')).setCell ⟨bz, 2, none⟩ (.int .i64 LR) := ⟨_, rfl⟩
    obtain ⟨⟨g0, g1, g2⟩, hrF, htF, hkF⟩ := ends_does (w := w) z4 HNE.out.1 ht4 htb hmb hkw r4 room N cap' LR Vf hVf
    rw [← hVf]
    have HE := Lib.hid (And.intro hrF (And.intro htF hkF))
    clear hVf T1 T0 i0 i1 i2 j0 j1 j2 k4 a4 z4 hrF htF hkF S0
    go_wp2
    exact bodyPost_ret (v := .tuple #[rv room a' N cap' LR, .bool (XC == C)]) (by simp [results, Try.results9, go_sem, g0, g1, g2]) rfl ⟨a', cap', rfl, HE.out.1, hc2, HE.out.2.1, HE.out.2.2⟩)

set_option maxRecDepth 20000 in
set_option maxHeartbeats 8000000 in
theorem does_age (tb mb room : Nat) (t T : Tb) (a : Option Addr) (cap : Nat) (v : Int) (m : ByteArray) (p n q : Int) (w : World) (h : IsTab w tb mb room t) (hr : Row w a T.l) (hc : T.l.length ≤ cap) (hT : Tb.ok room T) (hlr0 : 0 ≤ T.learned) (hlr : T.learned ≤ 1000000) (hn1 : t.learned ≤ 1000000) (hm : m.size ≤ 20) (hv : -9223372036854775808 ≤ v ∧ v ≤ 9223372036854775807) (hnn : -9223372036854775808 ≤ n ∧ n ≤ 9223372036854775807) :
    Calls Try.prog 9 #[.pointer (some ⟨tb, 0, none⟩), rv room a T.l.length cap T.learned, av ⟨3, v, m, p, n, q⟩] w (DoesAns tb mb room w (ageT t n q) (ageT T n q)) := by
  have hml : m.size ≤ maxLen := by unfold maxLen; omega
  have h9 : T.l.length ≤ 900 := by have := hT.room; have := h.room64; omega
  have hky : KyOk ⟨v, m⟩ := ⟨by simp [Lit.wf, IntKind.min, IntKind.max, IntKind.signed, IntKind.bits]; omega, hml⟩
  obtain ⟨W, hW⟩ : ∃ W, W = ((w.alloc (.cells #[.int .i64 room, .slice a T.l.length cap, .int .i64 T.learned] 31)).alloc (.cells #[.int .i64 3, .int .i64 v, .string m, .int .i64 p, .int .i64 n, .int .i64 q] 35)).alloc (.cells #[.int .i64 0, .slice none 0 0, .int .i64 0] 31) := ⟨_, rfl⟩
  obtain ⟨kW, aW, rW, hB⟩ := three_boxes w room a T.l.length cap T.learned ⟨3, v, m, p, n, q⟩ W hW
  have hX := rage_w room a cap T n q W (hr.next hB) hc (fun x hx => (hT.each x hx).h0) hnn
  have HP := Lib.hid (fun w' (ht : IsTab w' tb mb room t) => age_w tb mb room t n q w' ht hnn)
  obtain ⟨Y, hY⟩ : ∃ Y, ageT T n q = Y := ⟨_, rfl⟩
  obtain ⟨X, hXX⟩ : ∃ X, ageT t n q = X := ⟨_, rfl⟩
  rw [hY] at hX
  rw [hXX] at HP
  rw [hY, hXX]
  obtain ⟨N, hN⟩ : ∃ N, Y.1.l.length = N := ⟨_, rfl⟩
  obtain ⟨LR, hLR⟩ : ∃ L, Y.1.learned = L := ⟨_, rfl⟩
  obtain ⟨C, hC⟩ : ∃ C, Y.2 = C := ⟨_, rfl⟩
  obtain ⟨XC, hXC⟩ : ∃ C, X.2 = C := ⟨_, rfl⟩
  unfold RefAns at hX
  unfold DoesAns
  rw [hN, hLR, hC] at hX
  rw [hN, hLR, hC, hXC]
  rw [hXC] at HP
  have htb := h.blk.lt
  have hmb := h.map.lt
  have hHB := Lib.hid hB
  have hTW := Lib.hid (h.next hB)
  have HA := Lib.hid aW
  have HZ := Lib.hid rW
  have HX := Lib.hid hX
  clear hX hB kW aW rW h hr hT hXX hY hN hLR hC hXC
  go_enter Try.func9, Try.ntmps9
  go_wp2_with (go_at_call 22; rw [← hW]; refine HX.out.mono ?_; rintro e w2 ⟨a', cap', rfl, hr2, hc2, hB2⟩; obtain ⟨e0, e1, e2, e3, e4, e5⟩ := (HA.out.next hB2).cells)
  obtain ⟨w3, hw3⟩ : ∃ w3, w3 = w2.alloc (.cells #[.int .i64 room, .slice a' N cap', .int .i64 LR] 31) := ⟨_, rfl⟩
  have hB23 : Below w2.heap.size w2 w3 := by rw [hw3]; exact below_box _ _
  have k3 : RBlk w3 w2.heap.size room a' N cap' LR := by rw [hw3]; exact rblk_new _ _ _ _ _ _
  have hBW3 : Below W.heap.size W w3 := hB2.trans (hB23.mono hB2.size)
  have hB3 : Below w.heap.size w w3 := hHB.out.trans (hBW3.mono hHB.out.size)
  have hsz2 : w.heap.size + 1 + 1 < w2.heap.size := Nat.lt_of_lt_of_le HZ.out.lt hB2.size
  have a3 := HA.out.next hBW3
  have z3 := HZ.out.next hBW3
  have t3 := hTW.out.next hBW3
  have r3 := hr2.next hB23
  rw [← hw3]
  clear hw3 e0 e1 e2 e3 e4 e5 hW HX
  obtain ⟨bn, hbn⟩ : ∃ bn, w2.heap.size = bn := ⟨_, rfl⟩
  obtain ⟨bz, hbz⟩ : ∃ bz, w.heap.size + 1 + 1 = bz := ⟨_, rfl⟩
  obtain ⟨ba, hba⟩ : ∃ ba, w.heap.size + 1 = ba := ⟨_, rfl⟩
  rw [hbz] at hsz2 z3 ⊢
  rw [hbn] at k3 hsz2 ⊢
  rw [hba] at a3 ⊢
  have l1 : w.heap.size ≤ bz := by omega
  have n1 : bn ≠ tb := by omega
  have n2 : bn ≠ mb := by omega
  have n3 : ba ≠ tb := by omega
  have n4 : ba ≠ mb := by omega
  have n5 : bz ≠ tb := by omega
  have n6 : bz ≠ mb := by omega
  have n7 : bn ≠ bz := by omega
  have n8 : ba ≠ bz := by omega
  have HNE := Lib.hid (And.intro l1 (And.intro n7 n8))
  have S0 : (((w3).cell? ⟨bn, 0, none⟩ = some (.int .i64 room) ∧ (w3).cell? ⟨bn, 1, none⟩ = some (.slice a' N cap') ∧ (w3).cell? ⟨bn, 2, none⟩ = some (.int .i64 LR)) ∧ ((w3).cell? ⟨ba, 0, none⟩ = some (.int .i64 3) ∧ (w3).cell? ⟨ba, 1, none⟩ = some (.int .i64 v) ∧ (w3).cell? ⟨ba, 2, none⟩ = some (.string m) ∧ (w3).cell? ⟨ba, 3, none⟩ = some (.int .i64 p) ∧ (w3).cell? ⟨ba, 4, none⟩ = some (.int .i64 n) ∧ (w3).cell? ⟨ba, 5, none⟩ = some (.int .i64 q))) := ⟨k3.cells, a3.cells⟩
  have HC := Lib.hid (HP.out w3.drew (t3.same rfl rfl))
  have HT3 := Lib.hid t3
  have HK3 := Lib.hid k3
  have HA3 := Lib.hid a3
  have HZ3 := Lib.hid z3
  have HR3 := Lib.hid r3
  have HB3 := Lib.hid hB3
  clear t3 k3 a3 z3 r3 hB3 hBW3 hB23 hB2 hbn hbz hba hr2 hsz2 HA HZ HP hTW hHB n7 n8
  go_region_held3 (fun w' => (((w').cell? ⟨bn, 0, none⟩ = some (.int .i64 room) ∧ (w').cell? ⟨bn, 1, none⟩ = some (.slice a' N cap') ∧ (w').cell? ⟨bn, 2, none⟩ = some (.int .i64 LR)) ∧ ((w').cell? ⟨ba, 0, none⟩ = some (.int .i64 3) ∧ (w').cell? ⟨ba, 1, none⟩ = some (.int .i64 v) ∧ (w').cell? ⟨ba, 2, none⟩ = some (.string m) ∧ (w').cell? ⟨ba, 3, none⟩ = some (.int .i64 p) ∧ (w').cell? ⟨ba, 4, none⟩ = some (.int .i64 n) ∧ (w').cell? ⟨ba, 5, none⟩ = some (.int .i64 q)))) (first | exact S0 | exact T0 | exact T1) (first | (go_at_call 16; (with_reducible refine HC.out.mono ?_); rintro e w4 ⟨rfl, ht4, hk4⟩; have hk34 : Kept2 tb mb w3 w4 := (kept2_below (Below.refl _ w3).drew).trans hk4; have k4 := HK3.out.kept2 hk34 n1 n2; have a4 := HA3.out.kept2 hk34 n3 n4; have z4 := HZ3.out.kept2 hk34 n5 n6; have T0 : (((w4).cell? ⟨bn, 0, none⟩ = some (.int .i64 room) ∧ (w4).cell? ⟨bn, 1, none⟩ = some (.slice a' N cap') ∧ (w4).cell? ⟨bn, 2, none⟩ = some (.int .i64 LR)) ∧ ((w4).cell? ⟨ba, 0, none⟩ = some (.int .i64 3) ∧ (w4).cell? ⟨ba, 1, none⟩ = some (.int .i64 v) ∧ (w4).cell? ⟨ba, 2, none⟩ = some (.string m) ∧ (w4).cell? ⟨ba, 3, none⟩ = some (.int .i64 p) ∧ (w4).cell? ⟨ba, 4, none⟩ = some (.int .i64 n) ∧ (w4).cell? ⟨ba, 5, none⟩ = some (.int .i64 q))) := ⟨k4.cells, a4.cells⟩; obtain ⟨i0, i1, i2⟩ := z4.cells; have j0 := z4.free 0; have j1 := z4.free 1; have j2 := z4.free 2; have T1 : (((((w4.setCell ⟨bz, 0, none⟩ (.int .i64 room)).setCell ⟨bz, 1, none⟩ (.slice a' N cap')).setCell ⟨bz, 2, none⟩ (.int .i64 LR)).cell? ⟨bn, 0, none⟩ = some (.int .i64 room) ∧ (((w4.setCell ⟨bz, 0, none⟩ (.int .i64 room)).setCell ⟨bz, 1, none⟩ (.slice a' N cap')).setCell ⟨bz, 2, none⟩ (.int .i64 LR)).cell? ⟨bn, 1, none⟩ = some (.slice a' N cap') ∧ (((w4.setCell ⟨bz, 0, none⟩ (.int .i64 room)).setCell ⟨bz, 1, none⟩ (.slice a' N cap')).setCell ⟨bz, 2, none⟩ (.int .i64 LR)).cell? ⟨bn, 2, none⟩ = some (.int .i64 LR)) ∧ ((((w4.setCell ⟨bz, 0, none⟩ (.int .i64 room)).setCell ⟨bz, 1, none⟩ (.slice a' N cap')).setCell ⟨bz, 2, none⟩ (.int .i64 LR)).cell? ⟨ba, 0, none⟩ = some (.int .i64 3) ∧ (((w4.setCell ⟨bz, 0, none⟩ (.int .i64 room)).setCell ⟨bz, 1, none⟩ (.slice a' N cap')).setCell ⟨bz, 2, none⟩ (.int .i64 LR)).cell? ⟨ba, 1, none⟩ = some (.int .i64 v) ∧ (((w4.setCell ⟨bz, 0, none⟩ (.int .i64 room)).setCell ⟨bz, 1, none⟩ (.slice a' N cap')).setCell ⟨bz, 2, none⟩ (.int .i64 LR)).cell? ⟨ba, 2, none⟩ = some (.string m) ∧ (((w4.setCell ⟨bz, 0, none⟩ (.int .i64 room)).setCell ⟨bz, 1, none⟩ (.slice a' N cap')).setCell ⟨bz, 2, none⟩ (.int .i64 LR)).cell? ⟨ba, 3, none⟩ = some (.int .i64 p) ∧ (((w4.setCell ⟨bz, 0, none⟩ (.int .i64 room)).setCell ⟨bz, 1, none⟩ (.slice a' N cap')).setCell ⟨bz, 2, none⟩ (.int .i64 LR)).cell? ⟨ba, 4, none⟩ = some (.int .i64 n) ∧ (((w4.setCell ⟨bz, 0, none⟩ (.int .i64 room)).setCell ⟨bz, 1, none⟩ (.slice a' N cap')).setCell ⟨bz, 2, none⟩ (.int .i64 LR)).cell? ⟨ba, 5, none⟩ = some (.int .i64 q))) := ⟨(((k4.other HNE.out.2.1 0 _).other HNE.out.2.1 1 _).other HNE.out.2.1 2 _).cells, (((a4.other HNE.out.2.2 0 _).other HNE.out.2.2 1 _).other HNE.out.2.2 2 _).cells⟩))
  all_goals (
    have r4 := HR3.out.tab HT3.out hk34
    have hkw : Kept2 tb mb w w4 := (kept2_below HB3.out).trans hk34
    obtain ⟨Vf, hVf⟩ : ∃ V, V = ((w4.setCell ⟨bz, 0, none⟩ (.int .i64 room)).setCell ⟨bz, 1, none⟩ (.slice a' N cap')).setCell ⟨bz, 2, none⟩ (.int .i64 LR) := ⟨_, rfl⟩
    obtain ⟨⟨g0, g1, g2⟩, hrF, htF, hkF⟩ := ends_does (w := w) z4 HNE.out.1 ht4 htb hmb hkw r4 room N cap' LR Vf hVf
    rw [← hVf]
    have HE := Lib.hid (And.intro hrF (And.intro htF hkF))
    clear hVf T1 T0 i0 i1 i2 j0 j1 j2 k4 a4 z4 hrF htF hkF S0
    go_wp2
    exact bodyPost_ret (v := .tuple #[rv room a' N cap' LR, .bool (XC == C)]) (by simp [results, Try.results9, go_sem, g0, g1, g2]) rfl ⟨a', cap', rfl, HE.out.1, hc2, HE.out.2.1, HE.out.2.2⟩)

set_option maxRecDepth 20000 in
set_option maxHeartbeats 8000000 in
theorem does_flush (tb mb room : Nat) (t T : Tb) (a : Option Addr) (cap : Nat) (v : Int) (m : ByteArray) (p n q : Int) (w : World) (h : IsTab w tb mb room t) (hr : Row w a T.l) (hc : T.l.length ≤ cap) (hT : Tb.ok room T) (hlr0 : 0 ≤ T.learned) (hlr : T.learned ≤ 1000000) (hn1 : t.learned ≤ 1000000) (hm : m.size ≤ 20) (hv : -9223372036854775808 ≤ v ∧ v ≤ 9223372036854775807) (hnn : -9223372036854775808 ≤ n ∧ n ≤ 9223372036854775807) :
    Calls Try.prog 9 #[.pointer (some ⟨tb, 0, none⟩), rv room a T.l.length cap T.learned, av ⟨4, v, m, p, n, q⟩] w (DoesAns tb mb room w (flushT t v p) (flushT T v p)) := by
  have hml : m.size ≤ maxLen := by unfold maxLen; omega
  have h9 : T.l.length ≤ 900 := by have := hT.room; have := h.room64; omega
  have hky : KyOk ⟨v, m⟩ := ⟨by simp [Lit.wf, IntKind.min, IntKind.max, IntKind.signed, IntKind.bits]; omega, hml⟩
  obtain ⟨W, hW⟩ : ∃ W, W = ((w.alloc (.cells #[.int .i64 room, .slice a T.l.length cap, .int .i64 T.learned] 31)).alloc (.cells #[.int .i64 4, .int .i64 v, .string m, .int .i64 p, .int .i64 n, .int .i64 q] 35)).alloc (.cells #[.int .i64 0, .slice none 0 0, .int .i64 0] 31) := ⟨_, rfl⟩
  obtain ⟨kW, aW, rW, hB⟩ := three_boxes w room a T.l.length cap T.learned ⟨4, v, m, p, n, q⟩ W hW
  have hX := rflush_w room a cap T v p W (hr.next hB) hc
  have HP := Lib.hid (fun w' (ht : IsTab w' tb mb room t) => flush_w tb mb room t v p w' ht)
  obtain ⟨Y, hY⟩ : ∃ Y, flushT T v p = Y := ⟨_, rfl⟩
  obtain ⟨X, hXX⟩ : ∃ X, flushT t v p = X := ⟨_, rfl⟩
  rw [hY] at hX
  rw [hXX] at HP
  rw [hY, hXX]
  obtain ⟨N, hN⟩ : ∃ N, Y.1.l.length = N := ⟨_, rfl⟩
  obtain ⟨LR, hLR⟩ : ∃ L, Y.1.learned = L := ⟨_, rfl⟩
  obtain ⟨C, hC⟩ : ∃ C, Y.2 = C := ⟨_, rfl⟩
  obtain ⟨XC, hXC⟩ : ∃ C, X.2 = C := ⟨_, rfl⟩
  unfold RefAns at hX
  unfold DoesAns
  rw [hN, hLR, hC] at hX
  rw [hN, hLR, hC, hXC]
  rw [hXC] at HP
  have htb := h.blk.lt
  have hmb := h.map.lt
  have hHB := Lib.hid hB
  have hTW := Lib.hid (h.next hB)
  have HA := Lib.hid aW
  have HZ := Lib.hid rW
  have HX := Lib.hid hX
  clear hX hB kW aW rW h hr hT hXX hY hN hLR hC hXC
  go_enter Try.func9, Try.ntmps9
  go_wp2_with (go_at_call 23; rw [← hW]; refine HX.out.mono ?_; rintro e w2 ⟨a', cap', rfl, hr2, hc2, hB2⟩; obtain ⟨e0, e1, e2, e3, e4, e5⟩ := (HA.out.next hB2).cells)
  obtain ⟨w3, hw3⟩ : ∃ w3, w3 = w2.alloc (.cells #[.int .i64 room, .slice a' N cap', .int .i64 LR] 31) := ⟨_, rfl⟩
  have hB23 : Below w2.heap.size w2 w3 := by rw [hw3]; exact below_box _ _
  have k3 : RBlk w3 w2.heap.size room a' N cap' LR := by rw [hw3]; exact rblk_new _ _ _ _ _ _
  have hBW3 : Below W.heap.size W w3 := hB2.trans (hB23.mono hB2.size)
  have hB3 : Below w.heap.size w w3 := hHB.out.trans (hBW3.mono hHB.out.size)
  have hsz2 : w.heap.size + 1 + 1 < w2.heap.size := Nat.lt_of_lt_of_le HZ.out.lt hB2.size
  have a3 := HA.out.next hBW3
  have z3 := HZ.out.next hBW3
  have t3 := hTW.out.next hBW3
  have r3 := hr2.next hB23
  rw [← hw3]
  clear hw3 e0 e1 e2 e3 e4 e5 hW HX
  obtain ⟨bn, hbn⟩ : ∃ bn, w2.heap.size = bn := ⟨_, rfl⟩
  obtain ⟨bz, hbz⟩ : ∃ bz, w.heap.size + 1 + 1 = bz := ⟨_, rfl⟩
  obtain ⟨ba, hba⟩ : ∃ ba, w.heap.size + 1 = ba := ⟨_, rfl⟩
  rw [hbz] at hsz2 z3 ⊢
  rw [hbn] at k3 hsz2 ⊢
  rw [hba] at a3 ⊢
  have l1 : w.heap.size ≤ bz := by omega
  have n1 : bn ≠ tb := by omega
  have n2 : bn ≠ mb := by omega
  have n3 : ba ≠ tb := by omega
  have n4 : ba ≠ mb := by omega
  have n5 : bz ≠ tb := by omega
  have n6 : bz ≠ mb := by omega
  have n7 : bn ≠ bz := by omega
  have n8 : ba ≠ bz := by omega
  have HNE := Lib.hid (And.intro l1 (And.intro n7 n8))
  have S0 : (((w3).cell? ⟨bn, 0, none⟩ = some (.int .i64 room) ∧ (w3).cell? ⟨bn, 1, none⟩ = some (.slice a' N cap') ∧ (w3).cell? ⟨bn, 2, none⟩ = some (.int .i64 LR)) ∧ ((w3).cell? ⟨ba, 0, none⟩ = some (.int .i64 4) ∧ (w3).cell? ⟨ba, 1, none⟩ = some (.int .i64 v) ∧ (w3).cell? ⟨ba, 2, none⟩ = some (.string m) ∧ (w3).cell? ⟨ba, 3, none⟩ = some (.int .i64 p) ∧ (w3).cell? ⟨ba, 4, none⟩ = some (.int .i64 n) ∧ (w3).cell? ⟨ba, 5, none⟩ = some (.int .i64 q))) := ⟨k3.cells, a3.cells⟩
  have HC := Lib.hid (HP.out w3.drew (t3.same rfl rfl))
  have HT3 := Lib.hid t3
  have HK3 := Lib.hid k3
  have HA3 := Lib.hid a3
  have HZ3 := Lib.hid z3
  have HR3 := Lib.hid r3
  have HB3 := Lib.hid hB3
  clear t3 k3 a3 z3 r3 hB3 hBW3 hB23 hB2 hbn hbz hba hr2 hsz2 HA HZ HP hTW hHB n7 n8
  go_region_held3 (fun w' => (((w').cell? ⟨bn, 0, none⟩ = some (.int .i64 room) ∧ (w').cell? ⟨bn, 1, none⟩ = some (.slice a' N cap') ∧ (w').cell? ⟨bn, 2, none⟩ = some (.int .i64 LR)) ∧ ((w').cell? ⟨ba, 0, none⟩ = some (.int .i64 4) ∧ (w').cell? ⟨ba, 1, none⟩ = some (.int .i64 v) ∧ (w').cell? ⟨ba, 2, none⟩ = some (.string m) ∧ (w').cell? ⟨ba, 3, none⟩ = some (.int .i64 p) ∧ (w').cell? ⟨ba, 4, none⟩ = some (.int .i64 n) ∧ (w').cell? ⟨ba, 5, none⟩ = some (.int .i64 q)))) (first | exact S0 | exact T0 | exact T1) (first | (go_at_call 24; (with_reducible refine HC.out.mono ?_); rintro e w4 ⟨rfl, ht4, hk4⟩; have hk34 : Kept2 tb mb w3 w4 := (kept2_below (Below.refl _ w3).drew).trans hk4; have k4 := HK3.out.kept2 hk34 n1 n2; have a4 := HA3.out.kept2 hk34 n3 n4; have z4 := HZ3.out.kept2 hk34 n5 n6; have T0 : (((w4).cell? ⟨bn, 0, none⟩ = some (.int .i64 room) ∧ (w4).cell? ⟨bn, 1, none⟩ = some (.slice a' N cap') ∧ (w4).cell? ⟨bn, 2, none⟩ = some (.int .i64 LR)) ∧ ((w4).cell? ⟨ba, 0, none⟩ = some (.int .i64 4) ∧ (w4).cell? ⟨ba, 1, none⟩ = some (.int .i64 v) ∧ (w4).cell? ⟨ba, 2, none⟩ = some (.string m) ∧ (w4).cell? ⟨ba, 3, none⟩ = some (.int .i64 p) ∧ (w4).cell? ⟨ba, 4, none⟩ = some (.int .i64 n) ∧ (w4).cell? ⟨ba, 5, none⟩ = some (.int .i64 q))) := ⟨k4.cells, a4.cells⟩; obtain ⟨i0, i1, i2⟩ := z4.cells; have j0 := z4.free 0; have j1 := z4.free 1; have j2 := z4.free 2; have T1 : (((((w4.setCell ⟨bz, 0, none⟩ (.int .i64 room)).setCell ⟨bz, 1, none⟩ (.slice a' N cap')).setCell ⟨bz, 2, none⟩ (.int .i64 LR)).cell? ⟨bn, 0, none⟩ = some (.int .i64 room) ∧ (((w4.setCell ⟨bz, 0, none⟩ (.int .i64 room)).setCell ⟨bz, 1, none⟩ (.slice a' N cap')).setCell ⟨bz, 2, none⟩ (.int .i64 LR)).cell? ⟨bn, 1, none⟩ = some (.slice a' N cap') ∧ (((w4.setCell ⟨bz, 0, none⟩ (.int .i64 room)).setCell ⟨bz, 1, none⟩ (.slice a' N cap')).setCell ⟨bz, 2, none⟩ (.int .i64 LR)).cell? ⟨bn, 2, none⟩ = some (.int .i64 LR)) ∧ ((((w4.setCell ⟨bz, 0, none⟩ (.int .i64 room)).setCell ⟨bz, 1, none⟩ (.slice a' N cap')).setCell ⟨bz, 2, none⟩ (.int .i64 LR)).cell? ⟨ba, 0, none⟩ = some (.int .i64 4) ∧ (((w4.setCell ⟨bz, 0, none⟩ (.int .i64 room)).setCell ⟨bz, 1, none⟩ (.slice a' N cap')).setCell ⟨bz, 2, none⟩ (.int .i64 LR)).cell? ⟨ba, 1, none⟩ = some (.int .i64 v) ∧ (((w4.setCell ⟨bz, 0, none⟩ (.int .i64 room)).setCell ⟨bz, 1, none⟩ (.slice a' N cap')).setCell ⟨bz, 2, none⟩ (.int .i64 LR)).cell? ⟨ba, 2, none⟩ = some (.string m) ∧ (((w4.setCell ⟨bz, 0, none⟩ (.int .i64 room)).setCell ⟨bz, 1, none⟩ (.slice a' N cap')).setCell ⟨bz, 2, none⟩ (.int .i64 LR)).cell? ⟨ba, 3, none⟩ = some (.int .i64 p) ∧ (((w4.setCell ⟨bz, 0, none⟩ (.int .i64 room)).setCell ⟨bz, 1, none⟩ (.slice a' N cap')).setCell ⟨bz, 2, none⟩ (.int .i64 LR)).cell? ⟨ba, 4, none⟩ = some (.int .i64 n) ∧ (((w4.setCell ⟨bz, 0, none⟩ (.int .i64 room)).setCell ⟨bz, 1, none⟩ (.slice a' N cap')).setCell ⟨bz, 2, none⟩ (.int .i64 LR)).cell? ⟨ba, 5, none⟩ = some (.int .i64 q))) := ⟨(((k4.other HNE.out.2.1 0 _).other HNE.out.2.1 1 _).other HNE.out.2.1 2 _).cells, (((a4.other HNE.out.2.2 0 _).other HNE.out.2.2 1 _).other HNE.out.2.2 2 _).cells⟩))
  all_goals (
    have r4 := HR3.out.tab HT3.out hk34
    have hkw : Kept2 tb mb w w4 := (kept2_below HB3.out).trans hk34
    obtain ⟨Vf, hVf⟩ : ∃ V, V = ((w4.setCell ⟨bz, 0, none⟩ (.int .i64 room)).setCell ⟨bz, 1, none⟩ (.slice a' N cap')).setCell ⟨bz, 2, none⟩ (.int .i64 LR) := ⟨_, rfl⟩
    obtain ⟨⟨g0, g1, g2⟩, hrF, htF, hkF⟩ := ends_does (w := w) z4 HNE.out.1 ht4 htb hmb hkw r4 room N cap' LR Vf hVf
    rw [← hVf]
    have HE := Lib.hid (And.intro hrF (And.intro htF hkF))
    clear hVf T1 T0 i0 i1 i2 j0 j1 j2 k4 a4 z4 hrF htF hkF S0
    go_wp2
    exact bodyPost_ret (v := .tuple #[rv room a' N cap' LR, .bool (XC == C)]) (by simp [results, Try.results9, go_sem, g0, g1, g2]) rfl ⟨a', cap', rfl, HE.out.1, hc2, HE.out.2.1, HE.out.2.2⟩)

set_option maxRecDepth 20000 in
set_option maxHeartbeats 8000000 in
theorem does_other (tb mb room : Nat) (t T : Tb) (a : Option Addr) (cap : Nat) (k v : Int) (m : ByteArray) (p n q : Int) (w : World) (h : IsTab w tb mb room t) (hr : Row w a T.l) (hc : T.l.length ≤ cap) (k0 : ¬ k = 0) (k1 : ¬ k = 1) (k2 : ¬ k = 2) (k3 : ¬ k = 3) (k4 : ¬ k = 4) :
    Calls Try.prog 9 #[.pointer (some ⟨tb, 0, none⟩), rv room a T.l.length cap T.learned, av ⟨k, v, m, p, n, q⟩] w (DoesAns tb mb room w (t, 0) (T, 0)) := by
  unfold DoesAns
  simp only
  obtain ⟨N, hN⟩ : ∃ N, T.l.length = N := ⟨_, rfl⟩
  obtain ⟨LR, hLR⟩ : ∃ L, T.learned = L := ⟨_, rfl⟩
  rw [hN, hLR]
  rw [hN] at hc
  have hB : Below w.heap.size w (((w.alloc (.cells #[.int .i64 room, .slice a N cap, .int .i64 LR] 31)).alloc (.cells #[.int .i64 k, .int .i64 v, .string m, .int .i64 p, .int .i64 n, .int .i64 q] 35)).alloc (.cells #[.int .i64 room, .slice a N cap, .int .i64 LR] 31)) := bw_alloc (bw_alloc (below_box _ _) _) _
  have hz : RBlk (((w.alloc (.cells #[.int .i64 room, .slice a N cap, .int .i64 LR] 31)).alloc (.cells #[.int .i64 k, .int .i64 v, .string m, .int .i64 p, .int .i64 n, .int .i64 q] 35)).alloc (.cells #[.int .i64 room, .slice a N cap, .int .i64 LR] 31)) (w.heap.size + 1 + 1) room a N cap LR := by
    have h := rblk_new ((w.alloc (.cells #[.int .i64 room, .slice a N cap, .int .i64 LR] 31)).alloc (.cells #[.int .i64 k, .int .i64 v, .string m, .int .i64 p, .int .i64 n, .int .i64 q] 35)) room a N cap LR
    rw [size_box, size_box] at h
    exact h
  have HE := Lib.hid (And.intro (hr.next hB) (And.intro (h.next hB) (kept2_below (tb := tb) (mb := mb) hB)))
  have HZ := Lib.hid hz
  clear hB hz h hr hN hLR
  go_enter Try.func9, Try.ntmps9
  go_wp2
  obtain ⟨g0, g1, g2⟩ := HZ.out.cells
  exact bodyPost_ret (v := .tuple #[rv room a N cap LR, .bool true]) (by simp [results, Try.results9, go_sem, g0, g1, g2]) rfl ⟨a, cap, rfl, HE.out.1, hc, HE.out.2.1, HE.out.2.2⟩

theorem does_w (tb mb room : Nat) (t T : Tb) (a : Option Addr) (cap : Nat) (x : Ac) (w : World) (h : IsTab w tb mb room t) (hr : Row w a T.l) (hc : T.l.length ≤ cap) (hT : Tb.ok room T) (hlr0 : 0 ≤ T.learned) (hlr : T.learned ≤ 1000000) (hn1 : t.learned ≤ 1000000) (hm : x.mac.size ≤ 20) (hv : -9223372036854775808 ≤ x.vlan ∧ x.vlan ≤ 9223372036854775807) (hnn : -9223372036854775808 ≤ x.n ∧ x.n ≤ 9223372036854775807) :
    Calls Try.prog 9 #[.pointer (some ⟨tb, 0, none⟩), rv room a T.l.length cap T.learned, av x] w (DoesAns tb mb room w (Dm.stepT room t x) (Dm.stepT room T x)) := by
  obtain ⟨k, v, m, p, n, q⟩ := x
  unfold Dm.stepT
  simp only at hm hv hnn ⊢
  by_cases k0 : k = 0
  · subst k0
    simp only [if_true]
    exact does_learn tb mb room t T a cap v m p n q w h hr hc hT hlr0 hlr hn1 hm hv hnn
  by_cases k1 : k = 1
  · subst k1
    simp only [if_true, if_neg k0]
    exact does_fix tb mb room t T a cap v m p n q w h hr hc hT hlr0 hlr hn1 hm hv hnn
  by_cases k2 : k = 2
  · subst k2
    simp only [if_true, if_neg k0, if_neg k1]
    exact does_drop tb mb room t T a cap v m p n q w h hr hc hT hlr0 hlr hn1 hm hv hnn
  by_cases k3 : k = 3
  · subst k3
    simp only [if_true, if_neg k0, if_neg k1, if_neg k2]
    exact does_age tb mb room t T a cap v m p n q w h hr hc hT hlr0 hlr hn1 hm hv hnn
  by_cases k4 : k = 4
  · subst k4
    simp only [if_true, if_neg k0, if_neg k1, if_neg k2, if_neg k3]
    exact does_flush tb mb room t T a cap v m p n q w h hr hc hT hlr0 hlr hn1 hm hv hnn
  simp only [if_neg k0, if_neg k1, if_neg k2, if_neg k3, if_neg k4]
  exact does_other tb mb room t T a cap k v m p n q w h hr hc k0 k1 k2 k3 k4
end Go.Proofs.Ytkpfdaomhkcokaa
