/-
  The document's own functions of layer 7: Find, Drop, Fix.
-/
import Derived.Test.YtkpfdaomhkcokaaFdM
namespace Go.Proofs.Ytkpfdaomhkcokaa
set_option linter.unusedVariables false
set_option linter.unusedSimpArgs false
open Go.RowKit Go.Maps Dm

theorem with_w (room : Int) (a : Option Addr) (cap : Nat) (lr : Int) (l : List En) (x : En) (w : World) (hr : Row w a l) (hc : l.length ≤ cap) (hh1 : l.length ≤ 900) :
    Calls Try.prog 42 #[rv room a l.length cap lr, ev x] w fun e w' => ∃ a' cap', e = .returned (rv room a' (putR l x).length cap' lr) ∧ Row w' a' (putR l x) ∧ (putR l x).length ≤ cap' ∧ Below w.heap.size w w' := by
  cases hth : (placeR l x.key).2 with
  | true => exact with_there room a cap lr l x w hr hc hh1 hth
  | false => exact with_new room a cap lr l x w hr hc hh1 hth

/-- What a function of the document's answers: the table behind, a number. -/
def RefAns (room : Int) (T : Tb × Int) (w : World) (e : Ending) (w' : World) : Prop :=
  ∃ a' cap', e = .returned (.tuple #[rv room a' T.1.l.length cap' T.1.learned, .int .i64 T.2]) ∧ Row w' a' T.1.l ∧ T.1.l.length ≤ cap' ∧ Below w.heap.size w w'
theorem two_tabs (w : World) (room : Int) (a : Option Addr) (n cap : Nat) (lr : Int) : RBlk ((w.alloc (.cells #[.int .i64 room, .slice a n cap, .int .i64 lr] 31)).alloc (.cells #[.int .i64 0, .slice none 0 0, .int .i64 0] 31)) w.heap.size room a n cap lr ∧ RBlk ((w.alloc (.cells #[.int .i64 room, .slice a n cap, .int .i64 lr] 31)).alloc (.cells #[.int .i64 0, .slice none 0 0, .int .i64 0] 31)) (w.heap.size + 1) 0 none 0 0 0 ∧ Below w.heap.size w ((w.alloc (.cells #[.int .i64 room, .slice a n cap, .int .i64 lr] 31)).alloc (.cells #[.int .i64 0, .slice none 0 0, .int .i64 0] 31)) := by
  refine ⟨(rblk_new w room a n cap lr).next (below_box _ _), ?_, bw_alloc (below_box _ _) _⟩
  rw [← size_box w (.cells #[.int .i64 room, .slice a n cap, .int .i64 lr] 31)]
  exact rblk_new _ _ _ _ _ _
theorem rblk_noStr {w : World} {b : Nat} {room : Int} {a : Option Addr} {n cap : Nat} {lr : Int} (h : RBlk w b room a n cap lr) (j : Nat) (m : ByteArray) : w.cell? ⟨b, j, none⟩ ≠ some (.string m) := by
  obtain ⟨k0, k1, k2⟩ := h.cells
  match j with
  | 0 => rw [k0]; simp
  | 1 => rw [k1]; simp
  | 2 => rw [k2]; simp
  | j + 3 => unfold RBlk at h; simp [World.cell?, h]
/-- A table's block holds no entry. -/
theorem row_ne {w : World} {a : Option Addr} {l : List En} {c : Nat} (h : Row w a l) {room : Int} {ra : Option Addr} {rn rcap : Nat} {rlr : Int} (hc : RBlk w c room ra rn rcap rlr) : l = [] ∨ ∀ g, a = some g → g.block ≠ c := by
  cases l with
  | nil => exact .inl rfl
  | cons y l =>
    right
    rintro g rfl e
    obtain ⟨g', o, e', _, k⟩ := h.at_ 0 y rfl
    cases e'
    exact rblk_noStr (b := g') ((show g' = c from e) ▸ hc) _ _ k.2.1
/-- Behind a store of a whole table into the result's block. -/
theorem row_set3 {w : World} {a : Option Addr} {l : List En} {c : Nat} (h : Row w a l) {room : Int} {ra : Option Addr} {rn rcap : Nat} {rlr : Int} (hc : RBlk w c room ra rn rcap rlr) (v0 v1 v2 : Value) :
    Row (((w.setCell ⟨c, 0, none⟩ v0).setCell ⟨c, 1, none⟩ v1).setCell ⟨c, 2, none⟩ v2) a l := by
  rcases row_ne h hc with rfl | hne
  · exact row_nil _ _
  · exact ((h.kept2 (tb := c) (mb := c) (kept2_set w 0 v0) (fun g e => ⟨hne g e, hne g e⟩)).kept2 (tb := c) (mb := c) (kept2_set _ 1 v1) (fun g e => ⟨hne g e, hne g e⟩)).kept2 (tb := c) (mb := c) (kept2_set _ 2 v2) (fun g e => ⟨hne g e, hne g e⟩)
theorem row_set1 {w : World} {a : Option Addr} {l : List En} {c : Nat} (h : Row w a l) {room : Int} {ra : Option Addr} {rn rcap : Nat} {rlr : Int} (hc : RBlk w c room ra rn rcap rlr) (j : Nat) (v0 : Value) :
    Row (w.setCell ⟨c, j, none⟩ v0) a l := by
  rcases row_ne h hc with rfl | hne
  · exact row_nil _ _
  · exact h.kept2 (tb := c) (mb := c) (kept2_set w j v0) (fun g e => ⟨hne g e, hne g e⟩)
/-- Where a document's function ends: the result's block stored last. -/
theorem ends_tab {w X : World} {blk : Nat} {a : Option Addr} {l : List En} (hrz : RBlk X blk 0 none 0 0 0) (hb : Below w.heap.size w X) (hw : w.heap.size ≤ blk) (hrow : Row X a l) (room : Int) (n cap : Nat) (lr : Int) :
    (∀ V, V = (((X.setCell ⟨blk, 0, none⟩ (.int .i64 room)).setCell ⟨blk, 1, none⟩ (.slice a n cap)).setCell ⟨blk, 2, none⟩ (.int .i64 lr)) → (V.cell? ⟨blk, 0, none⟩ = some (.int .i64 room) ∧ V.cell? ⟨blk, 1, none⟩ = some (.slice a n cap) ∧ V.cell? ⟨blk, 2, none⟩ = some (.int .i64 lr)) ∧ Row V a l ∧ Below w.heap.size w V) := by
  rintro V rfl
  exact ⟨(rblk_set3 hrz room a n cap lr).cells, row_set3 hrow hrz _ _ _, ((hb.setCell (p := ⟨blk, 0, none⟩) hw _).setCell (p := ⟨blk, 1, none⟩) hw _).setCell (p := ⟨blk, 2, none⟩) hw _⟩

set_option maxHeartbeats 2000000 in
theorem rfind_w (room : Int) (a : Option Addr) (cap : Nat) (lr : Int) (l : List En) (v : Int) (m : ByteArray) (w : World) (hr : Row w a l) (hs : Sorted l) :
    Calls Try.prog 13 #[rv room a l.length cap lr, .int .i64 v, .string m] w fun e w' => e = .returned (.tuple #[.int .i64 (findR l ⟨v, m⟩).1, .bool (findR l ⟨v, m⟩).2]) ∧ Grown w w' := by
  obtain ⟨W, hW⟩ : ∃ W, W = w.alloc (.cells #[.int .i64 room, .slice a l.length cap, .int .i64 lr] 31) := ⟨_, rfl⟩
  have hG : Grown w W := by rw [hW]; exact (Grown.refl w).alloc _
  have kW : RBlk W w.heap.size room a l.length cap lr := by rw [hW]; exact rblk_new _ _ _ _ _ _
  have hcall := place_w room a cap lr l v m W (hr.next hG.below)
  obtain ⟨hp1, hp2⟩ := place_find hs ⟨v, m⟩
  have HR := Lib.hid (hr.next hG.below)
  obtain ⟨n, hn⟩ : ∃ n, l.length = n := ⟨_, rfl⟩
  have hn1 : n ≤ 1000 := by have := hr.few; omega
  obtain ⟨k0, k1, k2⟩ := kW.cells
  cases hf : findE l ⟨v, m⟩ with
  | none =>
    have hff : findR l ⟨v, m⟩ = (0, false) := by unfold findR; rw [hf]
    rw [hff]
    rw [hf] at hp1
    obtain ⟨P, hP⟩ : ∃ P, (placeR l ⟨v, m⟩).1 = P := ⟨_, rfl⟩
    rw [hP, hp1] at hcall
    rw [hn] at hcall hW k1 ⊢
    clear hr hp1 hp2 hf hff hn kW
    go_enter Try.func13, Try.ntmps13
    go_wp2_with (go_at_call 32; rw [← hW]; refine hcall.mono ?_; rintro e w1 ⟨rfl, hG1⟩)
    go_ret2
    exact ⟨rfl, hG.trans hG1⟩
  | some x =>
    have hff : findR l ⟨v, m⟩ = (x.port, true) := by unfold findR; rw [hf]
    rw [hff]
    rw [hf] at hp1 hp2
    obtain ⟨xv, xm, xp, xh, xf⟩ := x
    have hat := hp2 hp1
    obtain ⟨P, hP⟩ : ∃ P, (placeR l ⟨v, m⟩).1 = P := ⟨_, rfl⟩
    rw [hP] at hat
    rw [hP, hp1] at hcall
    have hPn : P < n := by rw [← hn]; exact (List.getElem?_eq_some_iff.1 hat).1
    obtain ⟨g, o, rfl, hgl, q0, q1, q2, q3, q4⟩ := HR.out.at_ P _ hat
    simp only at q0 q1 q2 q3 q4
    have HQ := Lib.hid (fun w1 (hb : Below W.heap.size W w1) => (hb.cell (p := ⟨g, o + P * 5 + 2, none⟩) hgl).trans q2)
    have HK := Lib.hid kW
    rw [hn] at hcall hW k1 HK ⊢
    clear hr hp1 hp2 hf hff hn kW hat
    go_enter Try.func13, Try.ntmps13
    go_wp2_with (go_at_call 32; rw [← hW]; refine hcall.mono ?_; rintro e w1 ⟨rfl, hG1⟩; have u2 := HQ.out w1 hG1.below; obtain ⟨y0, y1, y2⟩ := (HK.out.next hG1.below).cells)
    go_ret2
    exact ⟨rfl, hG.trans hG1⟩

set_option maxHeartbeats 4000000 in
theorem rdrop_w (room : Int) (a : Option Addr) (cap : Nat) (t : Tb) (v : Int) (m : ByteArray) (w : World) (hr : Row w a t.l) (hc : t.l.length ≤ cap) (hs : Sorted t.l) :
    Calls Try.prog 21 #[rv room a t.l.length cap t.learned, .int .i64 v, .string m] w (RefAns room (dropT t v m) w) := by
  obtain ⟨l, lr⟩ := t
  simp only at hr hc hs ⊢
  have h2 := two_tabs w room a l.length cap lr
  obtain ⟨W, hW⟩ : ∃ W, W = (w.alloc (.cells #[.int .i64 room, .slice a l.length cap, .int .i64 lr] 31)).alloc (.cells #[.int .i64 0, .slice none 0 0, .int .i64 0] 31) := ⟨_, rfl⟩
  rw [← hW] at h2
  obtain ⟨kW, rW, hB⟩ := h2
  have hrW := hr.next hB
  have hcall := place_w room a cap lr l v m W hrW
  obtain ⟨hp1, hp2⟩ := place_find hs ⟨v, m⟩
  obtain ⟨k0, k1, k2⟩ := kW.cells
  obtain ⟨P, hP⟩ : ∃ P, (placeR l ⟨v, m⟩).1 = P := ⟨_, rfl⟩
  have hblk : ∀ g, a = some g → l ≠ [] → g.block < w.heap.size := fun g e hne => by
    cases l with
    | nil => exact absurd rfl hne
    | cons y l => obtain ⟨g', o', e', h', _⟩ := hr.at_ 0 y rfl; rw [e] at e'; cases e'; exact h'
  cases hf : findE l ⟨v, m⟩ with
  | none =>
    have e2 : dropT ⟨l, lr⟩ v m = (⟨l, lr⟩, 5) := by unfold dropT; rw [if_pos hf]
    rw [e2]
    rw [hf] at hp1
    rw [hP, hp1] at hcall
    have KW := Lib.hid kW
    have RW := Lib.hid rW
    have HR := Lib.hid hrW
    have HB := Lib.hid hB
    clear hr hp1 hp2 hf e2 kW rW hrW hB hP
    unfold RefAns
    obtain ⟨n, hn⟩ : ∃ n, l.length = n := ⟨_, rfl⟩
    have HN := Lib.hid hn
    simp only
    rw [hn] at hcall hW k1 KW hc ⊢
    clear hn
    go_enter Try.func21, Try.ntmps21
    go_wp2_with (go_at_call 32; rw [← hW]; refine hcall.mono ?_; rintro e w1 ⟨rfl, hG1⟩; obtain ⟨y0, y1, y2⟩ := (KW.out.next hG1.below).cells; obtain ⟨z0, z1, z2⟩ := (RW.out.next hG1.below).cells; have f0 := (RW.out.next hG1.below).free 0; have f1 := (RW.out.next hG1.below).free 1; have f2 := (RW.out.next hG1.below).free 2)
    have hB1 := HB.out.trans (hG1.below.mono HB.out.size)
    have hrz := RW.out.next hG1.below
    have hr1 := HR.out.next hG1.below
    obtain ⟨Vf, hVf⟩ : ∃ V, V = ((w1.setCell ⟨w.heap.size + 1, 0, none⟩ (.int .i64 room)).setCell ⟨w.heap.size + 1, 1, none⟩ (.slice a n cap)).setCell ⟨w.heap.size + 1, 2, none⟩ (.int .i64 lr) := ⟨_, rfl⟩
    obtain ⟨⟨g0, g1, g2⟩, hrF, hBF⟩ := ends_tab hrz hB1 (Nat.le_succ _) hr1 room n cap lr Vf hVf
    rw [← hVf]
    exact bodyPost_ret (v := .tuple #[rv room a n cap lr, .int .i64 5]) (by simp [results, Try.results21, go_sem, g0, g1, g2]) rfl ⟨a, cap, by first | rfl | simp, hrF, hc, hBF⟩
  | some x =>
    have e2 : dropT ⟨l, lr⟩ v m = (⟨l.eraseIdx P, lr⟩, 0) := by unfold dropT; rw [if_neg (by rw [hf]; simp), hP]
    rw [e2]
    rw [hf] at hp1 hp2
    have hat := hp2 hp1
    rw [hP] at hat
    have hPn : P < l.length := (List.getElem?_eq_some_iff.1 hat).1
    rw [hP, hp1] at hcall
    have KW := Lib.hid kW
    have RW := Lib.hid rW
    have HR := Lib.hid hrW
    have HB := Lib.hid hB
    have HCW := Lib.hid (fun w1 (h1 : Row w1 a l) => without_w room a cap lr l P w1 h1 hc hPn)
    clear hr hp1 hp2 hf e2 kW rW hrW hB hP hat
    unfold RefAns
    obtain ⟨n, hn⟩ : ∃ n, l.length = n := ⟨_, rfl⟩
    have HN := Lib.hid hn
    simp only
    rw [hn] at hcall hW k1 KW HCW hc hPn ⊢
    obtain ⟨N, hN⟩ : ∃ N, (l.eraseIdx P).length = N := ⟨_, rfl⟩
    rw [hN] at HCW ⊢
    clear hn
    go_enter Try.func21, Try.ntmps21
    go_wp2_with (first
      | (go_at_call 32; go_loud (rw [← hW]; refine hcall.mono ?_; rintro e w1 ⟨rfl, hG1⟩; obtain ⟨y0, y1, y2⟩ := (KW.out.next hG1.below).cells))
      | (go_at_call 41; go_loud (refine (HCW.out _ (HR.out.next hG1.below)).mono ?_; rintro e w2 ⟨a', cap', rfl, hr2, hc2, hB2⟩; have hrz := (RW.out.next hG1.below).next hB2; obtain ⟨z0, z1, z2⟩ := hrz.cells; have f0 := hrz.free 0; have f1 := hrz.free 1; have f2 := hrz.free 2; have HB2 := Lib.hid hB2; have HR2 := Lib.hid hr2; have HRZ := Lib.hid hrz; have HC2 := Lib.hid hc2)))
    have hB1 := HB.out.trans ((bw_trans hG1.below HB2.out).mono HB.out.size)
    obtain ⟨Vf, hVf⟩ : ∃ V, V = ((w2.setCell ⟨w.heap.size + 1, 0, none⟩ (.int .i64 room)).setCell ⟨w.heap.size + 1, 1, none⟩ (.slice a' N cap')).setCell ⟨w.heap.size + 1, 2, none⟩ (.int .i64 lr) := ⟨_, rfl⟩
    obtain ⟨⟨g0, g1, g2⟩, hrF, hBF⟩ := ends_tab HRZ.out hB1 (Nat.le_succ _) HR2.out room N cap' lr Vf hVf
    rw [← hVf]
    exact bodyPost_ret (v := .tuple #[rv room a' N cap' lr, .int .i64 0]) (by simp [results, Try.results21, go_sem, g0, g1, g2]) rfl ⟨a', cap', by first | rfl | simp, hrF, HC2.out, hBF⟩


set_option maxHeartbeats 4000000 in
theorem rfix_w (room : Nat) (a : Option Addr) (cap : Nat) (t : Tb) (v : Int) (m : ByteArray) (p : Int) (w : World) (hr : Row w a t.l) (hc : t.l.length ≤ cap) (hs : Sorted t.l) (hm : m.size ≤ maxLen) (h9 : t.l.length ≤ 900) :
    Calls Try.prog 20 #[rv room a t.l.length cap t.learned, .int .i64 v, .string m, .int .i64 p] w (RefAns room (fixT room t v m p) w) := by
  obtain ⟨l, lr⟩ := t
  simp only at hr hc hs h9 ⊢
  have h2 := two_tabs w room a l.length cap lr
  obtain ⟨W, hW⟩ : ∃ W, W = (w.alloc (.cells #[.int .i64 room, .slice a l.length cap, .int .i64 lr] 31)).alloc (.cells #[.int .i64 0, .slice none 0 0, .int .i64 0] 31) := ⟨_, rfl⟩
  rw [← hW] at h2
  obtain ⟨kW, rW, hB⟩ := h2
  have hrW := hr.next hB
  have hask := (asked_any v m p 0 W hm).mono (R' := fun e w' => e = .returned (.int .i64 (askedR v m p 0)) ∧ Grown W w') (by rintro e w1 ⟨h, rfl⟩; exact ⟨h, Grown.refl _⟩)
  have hcall := fun w1 (h1 : Row w1 a l) => place_w room a cap lr l v m w1 h1
  obtain ⟨hp1, _⟩ := place_find hs ⟨v, m⟩
  obtain ⟨k0, k1, k2⟩ := kW.cells
  obtain ⟨z0, z1, z2⟩ := rW.cells
  have f0 := rW.free 0
  have f1 := rW.free 1
  have f2 := rW.free 2
  have KW := Lib.hid kW
  have RW := Lib.hid rW
  have HR := Lib.hid hrW
  have HB := Lib.hid hB
  unfold fixT RefAns
  by_cases hq : askedR v m p 0 = 0
  case neg =>
    rw [if_neg hq]
    obtain ⟨c, hcc⟩ : ∃ c, askedR v m p 0 = c := ⟨_, rfl⟩
    rw [hcc] at hask hq ⊢
    obtain ⟨n, hn⟩ : ∃ n, l.length = n := ⟨_, rfl⟩
    have HN := Lib.hid hn
    simp only
    rw [hn] at hW k1 KW hc ⊢
    clear hn hcc hcall hp1 hr hrW hB kW rW
    go_enter Try.func20, Try.ntmps20
    go_wp2_with (go_at_call 40; rw [← hW]; refine hask.mono ?_; rintro e w0 ⟨rfl, hG0⟩; have hrz0 := RW.out.next hG0.below; obtain ⟨x0, x1, x2⟩ := (KW.out.next hG0.below).cells; obtain ⟨s0, s1, s2⟩ := hrz0.cells; have o0 := hrz0.free 0; have o1 := hrz0.free 1; have o2 := hrz0.free 2; have HG0 := Lib.hid hG0; have HRZ0 := Lib.hid hrz0)
    obtain ⟨Vf, hVf⟩ : ∃ V, V = ((w0.setCell ⟨w.heap.size + 1, 0, none⟩ (.int .i64 room)).setCell ⟨w.heap.size + 1, 1, none⟩ (.slice a n cap)).setCell ⟨w.heap.size + 1, 2, none⟩ (.int .i64 lr) := ⟨_, rfl⟩
    obtain ⟨⟨g0, g1, g2⟩, hrF, hBF⟩ := ends_tab HRZ0.out (HB.out.trans (HG0.out.below.mono HB.out.size)) (Nat.le_succ _) (HR.out.next HG0.out.below) room n cap lr Vf hVf
    rw [← hVf]
    exact bodyPost_ret (v := .tuple #[rv room a n cap lr, .int .i64 c]) (by simp [results, Try.results20, go_sem, g0, g1, g2]) rfl ⟨a, cap, by first | rfl | simp, hrF, hc, hBF⟩

  case pos =>
    rw [if_pos hq]
    rw [hq] at hask
    by_cases hg : findE l ⟨v, m⟩ = none ∧ room ≤ l.length
    · rw [if_pos hg]
      rw [hg.1] at hp1
      obtain ⟨P, hP⟩ : ∃ P, (placeR l ⟨v, m⟩).1 = P := ⟨_, rfl⟩
      rw [hP, hp1] at hcall
      have hg2 := hg.2
      obtain ⟨n, hn⟩ : ∃ n, l.length = n := ⟨_, rfl⟩
      have HN := Lib.hid hn
      simp only
      rw [hn] at hcall hW k1 KW hc hg2 h9 ⊢
      have hge : ((room : Nat) : Int) ≤ (n : Int) := Int.ofNat_le.2 hg2
      have HCALL := Lib.hid hcall
      clear hcall hn hp1 hr hrW hB kW rW hg hP hq
      go_enter Try.func20, Try.ntmps20
      go_wp2_with (first
        | (go_at_call 40; rw [← hW]; refine hask.mono ?_; rintro e w0 ⟨rfl, hG0⟩; have hrz0 := RW.out.next hG0.below; obtain ⟨x0, x1, x2⟩ := (KW.out.next hG0.below).cells; obtain ⟨s0, s1, s2⟩ := hrz0.cells; have o0 := hrz0.free 0; have o1 := hrz0.free 1; have o2 := hrz0.free 2; have HG0 := Lib.hid hG0; have HRZ0 := Lib.hid hrz0)
        | (go_at_call 32; (refine (HCALL.out _ (HR.out.next HG0.out.below)).mono ?_; rintro e w1 ⟨rfl, hG1⟩; have hg01 := HG0.out.trans hG1; have hrz := RW.out.next hg01.below; obtain ⟨y0, y1, y2⟩ := (KW.out.next hg01.below).cells; obtain ⟨t0, t1, t2⟩ := hrz.cells; have u0 := hrz.free 0; have u1 := hrz.free 1; have u2 := hrz.free 2; have HG := Lib.hid hg01; have HRZ := Lib.hid hrz)))
      have hB1 := HB.out.trans (HG.out.below.mono HB.out.size)
      have hr1 := HR.out.next HG.out.below
      obtain ⟨Vf, hVf⟩ : ∃ V, V = ((w1.setCell ⟨w.heap.size + 1, 0, none⟩ (.int .i64 room)).setCell ⟨w.heap.size + 1, 1, none⟩ (.slice a n cap)).setCell ⟨w.heap.size + 1, 2, none⟩ (.int .i64 lr) := ⟨_, rfl⟩
      obtain ⟨⟨g0, g1, g2⟩, hrF, hBF⟩ := ends_tab HRZ.out hB1 (Nat.le_succ _) hr1 room n cap lr Vf hVf
      rw [← hVf]
      exact bodyPost_ret (v := .tuple #[rv room a n cap lr, .int .i64 7]) (by simp [results, Try.results20, go_sem, g0, g1, g2]) rfl ⟨a, cap, by first | rfl | simp, hrF, hc, hBF⟩

    · rw [if_neg hg]
      obtain ⟨P, hP⟩ : ∃ P, (placeR l ⟨v, m⟩).1 = P := ⟨_, rfl⟩
      have HCW := Lib.hid (fun w1 (h1 : Row w1 a l) => with_w room a cap lr l ⟨v, m, p, 0, true⟩ w1 h1 hc h9)
      obtain ⟨N, hN⟩ : ∃ N, (putR l ⟨v, m, p, 0, true⟩).length = N := ⟨_, rfl⟩
      simp only [ev] at HCW
      have hgr : (findE l ⟨v, m⟩).isSome = true ∨ l.length < room := by
        cases hf : findE l ⟨v, m⟩ with
        | none => right; have := hg; rw [hf] at this; have h3 : ¬ room ≤ l.length := fun h => this ⟨rfl, h⟩; omega
        | some x => left; rfl
      rw [hP, hp1] at hcall
      obtain ⟨th, hth⟩ : ∃ th, (findE l ⟨v, m⟩).isSome = th := ⟨_, rfl⟩
      rw [hth] at hcall hgr
      obtain ⟨n, hn⟩ : ∃ n, l.length = n := ⟨_, rfl⟩
      have HN := Lib.hid hn
      simp only
      rw [hN] at HCW ⊢
      rw [hn] at hcall hW k1 KW hc hgr h9 HCW ⊢
      have HCALL := Lib.hid hcall
      clear hcall hn hp1 hr hrW hB kW rW hg hP hq hth hN
      have hgr2 : th = false → ¬ ((room : Nat) : Int) ≤ (n : Int) := fun h => by rcases hgr with h1 | h1; · rw [h] at h1; cases h1
                                                                                 · omega
      clear hgr
      cases th
      · have hlt := hgr2 rfl
        clear hgr2
        go_enter Try.func20, Try.ntmps20
        go_wp2_with (first
          | (go_at_call 40; rw [← hW]; refine hask.mono ?_; rintro e w0 ⟨rfl, hG0⟩; have hrz0 := RW.out.next hG0.below; obtain ⟨x0, x1, x2⟩ := (KW.out.next hG0.below).cells; obtain ⟨s0, s1, s2⟩ := hrz0.cells; have o0 := hrz0.free 0; have o1 := hrz0.free 1; have o2 := hrz0.free 2; have HG0 := Lib.hid hG0; have HRZ0 := Lib.hid hrz0)
          | (go_at_call 32; refine (HCALL.out _ (HR.out.next HG0.out.below)).mono ?_; rintro e w1 ⟨rfl, hG1⟩; have hg01 := HG0.out.trans hG1; have hrz := RW.out.next hg01.below; obtain ⟨y0, y1, y2⟩ := (KW.out.next hg01.below).cells; have HG := Lib.hid hg01; have HRZ := Lib.hid hrz)
          | (go_at_call 42; refine (HCW.out _ (HR.out.next HG.out.below)).mono ?_; rintro e w2 ⟨a', cap', rfl, hr2, hc2, hB2⟩; have hrz2 := HRZ.out.next hB2; obtain ⟨t0, t1, t2⟩ := hrz2.cells; have u0 := hrz2.free 0; have u1 := hrz2.free 1; have u2 := hrz2.free 2; have HB2 := Lib.hid hB2; have HR2 := Lib.hid hr2; have HRZ2 := Lib.hid hrz2; have HC2 := Lib.hid hc2))
        have hB1 := HB.out.trans ((bw_trans HG.out.below HB2.out).mono HB.out.size)
        obtain ⟨Vf, hVf⟩ : ∃ V, V = ((w2.setCell ⟨w.heap.size + 1, 0, none⟩ (.int .i64 room)).setCell ⟨w.heap.size + 1, 1, none⟩ (.slice a' N cap')).setCell ⟨w.heap.size + 1, 2, none⟩ (.int .i64 lr) := ⟨_, rfl⟩
        obtain ⟨⟨g0, g1, g2⟩, hrF, hBF⟩ := ends_tab HRZ2.out hB1 (Nat.le_succ _) HR2.out room N cap' lr Vf hVf
        rw [← hVf]
        exact bodyPost_ret (v := .tuple #[rv room a' N cap' lr, .int .i64 0]) (by simp [results, Try.results20, go_sem, g0, g1, g2]) rfl ⟨a', cap', by first | rfl | simp, hrF, HC2.out, hBF⟩

      · clear hgr2
        go_enter Try.func20, Try.ntmps20
        go_wp2_with (first
          | (go_at_call 40; rw [← hW]; refine hask.mono ?_; rintro e w0 ⟨rfl, hG0⟩; have hrz0 := RW.out.next hG0.below; obtain ⟨x0, x1, x2⟩ := (KW.out.next hG0.below).cells; obtain ⟨s0, s1, s2⟩ := hrz0.cells; have o0 := hrz0.free 0; have o1 := hrz0.free 1; have o2 := hrz0.free 2; have HG0 := Lib.hid hG0; have HRZ0 := Lib.hid hrz0)
          | (go_at_call 32; refine (HCALL.out _ (HR.out.next HG0.out.below)).mono ?_; rintro e w1 ⟨rfl, hG1⟩; have hg01 := HG0.out.trans hG1; have hrz := RW.out.next hg01.below; obtain ⟨y0, y1, y2⟩ := (KW.out.next hg01.below).cells; have HG := Lib.hid hg01; have HRZ := Lib.hid hrz)
          | (go_at_call 42; refine (HCW.out _ (HR.out.next HG.out.below)).mono ?_; rintro e w2 ⟨a', cap', rfl, hr2, hc2, hB2⟩; have hrz2 := HRZ.out.next hB2; obtain ⟨t0, t1, t2⟩ := hrz2.cells; have u0 := hrz2.free 0; have u1 := hrz2.free 1; have u2 := hrz2.free 2; have HB2 := Lib.hid hB2; have HR2 := Lib.hid hr2; have HRZ2 := Lib.hid hrz2; have HC2 := Lib.hid hc2))
        have hB1 := HB.out.trans ((bw_trans HG.out.below HB2.out).mono HB.out.size)
        obtain ⟨Vf, hVf⟩ : ∃ V, V = ((w2.setCell ⟨w.heap.size + 1, 0, none⟩ (.int .i64 room)).setCell ⟨w.heap.size + 1, 1, none⟩ (.slice a' N cap')).setCell ⟨w.heap.size + 1, 2, none⟩ (.int .i64 lr) := ⟨_, rfl⟩
        obtain ⟨⟨g0, g1, g2⟩, hrF, hBF⟩ := ends_tab HRZ2.out hB1 (Nat.le_succ _) HR2.out room N cap' lr Vf hVf
        rw [← hVf]
        exact bodyPost_ret (v := .tuple #[rv room a' N cap' lr, .int .i64 0]) (by simp [results, Try.results20, go_sem, g0, g1, g2]) rfl ⟨a', cap', by first | rfl | simp, hrF, HC2.out, hBF⟩

end Go.Proofs.Ytkpfdaomhkcokaa
