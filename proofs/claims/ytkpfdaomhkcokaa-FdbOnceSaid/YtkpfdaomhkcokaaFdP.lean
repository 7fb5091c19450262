/-
  The document's own functions of layer 7: Learn.
-/
import Derived.Test.YtkpfdaomhkcokaaFdO
import Derived.BigQuiet
namespace Go.Proofs.Ytkpfdaomhkcokaa
set_option linter.unusedVariables false
set_option linter.unusedSimpArgs false
open Go.RowKit Go.Maps Dm

/-- The number that stands for the one heard longest ago. -/
def ovI : Option Nat → Int
  | none => -1
  | some o => o
theorem old_fixed {l : List En} {j : Nat} {x : En} (h : l[j]? = some x) (hf : x.fixed = true) : oldN l (j + 1) = oldN l j := by
  rw [oldN, h]; simp [hf]
theorem old_first {l : List En} {j : Nat} {x : En} (h : l[j]? = some x) (hf : x.fixed = false) (ho : oldN l j = none) : oldN l (j + 1) = some j := by
  rw [oldN, h]; simp [hf, ho]
theorem old_next {l : List En} {j o : Nat} {x y : En} (h : l[j]? = some x) (hf : x.fixed = false) (ho : oldN l j = some o) (hy : l[o]? = some y) : oldN l (j + 1) = if x.heard < y.heard then some j else some o := by
  rw [oldN, h]; simp [hf, ho, hy]
theorem below_set1 {w X : World} (b : Nat) (h : Below w.heap.size w X) (hb : w.heap.size ≤ b) (j : Nat) (v : Value) : Below w.heap.size w (X.setCell ⟨b, j, none⟩ v) := h.setCell (p := ⟨b, j, none⟩) hb v
/-- Behind the call of a function that the document's table was handed to. -/
theorem below_next {w X Y : World} (h : Below w.heap.size w X) (k : Below X.heap.size X Y) : Below w.heap.size w Y := h.trans (k.mono h.size)

set_option maxRecDepth 20000 in
set_option maxHeartbeats 8000000 in
theorem rlearn_asked (room : Nat) (a : Option Addr) (cap : Nat) (l : List En) (lr : Int) (v : Int) (m : ByteArray) (p now : Int) (w : World) (hr : Row w a l) (hc : l.length ≤ cap) (hs : Sorted l) (hm : m.size ≤ maxLen) (h9 : l.length ≤ 900) (hlr0 : 0 ≤ lr) (hlr : lr ≤ 1000000) (hq : ¬ askedR v m p now = 0) :
    Calls Try.prog 19 #[rv room a l.length cap lr, .int .i64 v, .string m, .int .i64 p, .int .i64 now] w (RefAns room (learnT room ⟨l, lr⟩ v m p now) w) := by
  have h2 := two_tabs w room a l.length cap lr
  obtain ⟨W, hW⟩ : ∃ W, W = (w.alloc (.cells #[.int .i64 room, .slice a l.length cap, .int .i64 lr] 31)).alloc (.cells #[.int .i64 0, .slice none 0 0, .int .i64 0] 31) := ⟨_, rfl⟩
  rw [← hW] at h2
  obtain ⟨kW, rW, hB⟩ := h2
  have hrW := hr.next hB
  have hask := (asked_any v m p now W hm).mono (R' := fun e w' => e = .returned (.int .i64 (askedR v m p now)) ∧ Grown W w') (by rintro e w1 ⟨h, rfl⟩; exact ⟨h, Grown.refl _⟩)
  have hcall := fun w1 (h1 : Row w1 a l) => place_w room a cap lr l v m w1 h1
  obtain ⟨hp1, hp2⟩ := place_find hs ⟨v, m⟩
  have hwr1 : IntKind.i64.wrap (lr + 1) = lr + 1 := by rw [IntKind.wrap_i64]; omega
  have hne1 : w.heap.size + 1 ≠ w.heap.size := by omega
  have KW := Lib.hid kW
  have RW := Lib.hid rW
  have HR := Lib.hid hrW
  have HB := Lib.hid hB
  unfold RefAns
  unfold learnT
  rw [if_neg hq]
  obtain ⟨c, hcc⟩ : ∃ c, askedR v m p now = c := ⟨_, rfl⟩
  rw [hcc] at hask hq ⊢
  obtain ⟨n, hn⟩ : ∃ n, l.length = n := ⟨_, rfl⟩
  have HN := Lib.hid hn
  try simp only
  rw [hn] at hW KW hc h9 ⊢
  clear hn hcc hcall hp1 hp2 hr hrW hB kW rW
  go_enter Try.func19, Try.ntmps19
  go_wp2_with (go_at_call 40; rw [← hW]; refine hask.mono ?_; rintro e w0 ⟨rfl, hG0⟩; have hrz0 := RW.out.next hG0.below; obtain ⟨x0, x1, x2⟩ := (KW.out.next hG0.below).cells; obtain ⟨s0, s1, s2⟩ := hrz0.cells; have o0 := hrz0.free 0; have o1 := hrz0.free 1; have o2 := hrz0.free 2; have HG0 := Lib.hid hG0; have HRZ0 := Lib.hid hrz0)
  obtain ⟨Vf, hVf⟩ : ∃ V, V = ((w0.setCell ⟨w.heap.size + 1, 0, none⟩ (.int .i64 room)).setCell ⟨w.heap.size + 1, 1, none⟩ (.slice a n cap)).setCell ⟨w.heap.size + 1, 2, none⟩ (.int .i64 lr) := ⟨_, rfl⟩
  obtain ⟨⟨g0, g1, g2⟩, hrF, hBF⟩ := ends_tab HRZ0.out (HB.out.trans (HG0.out.below.mono HB.out.size)) (Nat.le_succ _) (HR.out.next HG0.out.below) room n cap lr Vf hVf
  rw [← hVf]
  exact bodyPost_ret (v := .tuple #[rv room a n cap lr, .int .i64 c]) (by simp [results, Try.results19, go_sem, g0, g1, g2]) rfl ⟨a, cap, by first | rfl | simp, hrF, hc, hBF⟩

set_option maxRecDepth 20000 in
set_option maxHeartbeats 8000000 in
theorem rlearn_fix (room : Nat) (a : Option Addr) (cap : Nat) (l : List En) (lr : Int) (v : Int) (m : ByteArray) (p now : Int) (w : World) (hr : Row w a l) (hc : l.length ≤ cap) (hs : Sorted l) (hm : m.size ≤ maxLen) (h9 : l.length ≤ 900) (hlr0 : 0 ≤ lr) (hlr : lr ≤ 1000000) (hq : askedR v m p now = 0) (xv : Int) (xm : ByteArray) (xp xh : Int) (hf : findE l ⟨v, m⟩ = some ⟨xv, xm, xp, xh, true⟩) :
    Calls Try.prog 19 #[rv room a l.length cap lr, .int .i64 v, .string m, .int .i64 p, .int .i64 now] w (RefAns room (learnT room ⟨l, lr⟩ v m p now) w) := by
  have h2 := two_tabs w room a l.length cap lr
  obtain ⟨W, hW⟩ : ∃ W, W = (w.alloc (.cells #[.int .i64 room, .slice a l.length cap, .int .i64 lr] 31)).alloc (.cells #[.int .i64 0, .slice none 0 0, .int .i64 0] 31) := ⟨_, rfl⟩
  rw [← hW] at h2
  obtain ⟨kW, rW, hB⟩ := h2
  have hrW := hr.next hB
  have hask := (asked_any v m p now W hm).mono (R' := fun e w' => e = .returned (.int .i64 (askedR v m p now)) ∧ Grown W w') (by rintro e w1 ⟨h, rfl⟩; exact ⟨h, Grown.refl _⟩)
  have hcall := fun w1 (h1 : Row w1 a l) => place_w room a cap lr l v m w1 h1
  obtain ⟨hp1, hp2⟩ := place_find hs ⟨v, m⟩
  have hwr1 : IntKind.i64.wrap (lr + 1) = lr + 1 := by rw [IntKind.wrap_i64]; omega
  have hne1 : w.heap.size + 1 ≠ w.heap.size := by omega
  have KW := Lib.hid kW
  have RW := Lib.hid rW
  have HR := Lib.hid hrW
  have HB := Lib.hid hB
  unfold RefAns
  unfold learnT
  rw [if_pos hq, hf]
  rw [hq] at hask
  simp only [if_true]
  obtain ⟨P, hP⟩ : ∃ P, (placeR l ⟨v, m⟩).1 = P := ⟨_, rfl⟩
  rw [hf] at hp1 hp2
  have hat := hp2 hp1
  rw [hP] at hat
  rw [hP, hp1] at hcall
  have hPn : P < l.length := (List.getElem?_eq_some_iff.1 hat).1
  obtain ⟨g, o, rfl, hgl, q0, q1, q2, q3, q4⟩ := hrW.at_ P _ hat
  simp only at q0 q1 q2 q3 q4
  have HQF := Lib.hid (fun w1 (hb : Below W.heap.size W w1) => And.intro ((hb.cell (p := ⟨g, o + P * 5 + 2, none⟩) hgl).trans q2) ((hb.cell (p := ⟨g, o + P * 5 + 4, none⟩) hgl).trans q4))
  obtain ⟨n, hn⟩ : ∃ n, l.length = n := ⟨_, rfl⟩
  have HN := Lib.hid hn
  try simp only
  rw [hn] at hcall hW KW hc h9 hPn ⊢
  have HCALL := Lib.hid hcall
  clear hcall hn hp1 hp2 hr hrW hB kW rW hP hq hf hat
  go_enter Try.func19, Try.ntmps19
  go_wp2_with (first
    | (go_at_call 40; rw [← hW]; refine hask.mono ?_; rintro e w0 ⟨rfl, hG0⟩; have hrz0 := RW.out.next hG0.below; obtain ⟨x0, x1, x2⟩ := (KW.out.next hG0.below).cells; obtain ⟨s0, s1, s2⟩ := hrz0.cells; have o0 := hrz0.free 0; have o1 := hrz0.free 1; have o2 := hrz0.free 2; have HG0 := Lib.hid hG0; have HRZ0 := Lib.hid hrz0)
    | (go_at_call 32; refine (HCALL.out _ (HR.out.next HG0.out.below)).mono ?_; rintro e w1 ⟨rfl, hG1⟩; have hg01 := HG0.out.trans hG1; have hrz := RW.out.next hg01.below; obtain ⟨y0, y1, y2⟩ := (KW.out.next hg01.below).cells; have yf0 := (KW.out.next hg01.below).free 0; have yf1 := (KW.out.next hg01.below).free 1; have yf2 := (KW.out.next hg01.below).free 2; obtain ⟨t0, t1, t2⟩ := hrz.cells; have u0 := hrz.free 0; have u1 := hrz.free 1; have u2 := hrz.free 2; have HG := Lib.hid hg01; have HRZ := Lib.hid hrz; obtain ⟨v2, v4⟩ := HQF.out w1 hg01.below))
  obtain ⟨Vf, hVf⟩ : ∃ V, V = ((w1.setCell ⟨w.heap.size + 1, 0, none⟩ (.int .i64 room)).setCell ⟨w.heap.size + 1, 1, none⟩ (.slice (some ⟨g, o, none⟩) n cap)).setCell ⟨w.heap.size + 1, 2, none⟩ (.int .i64 lr) := ⟨_, rfl⟩
  obtain ⟨⟨g0, g1, g2⟩, hrF, hBF⟩ := ends_tab HRZ.out (HB.out.trans (HG.out.below.mono HB.out.size)) (Nat.le_succ _) (HR.out.next HG.out.below) room n cap lr Vf hVf
  rw [← hVf]
  exact bodyPost_ret (v := .tuple #[rv room (some ⟨g, o, none⟩) n cap lr, .int .i64 0]) (by simp [results, Try.results19, go_sem, g0, g1, g2]) rfl ⟨(some ⟨g, o, none⟩), cap, by first | rfl | simp, hrF, hc, hBF⟩

set_option maxRecDepth 20000 in
set_option maxHeartbeats 8000000 in
theorem rlearn_same (room : Nat) (a : Option Addr) (cap : Nat) (l : List En) (lr : Int) (v : Int) (m : ByteArray) (p now : Int) (w : World) (hr : Row w a l) (hc : l.length ≤ cap) (hs : Sorted l) (hm : m.size ≤ maxLen) (h9 : l.length ≤ 900) (hlr0 : 0 ≤ lr) (hlr : lr ≤ 1000000) (hq : askedR v m p now = 0) (xv : Int) (xm : ByteArray) (xp xh : Int) (hf : findE l ⟨v, m⟩ = some ⟨xv, xm, xp, xh, false⟩) (hpp : xp = p) :
    Calls Try.prog 19 #[rv room a l.length cap lr, .int .i64 v, .string m, .int .i64 p, .int .i64 now] w (RefAns room (learnT room ⟨l, lr⟩ v m p now) w) := by
  have h2 := two_tabs w room a l.length cap lr
  obtain ⟨W, hW⟩ : ∃ W, W = (w.alloc (.cells #[.int .i64 room, .slice a l.length cap, .int .i64 lr] 31)).alloc (.cells #[.int .i64 0, .slice none 0 0, .int .i64 0] 31) := ⟨_, rfl⟩
  rw [← hW] at h2
  obtain ⟨kW, rW, hB⟩ := h2
  have hrW := hr.next hB
  have hask := (asked_any v m p now W hm).mono (R' := fun e w' => e = .returned (.int .i64 (askedR v m p now)) ∧ Grown W w') (by rintro e w1 ⟨h, rfl⟩; exact ⟨h, Grown.refl _⟩)
  have hcall := fun w1 (h1 : Row w1 a l) => place_w room a cap lr l v m w1 h1
  obtain ⟨hp1, hp2⟩ := place_find hs ⟨v, m⟩
  have hwr1 : IntKind.i64.wrap (lr + 1) = lr + 1 := by rw [IntKind.wrap_i64]; omega
  have hne1 : w.heap.size + 1 ≠ w.heap.size := by omega
  have KW := Lib.hid kW
  have RW := Lib.hid rW
  have HR := Lib.hid hrW
  have HB := Lib.hid hB
  unfold RefAns
  unfold learnT
  rw [if_pos hq, hf]
  rw [hq] at hask
  subst hpp
  simp only [Bool.false_eq_true, if_false, if_true]
  obtain ⟨P, hP⟩ : ∃ P, (placeR l ⟨v, m⟩).1 = P := ⟨_, rfl⟩
  rw [hf] at hp1 hp2
  have hat := hp2 hp1
  rw [hP] at hat
  rw [hP, hp1] at hcall
  have hPn : P < l.length := (List.getElem?_eq_some_iff.1 hat).1
  obtain ⟨g, o, rfl, hgl, q0, q1, q2, q3, q4⟩ := hrW.at_ P _ hat
  simp only at q0 q1 q2 q3 q4
  have HQF := Lib.hid (fun w1 (hb : Below W.heap.size W w1) => And.intro ((hb.cell (p := ⟨g, o + P * 5 + 2, none⟩) hgl).trans q2) ((hb.cell (p := ⟨g, o + P * 5 + 4, none⟩) hgl).trans q4))
  have HCW := Lib.hid (fun w1 (h1 : Row w1 (some ⟨g, o, none⟩) l) => with_w room (some ⟨g, o, none⟩) cap lr l ⟨v, m, xp, now, false⟩ w1 h1 hc h9)
  obtain ⟨N, hN⟩ : ∃ N, (putR l ⟨v, m, xp, now, false⟩).length = N := ⟨_, rfl⟩
  simp only [ev] at HCW
  rw [hN] at HCW ⊢
  obtain ⟨n, hn⟩ : ∃ n, l.length = n := ⟨_, rfl⟩
  have HN := Lib.hid hn
  try simp only
  rw [hn] at hcall hW KW hc h9 hPn HCW ⊢
  have HCALL := Lib.hid hcall
  clear hcall hn hp1 hp2 hr hrW hB kW rW hP hq hf hat
  go_enter Try.func19, Try.ntmps19
  go_wp2_with (first
    | (go_at_call 40; rw [← hW]; refine hask.mono ?_; rintro e w0 ⟨rfl, hG0⟩; have hrz0 := RW.out.next hG0.below; obtain ⟨x0, x1, x2⟩ := (KW.out.next hG0.below).cells; obtain ⟨s0, s1, s2⟩ := hrz0.cells; have o0 := hrz0.free 0; have o1 := hrz0.free 1; have o2 := hrz0.free 2; have HG0 := Lib.hid hG0; have HRZ0 := Lib.hid hrz0)
    | (go_at_call 32; refine (HCALL.out _ (HR.out.next HG0.out.below)).mono ?_; rintro e w1 ⟨rfl, hG1⟩; have hg01 := HG0.out.trans hG1; have hrz := RW.out.next hg01.below; obtain ⟨y0, y1, y2⟩ := (KW.out.next hg01.below).cells; have yf0 := (KW.out.next hg01.below).free 0; have yf1 := (KW.out.next hg01.below).free 1; have yf2 := (KW.out.next hg01.below).free 2; obtain ⟨t0, t1, t2⟩ := hrz.cells; have u0 := hrz.free 0; have u1 := hrz.free 1; have u2 := hrz.free 2; have HG := Lib.hid hg01; have HRZ := Lib.hid hrz; obtain ⟨v2, v4⟩ := HQF.out w1 hg01.below)
    | (go_at_call 42; refine (HCW.out _ (HR.out.next HG.out.below)).mono ?_; rintro e w2 ⟨a', cap', rfl, hr2, hc2, hB2⟩; have hrz2 := HRZ.out.next hB2; obtain ⟨p0, p1, p2⟩ := hrz2.cells; have r0 := hrz2.free 0; have r1 := hrz2.free 1; have r2 := hrz2.free 2; have HB2 := Lib.hid hB2; have HR2 := Lib.hid hr2; have HRZ2 := Lib.hid hrz2; have HC2 := Lib.hid hc2))
  obtain ⟨Vf, hVf⟩ : ∃ V, V = ((w2.setCell ⟨w.heap.size + 1, 0, none⟩ (.int .i64 room)).setCell ⟨w.heap.size + 1, 1, none⟩ (.slice a' N cap')).setCell ⟨w.heap.size + 1, 2, none⟩ (.int .i64 lr) := ⟨_, rfl⟩
  obtain ⟨⟨g0, g1, g2⟩, hrF, hBF⟩ := ends_tab HRZ2.out (below_next (HB.out.trans (HG.out.below.mono HB.out.size)) HB2.out) (Nat.le_succ _) HR2.out room N cap' lr Vf hVf
  rw [← hVf]
  exact bodyPost_ret (v := .tuple #[rv room a' N cap' lr, .int .i64 0]) (by simp [results, Try.results19, go_sem, g0, g1, g2]) rfl ⟨a', cap', by first | rfl | simp, hrF, HC2.out, hBF⟩

set_option maxRecDepth 20000 in
set_option maxHeartbeats 8000000 in
theorem rlearn_moved (room : Nat) (a : Option Addr) (cap : Nat) (l : List En) (lr : Int) (v : Int) (m : ByteArray) (p now : Int) (w : World) (hr : Row w a l) (hc : l.length ≤ cap) (hs : Sorted l) (hm : m.size ≤ maxLen) (h9 : l.length ≤ 900) (hlr0 : 0 ≤ lr) (hlr : lr ≤ 1000000) (hq : askedR v m p now = 0) (xv : Int) (xm : ByteArray) (xp xh : Int) (hf : findE l ⟨v, m⟩ = some ⟨xv, xm, xp, xh, false⟩) (hpp : ¬ xp = p) :
    Calls Try.prog 19 #[rv room a l.length cap lr, .int .i64 v, .string m, .int .i64 p, .int .i64 now] w (RefAns room (learnT room ⟨l, lr⟩ v m p now) w) := by
  have h2 := two_tabs w room a l.length cap lr
  obtain ⟨W, hW⟩ : ∃ W, W = (w.alloc (.cells #[.int .i64 room, .slice a l.length cap, .int .i64 lr] 31)).alloc (.cells #[.int .i64 0, .slice none 0 0, .int .i64 0] 31) := ⟨_, rfl⟩
  rw [← hW] at h2
  obtain ⟨kW, rW, hB⟩ := h2
  have hrW := hr.next hB
  have hask := (asked_any v m p now W hm).mono (R' := fun e w' => e = .returned (.int .i64 (askedR v m p now)) ∧ Grown W w') (by rintro e w1 ⟨h, rfl⟩; exact ⟨h, Grown.refl _⟩)
  have hcall := fun w1 (h1 : Row w1 a l) => place_w room a cap lr l v m w1 h1
  obtain ⟨hp1, hp2⟩ := place_find hs ⟨v, m⟩
  have hwr1 : IntKind.i64.wrap (lr + 1) = lr + 1 := by rw [IntKind.wrap_i64]; omega
  have hne1 : w.heap.size + 1 ≠ w.heap.size := by omega
  have KW := Lib.hid kW
  have RW := Lib.hid rW
  have HR := Lib.hid hrW
  have HB := Lib.hid hB
  unfold RefAns
  unfold learnT
  rw [if_pos hq, hf]
  rw [hq] at hask
  simp only [Bool.false_eq_true, if_false, hpp]
  obtain ⟨P, hP⟩ : ∃ P, (placeR l ⟨v, m⟩).1 = P := ⟨_, rfl⟩
  rw [hf] at hp1 hp2
  have hat := hp2 hp1
  rw [hP] at hat
  rw [hP, hp1] at hcall
  have hPn : P < l.length := (List.getElem?_eq_some_iff.1 hat).1
  obtain ⟨g, o, rfl, hgl, q0, q1, q2, q3, q4⟩ := hrW.at_ P _ hat
  simp only at q0 q1 q2 q3 q4
  have HQF := Lib.hid (fun w1 (hb : Below W.heap.size W w1) => And.intro ((hb.cell (p := ⟨g, o + P * 5 + 2, none⟩) hgl).trans q2) ((hb.cell (p := ⟨g, o + P * 5 + 4, none⟩) hgl).trans q4))
  have HCW := Lib.hid (fun w1 (h1 : Row w1 (some ⟨g, o, none⟩) l) => with_w room (some ⟨g, o, none⟩) cap (lr + 1) l ⟨v, m, p, now, false⟩ w1 h1 hc h9)
  obtain ⟨N, hN⟩ : ∃ N, (putR l ⟨v, m, p, now, false⟩).length = N := ⟨_, rfl⟩
  simp only [ev] at HCW
  rw [hN] at HCW ⊢
  obtain ⟨n, hn⟩ : ∃ n, l.length = n := ⟨_, rfl⟩
  have HN := Lib.hid hn
  try simp only
  rw [hn] at hcall hW KW hc h9 hPn HCW ⊢
  have HCALL := Lib.hid hcall
  clear hcall hn hp1 hp2 hr hrW hB kW rW hP hq hf hat
  go_enter Try.func19, Try.ntmps19
  go_wp2_with (first
    | (go_at_call 40; rw [← hW]; refine hask.mono ?_; rintro e w0 ⟨rfl, hG0⟩; have hrz0 := RW.out.next hG0.below; obtain ⟨x0, x1, x2⟩ := (KW.out.next hG0.below).cells; obtain ⟨s0, s1, s2⟩ := hrz0.cells; have o0 := hrz0.free 0; have o1 := hrz0.free 1; have o2 := hrz0.free 2; have HG0 := Lib.hid hG0; have HRZ0 := Lib.hid hrz0)
    | (go_at_call 32; refine (HCALL.out _ (HR.out.next HG0.out.below)).mono ?_; rintro e w1 ⟨rfl, hG1⟩; have hg01 := HG0.out.trans hG1; have hrz := RW.out.next hg01.below; obtain ⟨y0, y1, y2⟩ := (KW.out.next hg01.below).cells; have yf0 := (KW.out.next hg01.below).free 0; have yf1 := (KW.out.next hg01.below).free 1; have yf2 := (KW.out.next hg01.below).free 2; obtain ⟨t0, t1, t2⟩ := hrz.cells; have u0 := hrz.free 0; have u1 := hrz.free 1; have u2 := hrz.free 2; have HG := Lib.hid hg01; have HRZ := Lib.hid hrz; obtain ⟨v2, v4⟩ := HQF.out w1 hg01.below)
    | (go_at_call 42; refine (HCW.out _ (row_set1 (HR.out.next HG.out.below) (KW.out.next HG.out.below) 2 _)).mono ?_; rintro e w2 ⟨a', cap', rfl, hr2, hc2, hB2⟩; have hrz2 := (HRZ.out.other hne1 2 _).next hB2; obtain ⟨p0, p1, p2⟩ := hrz2.cells; have r0 := hrz2.free 0; have r1 := hrz2.free 1; have r2 := hrz2.free 2; have HB2 := Lib.hid hB2; have HR2 := Lib.hid hr2; have HRZ2 := Lib.hid hrz2; have HC2 := Lib.hid hc2))
  obtain ⟨Vf, hVf⟩ : ∃ V, V = ((w2.setCell ⟨w.heap.size + 1, 0, none⟩ (.int .i64 room)).setCell ⟨w.heap.size + 1, 1, none⟩ (.slice a' N cap')).setCell ⟨w.heap.size + 1, 2, none⟩ (.int .i64 (lr + 1)) := ⟨_, rfl⟩
  obtain ⟨⟨g0, g1, g2⟩, hrF, hBF⟩ := ends_tab HRZ2.out (below_next (below_set1 w.heap.size (HB.out.trans (HG.out.below.mono HB.out.size)) (Nat.le_refl _) 2 (.int .i64 (lr + 1))) HB2.out) (Nat.le_succ _) HR2.out room N cap' (lr + 1) Vf hVf
  rw [← hVf]
  exact bodyPost_ret (v := .tuple #[rv room a' N cap' (lr + 1), .int .i64 0]) (by simp [results, Try.results19, go_sem, g0, g1, g2]) rfl ⟨a', cap', by first | rfl | simp, hrF, HC2.out, hBF⟩

set_option maxRecDepth 20000 in
set_option maxHeartbeats 8000000 in
theorem rlearn_new (room : Nat) (a : Option Addr) (cap : Nat) (l : List En) (lr : Int) (v : Int) (m : ByteArray) (p now : Int) (w : World) (hr : Row w a l) (hc : l.length ≤ cap) (hs : Sorted l) (hm : m.size ≤ maxLen) (h9 : l.length ≤ 900) (hlr0 : 0 ≤ lr) (hlr : lr ≤ 1000000) (hq : askedR v m p now = 0) (hf : findE l ⟨v, m⟩ = none) (hlen : l.length < room) :
    Calls Try.prog 19 #[rv room a l.length cap lr, .int .i64 v, .string m, .int .i64 p, .int .i64 now] w (RefAns room (learnT room ⟨l, lr⟩ v m p now) w) := by
  have h2 := two_tabs w room a l.length cap lr
  obtain ⟨W, hW⟩ : ∃ W, W = (w.alloc (.cells #[.int .i64 room, .slice a l.length cap, .int .i64 lr] 31)).alloc (.cells #[.int .i64 0, .slice none 0 0, .int .i64 0] 31) := ⟨_, rfl⟩
  rw [← hW] at h2
  obtain ⟨kW, rW, hB⟩ := h2
  have hrW := hr.next hB
  have hask := (asked_any v m p now W hm).mono (R' := fun e w' => e = .returned (.int .i64 (askedR v m p now)) ∧ Grown W w') (by rintro e w1 ⟨h, rfl⟩; exact ⟨h, Grown.refl _⟩)
  have hcall := fun w1 (h1 : Row w1 a l) => place_w room a cap lr l v m w1 h1
  obtain ⟨hp1, hp2⟩ := place_find hs ⟨v, m⟩
  have hwr1 : IntKind.i64.wrap (lr + 1) = lr + 1 := by rw [IntKind.wrap_i64]; omega
  have hne1 : w.heap.size + 1 ≠ w.heap.size := by omega
  have KW := Lib.hid kW
  have RW := Lib.hid rW
  have HR := Lib.hid hrW
  have HB := Lib.hid hB
  unfold RefAns
  unfold learnT
  rw [if_pos hq, hf]
  rw [hq] at hask
  simp only [if_pos hlen]
  obtain ⟨P, hP⟩ : ∃ P, (placeR l ⟨v, m⟩).1 = P := ⟨_, rfl⟩
  rw [hf] at hp1
  rw [hP, hp1] at hcall
  have HCW := Lib.hid (fun w1 (h1 : Row w1 a l) => with_w room a cap (lr + 1) l ⟨v, m, p, now, false⟩ w1 h1 hc h9)
  obtain ⟨N, hN⟩ : ∃ N, (putR l ⟨v, m, p, now, false⟩).length = N := ⟨_, rfl⟩
  simp only [ev] at HCW
  rw [hN] at HCW ⊢
  obtain ⟨n, hn⟩ : ∃ n, l.length = n := ⟨_, rfl⟩
  have HN := Lib.hid hn
  try simp only
  rw [hn] at hcall hW KW hc h9 HCW hlen ⊢
  have hlt : ¬ ((room : Nat) : Int) ≤ (n : Int) := by omega
  have HCALL := Lib.hid hcall
  clear hcall hn hp1 hp2 hr hrW hB kW rW hP hq hf hlen
  go_enter Try.func19, Try.ntmps19
  go_wp2_with (first
    | (go_at_call 40; rw [← hW]; refine hask.mono ?_; rintro e w0 ⟨rfl, hG0⟩; have hrz0 := RW.out.next hG0.below; obtain ⟨x0, x1, x2⟩ := (KW.out.next hG0.below).cells; obtain ⟨s0, s1, s2⟩ := hrz0.cells; have o0 := hrz0.free 0; have o1 := hrz0.free 1; have o2 := hrz0.free 2; have HG0 := Lib.hid hG0; have HRZ0 := Lib.hid hrz0)
    | (go_at_call 32; refine (HCALL.out _ (HR.out.next HG0.out.below)).mono ?_; rintro e w1 ⟨rfl, hG1⟩; have hg01 := HG0.out.trans hG1; have hrz := RW.out.next hg01.below; obtain ⟨y0, y1, y2⟩ := (KW.out.next hg01.below).cells; have yf0 := (KW.out.next hg01.below).free 0; have yf1 := (KW.out.next hg01.below).free 1; have yf2 := (KW.out.next hg01.below).free 2; obtain ⟨t0, t1, t2⟩ := hrz.cells; have u0 := hrz.free 0; have u1 := hrz.free 1; have u2 := hrz.free 2; have HG := Lib.hid hg01; have HRZ := Lib.hid hrz)
    | (go_at_call 42; refine (HCW.out _ (row_set1 (HR.out.next HG.out.below) (KW.out.next HG.out.below) 2 _)).mono ?_; rintro e w2 ⟨a', cap', rfl, hr2, hc2, hB2⟩; have hrz2 := (HRZ.out.other hne1 2 _).next hB2; obtain ⟨p0, p1, p2⟩ := hrz2.cells; have r0 := hrz2.free 0; have r1 := hrz2.free 1; have r2 := hrz2.free 2; have HB2 := Lib.hid hB2; have HR2 := Lib.hid hr2; have HRZ2 := Lib.hid hrz2; have HC2 := Lib.hid hc2))
  obtain ⟨Vf, hVf⟩ : ∃ V, V = ((w2.setCell ⟨w.heap.size + 1, 0, none⟩ (.int .i64 room)).setCell ⟨w.heap.size + 1, 1, none⟩ (.slice a' N cap')).setCell ⟨w.heap.size + 1, 2, none⟩ (.int .i64 (lr + 1)) := ⟨_, rfl⟩
  obtain ⟨⟨g0, g1, g2⟩, hrF, hBF⟩ := ends_tab HRZ2.out (below_next (below_set1 w.heap.size (HB.out.trans (HG.out.below.mono HB.out.size)) (Nat.le_refl _) 2 (.int .i64 (lr + 1))) HB2.out) (Nat.le_succ _) HR2.out room N cap' (lr + 1) Vf hVf
  rw [← hVf]
  exact bodyPost_ret (v := .tuple #[rv room a' N cap' (lr + 1), .int .i64 0]) (by simp [results, Try.results19, go_sem, g0, g1, g2]) rfl ⟨a', cap', by first | rfl | simp, hrF, HC2.out, hBF⟩

set_option maxRecDepth 20000 in
set_option maxHeartbeats 8000000 in
theorem rlearn_stays (room : Nat) (a : Option Addr) (cap : Nat) (l : List En) (lr : Int) (v : Int) (m : ByteArray) (p now : Int) (w : World) (hr : Row w a l) (hc : l.length ≤ cap) (hs : Sorted l) (hm : m.size ≤ maxLen) (h9 : l.length ≤ 900) (hlr0 : 0 ≤ lr) (hlr : lr ≤ 1000000) (hq : askedR v m p now = 0) (hf : findE l ⟨v, m⟩ = none) (hlen : ¬ l.length < room) (hold : oldN l l.length = none) :
    Calls Try.prog 19 #[rv room a l.length cap lr, .int .i64 v, .string m, .int .i64 p, .int .i64 now] w (RefAns room (learnT room ⟨l, lr⟩ v m p now) w) := by
  have h2 := two_tabs w room a l.length cap lr
  obtain ⟨W, hW⟩ : ∃ W, W = (w.alloc (.cells #[.int .i64 room, .slice a l.length cap, .int .i64 lr] 31)).alloc (.cells #[.int .i64 0, .slice none 0 0, .int .i64 0] 31) := ⟨_, rfl⟩
  rw [← hW] at h2
  obtain ⟨kW, rW, hB⟩ := h2
  have hrW := hr.next hB
  have hask := (asked_any v m p now W hm).mono (R' := fun e w' => e = .returned (.int .i64 (askedR v m p now)) ∧ Grown W w') (by rintro e w1 ⟨h, rfl⟩; exact ⟨h, Grown.refl _⟩)
  have hcall := fun w1 (h1 : Row w1 a l) => place_w room a cap lr l v m w1 h1
  obtain ⟨hp1, hp2⟩ := place_find hs ⟨v, m⟩
  have hwr1 : IntKind.i64.wrap (lr + 1) = lr + 1 := by rw [IntKind.wrap_i64]; omega
  have hne1 : w.heap.size + 1 ≠ w.heap.size := by omega
  have KW := Lib.hid kW
  have RW := Lib.hid rW
  have HR := Lib.hid hrW
  have HB := Lib.hid hB
  unfold RefAns
  unfold learnT
  rw [if_pos hq, hf]
  rw [hq] at hask
  simp only [if_neg hlen]
  simp only [hold]
  obtain ⟨P, hP⟩ : ∃ P, (placeR l ⟨v, m⟩).1 = P := ⟨_, rfl⟩
  rw [hf] at hp1
  rw [hP, hp1] at hcall
  obtain ⟨n, hn⟩ : ∃ n, l.length = n := ⟨_, rfl⟩
  have HN := Lib.hid hn
  try simp only
  rw [hn] at hcall hW KW hc h9 hlen hold  ⊢
  have hge : ((room : Nat) : Int) ≤ (n : Int) := by omega
  have HCALL := Lib.hid hcall
  have HOLD := Lib.hid hold
  clear hcall hn hp1 hp2 hr hrW hB kW rW hP hq hf hlen hold
  go_enter Try.func19, Try.ntmps19
  go_wp2_with (first
    | (go_at_call 40; rw [← hW]; refine hask.mono ?_; rintro e w0 ⟨rfl, hG0⟩; have hrz0 := RW.out.next hG0.below; obtain ⟨x0, x1, x2⟩ := (KW.out.next hG0.below).cells; obtain ⟨s0, s1, s2⟩ := hrz0.cells; have o0 := hrz0.free 0; have o1 := hrz0.free 1; have o2 := hrz0.free 2; have HG0 := Lib.hid hG0; have HRZ0 := Lib.hid hrz0)
    | (go_at_call 32; refine (HCALL.out _ (HR.out.next HG0.out.below)).mono ?_; rintro e w1 ⟨rfl, hG1⟩; have hg01 := HG0.out.trans hG1; have hrz := RW.out.next hg01.below; obtain ⟨y0, y1, y2⟩ := (KW.out.next hg01.below).cells; have yf0 := (KW.out.next hg01.below).free 0; have yf1 := (KW.out.next hg01.below).free 1; have yf2 := (KW.out.next hg01.below).free 2; obtain ⟨t0, t1, t2⟩ := hrz.cells; have u0 := hrz.free 0; have u1 := hrz.free 1; have u2 := hrz.free 2; have HG := Lib.hid hg01; have HRZ := Lib.hid hrz))
  go_loopw [15, 16] (fun ov i wr => ∃ j : Nat, j ≤ n ∧ i = .int .i64 (j : Nat) ∧ ov = .int .i64 (ovI (oldN l j)) ∧ Grown W wr) (fun _ i _ => n - (intOf i).toNat)
  case atStart => exact ⟨0, Nat.zero_le _, rfl, rfl, HG.out⟩
  case round =>
    obtain ⟨j, hj, rfl, rfl, hGr⟩ := hrel
    clear y0 y1 y2 yf0 yf1 yf2 t0 t1 t2 u0 u1 u2
    obtain ⟨k0, k1, k2⟩ := (KW.out.next hGr.below).cells
    by_cases hjn : j < n
    · obtain ⟨⟨xv, xm, xp, xh, xf⟩, hx⟩ := at_some (l := l) (k := j) (by rw [HN.out]; exact hjn)
      obtain ⟨g, o, rfl, hgl, q0, q1, q2, q3, q4⟩ := (HR.out.next hGr.below).at_ j _ hx
      simp only at q0 q1 q2 q3 q4
      have HX := Lib.hid hx
      have hdj : decide ((j : Int) < (n : Int)) = true := decide_eq_true (by omega)
      have HGR := Lib.hid hGr
      cases xf with
      | true =>
        have HO := Lib.hid (congrArg ovI (old_fixed hx rfl))
        obtain ⟨ov, hov⟩ : ∃ ov, ovI (oldN l j) = ov := ⟨_, rfl⟩
        rw [hov] at HO ⊢
        clear hx hov hGr
        go_wp2_with fail
        go_quiet (fail)
        go_wp2
        exact ⟨⟨j + 1, by omega, by go_num, by rw [HO.out]; try rfl, HGR.out.drewN _⟩, by simp [intOf]; omega⟩
      | false =>
        cases ho : oldN l j with
        | none =>
          have HO := Lib.hid (congrArg ovI (old_first hx rfl ho))
          rw [show ovI none = -1 from rfl]
          clear hx ho hGr
          go_wp2_with fail
          go_quiet (fail)
          go_wp2
          exact ⟨⟨j + 1, by omega, by go_num, by rw [HO.out]; try rfl, HGR.out.drewN _⟩, by simp [intOf]; omega⟩
        | some k =>
          obtain ⟨y, hy⟩ := (old_spec l j (by rw [HN.out]; omega)).2 k ho
          obtain ⟨zv, zm, zp, zh, zf⟩ := y
          have hkj : k < n := by have := hy.lt; omega
          obtain ⟨g', o', e', _, r0, r1, r2, r3, r4⟩ := (HR.out.next hGr.below).at_ k _ hy.at_
          cases e'
          simp only at r0 r1 r2 r3 r4
          have hnx := old_next hx rfl ho hy.at_
          rw [show ovI (some k) = (k : Int) from rfl]
          have hdk : decide ((k : Int) < 0) = false := decide_eq_false (by omega)
          clear hx ho hGr hy
          by_cases hlt : xh < zh
          · have hd : decide (xh < zh) = true := decide_eq_true hlt
            rw [if_pos hlt] at hnx
            have HO := Lib.hid (congrArg ovI hnx)
            clear hlt hnx
            go_wp2_with fail
            go_quiet (fail)
            go_wp2
            exact ⟨⟨j + 1, by omega, by go_num, by rw [HO.out]; rfl, HGR.out.drewN _⟩, by simp [intOf]; omega⟩
          · have hd : decide (xh < zh) = false := decide_eq_false hlt
            rw [if_neg hlt] at hnx
            have HO := Lib.hid (congrArg ovI hnx)
            clear hlt hnx
            go_wp2_with fail
            go_quiet (fail)
            go_wp2
            exact ⟨⟨j + 1, by omega, by go_num, by rw [HO.out]; rfl, HGR.out.drewN _⟩, by simp [intOf]; omega⟩
    · obtain rfl : j = n := by omega
      have hrzr := RW.out.next hGr.below
      obtain ⟨z0, z1, z2⟩ := hrzr.cells
      have f0 := hrzr.free 0
      have f1 := hrzr.free 1
      have f2 := hrzr.free 2
      have HRZR := Lib.hid hrzr
      have HGR := Lib.hid hGr
      have HKR := Lib.hid (KW.out.next hGr.below)
      have kf0 := (KW.out.next hGr.below).free 0
      have kf1 := (KW.out.next hGr.below).free 1
      have kf2 := (KW.out.next hGr.below).free 2
      clear hrzr hGr
      rw [HOLD.out, show ovI none = -1 from rfl]
      go_wp2
      obtain ⟨Vf, hVf⟩ : ∃ V, V = ((wr.setCell ⟨w.heap.size + 1, 0, none⟩ (.int .i64 room)).setCell ⟨w.heap.size + 1, 1, none⟩ (.slice a j cap)).setCell ⟨w.heap.size + 1, 2, none⟩ (.int .i64 lr) := ⟨_, rfl⟩
      obtain ⟨⟨g0, g1, g2⟩, hrF, hBF⟩ := ends_tab HRZR.out (HB.out.trans (HGR.out.below.mono HB.out.size)) (Nat.le_succ _) (HR.out.next HGR.out.below) room j cap lr Vf hVf
      rw [← hVf]
      exact bodyPost_ret (v := .tuple #[rv room a j cap lr, .int .i64 0]) (by simp [results, Try.results19, go_sem, g0, g1, g2]) rfl ⟨a, cap, by first | rfl | simp, hrF, hc, hBF⟩

set_option maxRecDepth 20000 in
set_option maxHeartbeats 8000000 in
theorem rlearn_turned (room : Nat) (a : Option Addr) (cap : Nat) (l : List En) (lr : Int) (v : Int) (m : ByteArray) (p now : Int) (w : World) (hr : Row w a l) (hc : l.length ≤ cap) (hs : Sorted l) (hm : m.size ≤ maxLen) (h9 : l.length ≤ 900) (hlr0 : 0 ≤ lr) (hlr : lr ≤ 1000000) (hq : askedR v m p now = 0) (hf : findE l ⟨v, m⟩ = none) (hlen : ¬ l.length < room) (k : Nat) (hold : oldN l l.length = some k) :
    Calls Try.prog 19 #[rv room a l.length cap lr, .int .i64 v, .string m, .int .i64 p, .int .i64 now] w (RefAns room (learnT room ⟨l, lr⟩ v m p now) w) := by
  have h2 := two_tabs w room a l.length cap lr
  obtain ⟨W, hW⟩ : ∃ W, W = (w.alloc (.cells #[.int .i64 room, .slice a l.length cap, .int .i64 lr] 31)).alloc (.cells #[.int .i64 0, .slice none 0 0, .int .i64 0] 31) := ⟨_, rfl⟩
  rw [← hW] at h2
  obtain ⟨kW, rW, hB⟩ := h2
  have hrW := hr.next hB
  have hask := (asked_any v m p now W hm).mono (R' := fun e w' => e = .returned (.int .i64 (askedR v m p now)) ∧ Grown W w') (by rintro e w1 ⟨h, rfl⟩; exact ⟨h, Grown.refl _⟩)
  have hcall := fun w1 (h1 : Row w1 a l) => place_w room a cap lr l v m w1 h1
  obtain ⟨hp1, hp2⟩ := place_find hs ⟨v, m⟩
  have hwr1 : IntKind.i64.wrap (lr + 1) = lr + 1 := by rw [IntKind.wrap_i64]; omega
  have hne1 : w.heap.size + 1 ≠ w.heap.size := by omega
  have KW := Lib.hid kW
  have RW := Lib.hid rW
  have HR := Lib.hid hrW
  have HB := Lib.hid hB
  unfold RefAns
  unfold learnT
  rw [if_pos hq, hf]
  rw [hq] at hask
  simp only [if_neg hlen]
  simp only [hold]
  obtain ⟨P, hP⟩ : ∃ P, (placeR l ⟨v, m⟩).1 = P := ⟨_, rfl⟩
  rw [hf] at hp1
  rw [hP, hp1] at hcall
  have hkn : k < l.length := by obtain ⟨y, hy⟩ := (old_spec l l.length (Nat.le_refl _)).2 k hold; exact hy.lt
  obtain ⟨E, hE⟩ : ∃ E, (l.eraseIdx k).length = E := ⟨_, rfl⟩
  have hE9 : (l.eraseIdx k).length ≤ 900 := by rw [List.length_eraseIdx]; split <;> omega
  obtain ⟨N, hN⟩ : ∃ N, (putR (l.eraseIdx k) ⟨v, m, p, now, false⟩).length = N := ⟨_, rfl⟩
  have HCW := fun w1 a3 cap3 (h1 : Row w1 a3 (l.eraseIdx k)) (hc3 : (l.eraseIdx k).length ≤ cap3) => with_w room a3 cap3 (lr + 1) (l.eraseIdx k) ⟨v, m, p, now, false⟩ w1 h1 hc3 hE9
  simp only [ev] at HCW
  rw [hN] at HCW ⊢
  rw [hE] at HCW
  have HCWA := Lib.hid HCW
  have HE9 := Lib.hid (And.intro hE9 hE)
  obtain ⟨n, hn⟩ : ∃ n, l.length = n := ⟨_, rfl⟩
  have HN := Lib.hid hn
  try simp only
  rw [hn] at hcall hW KW hc h9 hlen hold hkn ⊢
  have hge : ((room : Nat) : Int) ≤ (n : Int) := by omega
  have HCALL := Lib.hid hcall
  have HOLD := Lib.hid hold
  clear hcall hn hp1 hp2 hr hrW hB kW rW hP hq hf hlen hold
  go_enter Try.func19, Try.ntmps19
  go_wp2_with (first
    | (go_at_call 40; rw [← hW]; refine hask.mono ?_; rintro e w0 ⟨rfl, hG0⟩; have hrz0 := RW.out.next hG0.below; obtain ⟨x0, x1, x2⟩ := (KW.out.next hG0.below).cells; obtain ⟨s0, s1, s2⟩ := hrz0.cells; have o0 := hrz0.free 0; have o1 := hrz0.free 1; have o2 := hrz0.free 2; have HG0 := Lib.hid hG0; have HRZ0 := Lib.hid hrz0)
    | (go_at_call 32; refine (HCALL.out _ (HR.out.next HG0.out.below)).mono ?_; rintro e w1 ⟨rfl, hG1⟩; have hg01 := HG0.out.trans hG1; have hrz := RW.out.next hg01.below; obtain ⟨y0, y1, y2⟩ := (KW.out.next hg01.below).cells; have yf0 := (KW.out.next hg01.below).free 0; have yf1 := (KW.out.next hg01.below).free 1; have yf2 := (KW.out.next hg01.below).free 2; obtain ⟨t0, t1, t2⟩ := hrz.cells; have u0 := hrz.free 0; have u1 := hrz.free 1; have u2 := hrz.free 2; have HG := Lib.hid hg01; have HRZ := Lib.hid hrz))
  go_loopw [15, 16] (fun ov i wr => ∃ j : Nat, j ≤ n ∧ i = .int .i64 (j : Nat) ∧ ov = .int .i64 (ovI (oldN l j)) ∧ Grown W wr) (fun _ i _ => n - (intOf i).toNat)
  case atStart => exact ⟨0, Nat.zero_le _, rfl, rfl, HG.out⟩
  case round =>
    obtain ⟨j, hj, rfl, rfl, hGr⟩ := hrel
    clear y0 y1 y2 yf0 yf1 yf2 t0 t1 t2 u0 u1 u2
    obtain ⟨k0, k1, k2⟩ := (KW.out.next hGr.below).cells
    by_cases hjn : j < n
    · obtain ⟨⟨xv, xm, xp, xh, xf⟩, hx⟩ := at_some (l := l) (k := j) (by rw [HN.out]; exact hjn)
      obtain ⟨g, o, rfl, hgl, q0, q1, q2, q3, q4⟩ := (HR.out.next hGr.below).at_ j _ hx
      simp only at q0 q1 q2 q3 q4
      have HX := Lib.hid hx
      have hdj : decide ((j : Int) < (n : Int)) = true := decide_eq_true (by omega)
      have HGR := Lib.hid hGr
      cases xf with
      | true =>
        have HO := Lib.hid (congrArg ovI (old_fixed hx rfl))
        obtain ⟨ov, hov⟩ : ∃ ov, ovI (oldN l j) = ov := ⟨_, rfl⟩
        rw [hov] at HO ⊢
        clear hx hov hGr
        go_wp2_with fail
        go_quiet (fail)
        go_wp2
        exact ⟨⟨j + 1, by omega, by go_num, by rw [HO.out]; try rfl, HGR.out.drewN _⟩, by simp [intOf]; omega⟩
      | false =>
        cases ho : oldN l j with
        | none =>
          have HO := Lib.hid (congrArg ovI (old_first hx rfl ho))
          rw [show ovI none = -1 from rfl]
          clear hx ho hGr
          go_wp2_with fail
          go_quiet (fail)
          go_wp2
          exact ⟨⟨j + 1, by omega, by go_num, by rw [HO.out]; try rfl, HGR.out.drewN _⟩, by simp [intOf]; omega⟩
        | some k =>
          obtain ⟨y, hy⟩ := (old_spec l j (by rw [HN.out]; omega)).2 k ho
          obtain ⟨zv, zm, zp, zh, zf⟩ := y
          have hkj : k < n := by have := hy.lt; omega
          obtain ⟨g', o', e', _, r0, r1, r2, r3, r4⟩ := (HR.out.next hGr.below).at_ k _ hy.at_
          cases e'
          simp only at r0 r1 r2 r3 r4
          have hnx := old_next hx rfl ho hy.at_
          rw [show ovI (some k) = (k : Int) from rfl]
          have hdk : decide ((k : Int) < 0) = false := decide_eq_false (by omega)
          clear hx ho hGr hy
          by_cases hlt : xh < zh
          · have hd : decide (xh < zh) = true := decide_eq_true hlt
            rw [if_pos hlt] at hnx
            have HO := Lib.hid (congrArg ovI hnx)
            clear hlt hnx
            go_wp2_with fail
            go_quiet (fail)
            go_wp2
            exact ⟨⟨j + 1, by omega, by go_num, by rw [HO.out]; rfl, HGR.out.drewN _⟩, by simp [intOf]; omega⟩
          · have hd : decide (xh < zh) = false := decide_eq_false hlt
            rw [if_neg hlt] at hnx
            have HO := Lib.hid (congrArg ovI hnx)
            clear hlt hnx
            go_wp2_with fail
            go_quiet (fail)
            go_wp2
            exact ⟨⟨j + 1, by omega, by go_num, by rw [HO.out]; rfl, HGR.out.drewN _⟩, by simp [intOf]; omega⟩
    · obtain rfl : j = n := by omega
      have hrzr := RW.out.next hGr.below
      obtain ⟨z0, z1, z2⟩ := hrzr.cells
      have f0 := hrzr.free 0
      have f1 := hrzr.free 1
      have f2 := hrzr.free 2
      have HRZR := Lib.hid hrzr
      have HGR := Lib.hid hGr
      have HKR := Lib.hid (KW.out.next hGr.below)
      have kf0 := (KW.out.next hGr.below).free 0
      have kf1 := (KW.out.next hGr.below).free 1
      have kf2 := (KW.out.next hGr.below).free 2
      clear hrzr hGr
      rw [HOLD.out, show ovI (some k) = (k : Int) from rfl]
      have HCA := Lib.hid (fun w1 (h1 : Row w1 a l) => without_w room a cap lr l k w1 h1 (by rw [HN.out]; exact hc) (by rw [HN.out]; exact hkn))
      rw [HN.out, HE9.out.2] at HCA
      go_wp2_with (first
        | (go_at_call 41; refine (HCA.out _ (HR.out.next HGR.out.below)).mono ?_; rintro e w3 ⟨a3, cap3, rfl, hr3, hc3, hB3⟩; have hrz3 := HRZR.out.next hB3; have hk3 := HKR.out.next hB3; obtain ⟨m0, m1, m2⟩ := hk3.cells; have mf0 := hk3.free 0; have mf1 := hk3.free 1; have mf2 := hk3.free 2; obtain ⟨n0, n1, n2⟩ := hrz3.cells; have nf0 := hrz3.free 0; have nf1 := hrz3.free 1; have nf2 := hrz3.free 2; have hk4 := rblk_set3 hk3 (room : Int) a3 E cap3 lr; obtain ⟨c0, c1, c2⟩ := hk4.cells; have c2f := hk4.free 2; have hk5 := hk4.set2 (lr + 1); obtain ⟨d0, d1, d2⟩ := hk5.cells; have HRA := Lib.hid hr3; have HKA := Lib.hid hk3; have HRZA := Lib.hid hrz3; have HBA := Lib.hid hB3; have HCAP := Lib.hid hc3; have HCW2 := Lib.hid (fun w1 (h1 : Row w1 a3 (l.eraseIdx k)) => HCWA.out w1 a3 cap3 h1 hc3))
        | (go_at_call 42; refine (HCW2.out _ (row_set1 (row_set3 HRA.out (HKA.out) _ _ _) (rblk_set3 HKA.out _ _ _ _ _) 2 _)).mono ?_; rintro e w4 ⟨a4, cap4, rfl, hr2, hc2, hB2⟩; have hrz2 := ((((HRZA.out.other hne1 0 _).other hne1 1 _).other hne1 2 _).other hne1 2 _).next hB2; obtain ⟨p0, p1, p2⟩ := hrz2.cells; have r0 := hrz2.free 0; have r1 := hrz2.free 1; have r2 := hrz2.free 2; have HB2 := Lib.hid hB2; have HR2 := Lib.hid hr2; have HRZ2 := Lib.hid hrz2; have HC2 := Lib.hid hc2))
      obtain ⟨Vf, hVf⟩ : ∃ V, V = ((w4.setCell ⟨w.heap.size + 1, 0, none⟩ (.int .i64 room)).setCell ⟨w.heap.size + 1, 1, none⟩ (.slice a4 N cap4)).setCell ⟨w.heap.size + 1, 2, none⟩ (.int .i64 (lr + 1)) := ⟨_, rfl⟩
      obtain ⟨⟨g0, g1, g2⟩, hrF, hBF⟩ := ends_tab HRZ2.out (below_next (below_set1 w.heap.size (below_set1 w.heap.size (below_set1 w.heap.size (below_set1 w.heap.size (below_next (HB.out.trans (HGR.out.below.mono HB.out.size)) HBA.out) (Nat.le_refl _) 0 _) (Nat.le_refl _) 1 _) (Nat.le_refl _) 2 _) (Nat.le_refl _) 2 _) HB2.out) (Nat.le_succ _) HR2.out room N cap4 (lr + 1) Vf hVf
      rw [← hVf]
      exact bodyPost_ret (v := .tuple #[rv room a4 N cap4 (lr + 1), .int .i64 0]) (by simp [results, Try.results19, go_sem, g0, g1, g2]) rfl ⟨a4, cap4, by first | rfl | simp, hrF, HC2.out, hBF⟩

theorem rlearn_w (room : Nat) (a : Option Addr) (cap : Nat) (t : Tb) (v : Int) (m : ByteArray) (p now : Int) (w : World) (hr : Row w a t.l) (hc : t.l.length ≤ cap) (hs : Sorted t.l) (hm : m.size ≤ maxLen) (h9 : t.l.length ≤ 900) (hlr0 : 0 ≤ t.learned) (hlr : t.learned ≤ 1000000) :
    Calls Try.prog 19 #[rv room a t.l.length cap t.learned, .int .i64 v, .string m, .int .i64 p, .int .i64 now] w (RefAns room (learnT room t v m p now) w) := by
  obtain ⟨l, lr⟩ := t
  by_cases hq : askedR v m p now = 0
  · cases hf : findE l ⟨v, m⟩ with
    | some x =>
      obtain ⟨xv, xm, xp, xh, xf⟩ := x
      cases xf with
      | true => exact rlearn_fix room a cap l lr v m p now w hr hc hs hm h9 hlr0 hlr hq xv xm xp xh hf
      | false =>
        by_cases hpp : xp = p
        · exact rlearn_same room a cap l lr v m p now w hr hc hs hm h9 hlr0 hlr hq xv xm xp xh hf hpp
        · exact rlearn_moved room a cap l lr v m p now w hr hc hs hm h9 hlr0 hlr hq xv xm xp xh hf hpp
    | none =>
      by_cases hlen : l.length < room
      · exact rlearn_new room a cap l lr v m p now w hr hc hs hm h9 hlr0 hlr hq hf hlen
      · cases hold : oldN l l.length with
        | none => exact rlearn_stays room a cap l lr v m p now w hr hc hs hm h9 hlr0 hlr hq hf hlen hold
        | some k => exact rlearn_turned room a cap l lr v m p now w hr hc hs hm h9 hlr0 hlr hq hf hlen k hold
  · exact rlearn_asked room a cap l lr v m p now w hr hc hs hm h9 hlr0 hlr hq
end Go.Proofs.Ytkpfdaomhkcokaa
