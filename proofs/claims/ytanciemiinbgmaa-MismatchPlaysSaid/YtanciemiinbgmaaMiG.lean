/-
  Layer 9: New; Hear, where it is refused, and where both mean the same VLAN.
-/
import Derived.Test.YtanciemiinbgmaaMiF
namespace Go.Proofs.Ytanciemiinbgmaa
set_option linter.unusedVariables false
set_option linter.unusedSimpArgs false
open Go.RowKit Go.Maps Pm Mm

set_option maxHeartbeats 1000000 in
theorem new_form (t : Bool) (n : Int) (a : Option Addr) (len cap : Nat) (l : List Int) (hello : Int) (w : World) (h : IsRow w a len l) (hp : portB ⟨t, n, l⟩ = false) :
    Calls Try.prog 6 #[pv t n a len cap, .int .i64 hello] w fun e w' => e = .returned (.tuple #[.pointer none, .int .i64 2]) ∧ Below w.heap.size w w' := by
  have PB := pblk_new 24 w t n a len cap
  have BB := below_box w (.cells #[.bool t, .int .i64 n, .slice a len cap] 24)
  have hR := portRight_any t n a len cap l _ (h.next BB)
  rw [hp] at hR
  obtain ⟨k0, k1, k2⟩ := PB.cells
  have HB := Lib.hid BB
  clear h hp PB BB
  go_enter Try.func6, Try.ntmps6
  go_wp2_with (go_at_call 18; refine hR.mono ?_; clear hR; rintro e w1 ⟨rfl, hb1⟩)
  go_ret2
  exact ⟨rfl, bw_trans HB.out hb1⟩
set_option maxHeartbeats 1000000 in
theorem new_range (t : Bool) (n : Int) (a : Option Addr) (len cap : Nat) (l : List Int) (hello : Int) (w : World) (h : IsRow w a len l) (hp : portB ⟨t, n, l⟩ = true) (hh : ¬ (1 ≤ hello ∧ hello ≤ 10)) :
    Calls Try.prog 6 #[pv t n a len cap, .int .i64 hello] w fun e w' => e = .returned (.tuple #[.pointer none, .int .i64 1]) ∧ Below w.heap.size w w' := by
  have PB := pblk_new 24 w t n a len cap
  have BB := below_box w (.cells #[.bool t, .int .i64 n, .slice a len cap] 24)
  have hR := portRight_any t n a len cap l _ (h.next BB)
  rw [hp] at hR
  have hI := fun w => within_any hello 1 10 w
  rw [decide_eq_false hh] at hI
  obtain ⟨k0, k1, k2⟩ := PB.cells
  have HB := Lib.hid BB
  clear h hp PB BB
  go_enter Try.func6, Try.ntmps6
  go_wp2_with (first
    | (go_at_call 18; refine hR.mono ?_; clear hR; rintro e w1 ⟨rfl, hb1⟩)
    | (go_at_call 20; refine (hI _).mono ?_; rintro e w' ⟨rfl, rfl⟩))
  go_ret2
  exact ⟨rfl, bw_trans HB.out hb1⟩

theorem pblk_set {T : TypeId} {w : World} {b : Nat} {t : Bool} {n : Int} {a : Option Addr} {len cap : Nat} (h : PBlk T w b t n a len cap) (a' : Option Addr) (len' cap' : Nat) : PBlk T (w.setCell ⟨b, 2, none⟩ (.slice a' len' cap')) b t n a' len' cap' := by
  unfold PBlk at h ⊢
  exact blk_set h rfl
theorem gblk_new (w : World) (t : Bool) (n : Int) (a : Option Addr) (len cap : Nat) (hello : Int) (mb : Nat) :
    GBlk (w.alloc (.cells #[.bool t, .int .i64 n, .slice a len cap, .int .i64 hello, .int .i64 0, .map (some mb), .int .i64 0, .int .u32 0, .int .i32 0, .int .u32 0, .int .i64 0, .int .i64 0] 75)) w.heap.size ⟨t, n, a, len, cap, hello, 0, mb, 0, 0, 0, 0, 0⟩ := heap_alloc_new w _
set_option maxHeartbeats 1000000 in
theorem new_w (t : Bool) (n : Int) (a : Option Addr) (len cap : Nat) (l : List Int) (hello : Int) (w : World) (h : IsRow w a len l) (hp : portB ⟨t, n, l⟩ = true) (h1 : 1 ≤ hello) (h2 : hello ≤ 10) :
    Calls Try.prog 6 #[pv t n a len cap, .int .i64 hello] w fun e w' => ∃ (b mb : Nat) (a' : Option Addr) (cap' : Nat), e = .returned (.tuple #[.pointer (some ⟨b, 0, none⟩), .int .i64 0]) ∧ IsG w' b mb a' len cap' (newG ⟨t, n, l⟩ hello) ∧ w.heap.size ≤ b ∧ w.heap.size ≤ mb ∧ (∀ x, a' = some x → w.heap.size ≤ x.block) ∧ Below w.heap.size w w' := by
  have hlen := h.length
  have h16 : len ≤ 1000 := by have := (port_parts hp).2.2.1; omega
  have PB := pblk_new 24 w t n a len cap
  have BB := below_box w (.cells #[.bool t, .int .i64 n, .slice a len cap] 24)
  have hI0 := h.next BB
  have hR := portRight_any t n a len cap l _ hI0
  rw [hp] at hR
  have hI := fun w => within_any hello 1 10 w
  rw [decide_eq_true ⟨h1, h2⟩] at hI
  obtain ⟨k0, k1, k2⟩ := PB.cells
  have HP := Lib.hid PB
  have HB := Lib.hid BB
  have HI := Lib.hid hI0
  have HOK := Lib.hid (new_ok hp h1 h2)
  have hmm := @run_makeMap Try.prog
  clear h hp PB BB hI0
  go_enter Try.func6, Try.ntmps6
  go_wp2_with (first
    | (go_at_call 18; refine hR.mono ?_; clear hR; rintro e w1 ⟨rfl, hb1⟩; have P1 := Lib.hid (HP.out.next hb1); have I1 := Lib.hid (HI.out.next hb1); have B1 := Lib.hid (bw_trans HB.out hb1); obtain ⟨q0, q1, q2⟩ := P1.out.cells)
    | (go_at_call 20; refine (hI _).mono ?_; rintro e w' ⟨rfl, rfl⟩)
    | fail)
  (with_reducible refine (clone_w a len cap l w1 I1.out h16).mono ?_)
  rintro e w2 ⟨a', cap', rfl, hr2, hn2, hb2⟩
  have P2 := P1.out.next hb2
  have hbx := P2.lt
  have hb1s := P1.out.lt
  have P3 := pblk_set P2 a' len cap'
  have f2 := P2.free 2
  have B2 := bw_trans B1.out hb2
  have B3 : Below w.heap.size w (w2.setCell ⟨w.heap.size, 2, none⟩ (.slice a' len cap')) := B2.setCell (Nat.le_refl _) _
  have hsz := B1.out.size
  have r3 : IsRow (w2.setCell ⟨w.heap.size, 2, none⟩ (.slice a' len cap')) a' len l := by
    refine ⟨hr2.length, hr2.bound, fun k m hk => ?_⟩
    obtain ⟨x, off, e, hx, hc⟩ := hr2.at_ k m hk
    have hh := (hn2 _ e).1
    simp only at hh
    refine ⟨x, off, e, by show x < (w2.heap.modify _ _).size; simp; exact hx, ?_⟩
    have := Below.heap_setCell w2 ⟨w.heap.size, 2, none⟩ (.slice a' len cap') x (by show x ≠ w.heap.size; omega)
    simp only [World.cell?] at hc ⊢
    rw [this]
    exact hc
  obtain ⟨V, hV⟩ : ∃ V, V = w2.setCell ⟨w.heap.size, 2, none⟩ (.slice a' len cap') := ⟨_, rfl⟩
  have hV2 : V.heap.size = w2.heap.size := by rw [hV]; show (w2.heap.modify _ _).size = _; simp
  obtain ⟨z0, z1, z2⟩ := P2.cells
  obtain ⟨x0, x1, x2⟩ := P3.cells
  have HB3 := Lib.hid (hV ▸ B3)
  have HR3 := Lib.hid (hV ▸ r3)
  have HN2 := Lib.hid hn2
  have HV := Lib.hid hV
  have HV2 := Lib.hid hV2
  clear P2 P3 B2 B3 r3 hr2 hn2 q0 q1 q2 k0 k1 k2 hb2 hV hV2
  go_wp2
  rw [← HV.out, ← HV2.out]
  go_ret2
  have hV2 := HV2.out
  have M := mm_made V
  have G := gblk_new (V.alloc (.map #[] 0)) t n a' len cap' hello V.heap.size
  rw [size_box] at G
  have hB4 : Below V.heap.size V ((V.alloc (.map #[] 0)).alloc (.cells #[.bool t, .int .i64 n, .slice a' len cap', .int .i64 hello, .int .i64 0, .map (some V.heap.size), .int .i64 0, .int .u32 0, .int .i32 0, .int .u32 0, .int .i64 0, .int .i64 0] 75)) := bw_alloc (below_box _ _) _
  have hA' : ∀ x, a' = some x → w.heap.size ≤ x.block := fun x e => Nat.le_trans B1.out.size (HN2.out x e).1
  refine ⟨V.heap.size + 1, V.heap.size, a', cap', rfl, ⟨G, HR3.out.next hB4, fun x e => ?_, ⟨_, M.next (below_box _ _), says_new (fun _ => Int.le_refl _)⟩, HOK.out⟩, Nat.le_succ_of_le HB3.out.size, HB3.out.size, hA', HB3.out.trans (hB4.mono HB3.out.size)⟩
  have := (HN2.out x e).2
  omega
end Go.Proofs.Ytanciemiinbgmaa
