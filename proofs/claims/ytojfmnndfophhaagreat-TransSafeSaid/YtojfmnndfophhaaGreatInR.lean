/-
  Layer 11: Choose, where it refuses.
-/
import Derived.Test.YtojfmnndfophhaaGreatInQ
namespace Go.Proofs.YtojfmnndfophhaaGreat
set_option linter.unusedVariables false
set_option linter.unusedSimpArgs false
open Go.RowKit Vm Rm Bm Im

theorem may_no_br {br : Int} {t : Tm} {l : List Pt} (h : rightBr t = false) : mayB br t l = false := by unfold mayB; rw [h]; simp
theorem may_no_any {br : Int} {t : Tm} {l : List Pt} (h : l.any Pt.reselect = false) : mayB br t l = false := by unfold mayB; rw [h]; simp
theorem may_no_right {br : Int} {t : Tm} {l : List Pt} (h : rightR (infosP l) = false) : mayB br t l = false := by unfold mayB; rw [h]; simp
/-- What Choose hands back: a row of its own. -/
def Out (w w' : World) (n : Nat) (L : List Pt) (B : Bool) (e : Ending) : Prop :=
  ∃ a' cap', e = .returned (.tuple #[.slice a' n cap', .bool B]) ∧ n ≤ cap' ∧ PRow w' a' L ∧ Below w.heap.size w w'
theorem own_prow {w : World} {a : Option Addr} {l : List Pt} {B : Nat} (h : (a = none ∧ l = []) ∨ ∃ g, a = some ⟨g, 0, none⟩ ∧ B ≤ g ∧ WRow w g l) : PRow w a l := by
  rcases h with ⟨_, rfl⟩ | ⟨g, rfl, _, hw⟩
  · exact prow_nil _ _
  · exact hw.row
abbrev bcl (i a m h d : Int) : Array Value := #[.int .u64 i, .int .i64 a, .int .i64 m, .int .i64 h, .int .i64 d]
def BrBlk (w : World) (b : Nat) (i a m h d : Int) : Prop := w.heap[b]? = some (.cells (bcl i a m h d) 26 (0, 0))
theorem BrBlk.lt {w : World} {b : Nat} {i a m h d : Int} (H : BrBlk w b i a m h d) : b < w.heap.size := (Array.getElem?_eq_some_iff.1 H).1
theorem BrBlk.next {w w' : World} {b : Nat} {i a m h d : Int} (H : BrBlk w b i a m h d) (hb : Below w.heap.size w w') : BrBlk w' b i a m h d := (hb.block b H.lt).trans H
theorem BrBlk.cells {w : World} {b : Nat} {i a m h d : Int} (H : BrBlk w b i a m h d) : w.cell? ⟨b, 0, none⟩ = some (.int .u64 i) ∧ w.cell? ⟨b, 1, none⟩ = some (.int .i64 a) ∧ w.cell? ⟨b, 2, none⟩ = some (.int .i64 m) ∧ w.cell? ⟨b, 3, none⟩ = some (.int .i64 h) ∧ w.cell? ⟨b, 4, none⟩ = some (.int .i64 d) := by
  unfold BrBlk at H
  refine ⟨?_, ?_, ?_, ?_, ?_⟩ <;> simp [World.cell?, H]

set_option maxRecDepth 20000 in
set_option maxHeartbeats 2000000 in
theorem choose_early_w (i a m h d : Int) (ad : Option Addr) (cap : Nat) (l : List Pt) (w : World) (hr : PRow w ad l) (hl : l.length ≤ 1000) (hno : rightBr ⟨a, m, h, d⟩ = false ∨ l.any Pt.reselect = false) :
    Calls Tryz.prog 18 #[brv i a m h d, .slice ad l.length cap] w fun e w' => Out w w' l.length l false e := by
  have K0 := Lib.hid (show BrBlk (w.alloc (.cells (bcl i a m h d) 26)) w.heap.size i a m h d from heap_alloc_new w _)
  have B0 := Lib.hid (below_box w (.cells (bcl i a m h d) 26))
  have CC := Lib.hid (clone_w ad cap l _ (hr.next B0.out) hl)
  obtain ⟨n, hn⟩ : ∃ n, l.length = n := ⟨_, rfl⟩
  have HR := Lib.hid hr
  have HL := Lib.hid hl
  obtain ⟨RB, hRB⟩ : ∃ R, rightBr ⟨a, m, h, d⟩ = R := ⟨_, rfl⟩
  obtain ⟨RA, hRA⟩ : ∃ R, l.any Pt.reselect = R := ⟨_, rfl⟩
  have CB := Lib.hid (fun w' => brRight_w i a m h d RB w' (Lib.hid hRB))
  have CA := Lib.hid (fun w' (hp : PRow w' ad l) => containsP_w ad cap l RA w' hp HL.out (Lib.hid hRA))
  rw [hRB, hRA] at hno
  rw [hn] at CC CA ⊢
  clear hr hl hn hRB hRA
  unfold brv
  go_enter Tryz.func18, Tryz.ntmps18
  go_wp2_with fail
  (with_reducible refine CC.out.mono ?_)
  rintro e w1 ⟨a', cap', rfl, hcap, hown, hb1⟩
  have B1 := Lib.hid (bw_trans B0.out hb1)
  have K1 := Lib.hid (K0.out.next hb1)
  have O1 := Lib.hid (own_prow hown)
  obtain ⟨k0, k1, k2, k3, k4⟩ := K1.out.cells
  clear hb1 hown CC B0 K0
  cases RB with
  | false =>
    clear hno CA
    go_wp2_with (go_at_call 20; (with_reducible refine (CB.out _).mono ?_); rintro e w2 ⟨rfl, hb2⟩)
    go_ret2
    exact ⟨a', cap', rfl, hcap, O1.out.next hb2, bw_trans B1.out hb2⟩
  | true =>
    obtain rfl : RA = false := by simpa using hno
    clear hno
    go_wp2_with (first
      | (go_at_call 20; (with_reducible refine (CB.out _).mono ?_); rintro e w2 ⟨rfl, hb2⟩; have B2 := Lib.hid (bw_trans B1.out hb2); have O2 := Lib.hid (O1.out.next hb2); clear hb2)
      | (go_at_call 27; (with_reducible refine (CA.out _ (HR.out.next B2.out)).mono ?_); rintro e w3 ⟨rfl, hb3⟩))
    go_ret2
    exact ⟨a', cap', rfl, hcap, O2.out.next hb3, bw_trans B2.out hb3⟩
end Go.Proofs.YtojfmnndfophhaaGreat
