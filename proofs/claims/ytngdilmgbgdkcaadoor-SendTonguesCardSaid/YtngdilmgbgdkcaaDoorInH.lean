/-
  Layer 11: deeds that go by a BPDU: heedTc, record, dispute, agree, giveWay; what meet and answer hand back; settle.
-/
import Derived.Test.YtngdilmgbgdkcaaDoorInG
import Derived.Test.YtngdilmgbgdkcaaDoorInE
namespace Go.Proofs.YtngdilmgbgdkcaaDoor
set_option linter.unusedVariables false
set_option linter.unusedSimpArgs false
open Go.RowKit Vm Rm Bm Im

/-- A BPDU that is heard: its numbers are within their bounds. -/
structure BpHd (q : Bp) : Prop where
  kind : q.kind = 1 ∨ q.kind = 3
  age : 0 ≤ q.age ∧ q.age ≤ 65535
  max : 0 ≤ q.max ∧ q.max ≤ 65535
  hello : 0 ≤ q.hello ∧ q.hello ≤ 65535
  delay : 0 ≤ q.delay ∧ q.delay ≤ 65535
  flags : 0 ≤ q.flags ∧ q.flags ≤ 255
theorem heard_hd {q : Bp} (h : heardB q = true) : BpHd q := by
  unfold heardB at h
  simp only [Bool.and_eq_true, Bool.not_eq_true', decide_eq_false_iff_not] at h
  obtain ⟨h, h2⟩ := h
  unfold rightB at h
  rw [if_neg h2] at h
  by_cases hk : q.kind = 1 ∨ q.kind = 3
  · rw [if_pos hk] at h
    unfold numsB withinB at h
    simp only [Bool.and_eq_true, decide_eq_true_eq] at h
    exact ⟨hk, h.2.2.2.1, h.2.2.2.2.1, h.2.2.2.2.2.1, h.2.2.2.2.2.2, h.1⟩
  · rw [if_neg hk] at h
    cases h
theorem BBlk.same {T : TypeId} {w w1 : World} {b : Nat} {q : Bp} (h : BBlk T w b q) (hb : w1.heap[b]? = w.heap[b]?) : BBlk T w1 b q := hb.trans h
abbrev bq (q : Bp) : Value := bv q.kind q.flags q.root q.cost q.bridge q.port q.age q.max q.hello q.delay
theorem bqblk_new (T : TypeId) (w : World) (q : Bp) : BBlk T (w.alloc (.cells #[.int .i64 q.kind, .int .i64 q.flags, .int .u64 q.root, .int .u64 q.cost, .int .u64 q.bridge, .int .u64 q.port, .int .i64 q.age, .int .i64 q.max, .int .i64 q.hello, .int .i64 q.delay] T)) w.heap.size q := heap_alloc_new w _
def heedP (p : Pt) (q : Bp) : Pt := { p with heardTc := p.heardTc || bitB q.flags 0 }
def rec1P (p : Pt) (q : Bp) : Pt := { p with proposed := p.proposed || (decide (q.kind = 3) && bitB q.flags 1), heardAck := p.heardAck || (!decide (q.kind = 3) && bitB q.flags 7) }
def infoN (q : Bp) : Int := if (timesOf q).age + 1 > (timesOf q).max then 0 else 3 * (timesOf q).hello
theorem record_is (p : Pt) (q : Bp) : recordP p q = { heedP (rec1P p q) q with info := infoN q } := rfl
def giveP (p : Pt) (q : Bp) : Pt := { p with agreed := false, proposing := false, agree := p.agree && decide (vecOf q = p.vec), synced := p.synced && decide (vecOf q = p.vec), vec := vecOf q, times := timesOf q, source := 3, reselect := true, ready := false }
theorem super_is (p : Pt) (q : Bp) : superP p q = recordP (giveP p q) q := rfl


end Go.Proofs.YtngdilmgbgdkcaaDoor
