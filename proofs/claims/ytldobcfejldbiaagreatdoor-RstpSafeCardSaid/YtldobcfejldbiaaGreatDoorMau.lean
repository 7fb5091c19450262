/-
  Plain mathematics of a row of numbers that the library sorts: no program is named here.
  The library's sort at uint64: a row of such numbers in memory; what a swap leaves; what lies in other blocks stays.
  The library's sort at uint64: insertionSortOrdered.
  The library's sort at uint64: order2Ordered, medianOrdered, choosePivotOrdered, of a part of 13 to 16 numbers.
  The library's sort at uint64: partialInsertionSortOrdered, of a part of fewer than 50 numbers: whether it is in order.
-/
import Derived.Sort.LotD3
import Derived.Sort.LotA
import Derived.Sort.LotC
import Derived.Sort.Row
import Derived.Test.YtldobcfejldbiaaGreatDoorMac
import Derived.CellFam
import Derived.Laws.Rows
namespace Go.Proofs.YtldobcfejldbiaaGreatDoor
set_option linter.unusedVariables false
set_option linter.unusedSimpArgs false
namespace Sm
open Go.Sort

/-- No number stands there twice. -/
def Apart (d : Array Int) : Prop := d.toList.Nodup
theorem Apart.perm {a b : Nat} {d d' : Array Int} (hd : Apart d) (hb : b ≤ d.size) (h : PermIn a b d d') : Apart d' := by
  obtain ⟨h1, _, h3⟩ := permIn_mono d d' a b 0 d.size (Nat.zero_le _) hb (Nat.le_refl _) h
  rw [Array.extract_size, show d'.extract 0 d.size = d' from by rw [← h1]; exact Array.extract_size] at h3
  exact h3.nodup_iff.2 hd
theorem Apart.ne {d : Array Int} (hd : Apart d) {i j : Nat} (hi : i < d.size) (hj : j < d.size) (h : ¬ i = j) : ¬ d[i]! = d[j]! := by
  rw [getElem!_pos d i hi, getElem!_pos d j hj]
  intro e
  have h1 := List.pairwise_iff_getElem.1 (List.nodup_iff_pairwise_ne.1 hd)
  by_cases hij : i < j
  · exact h1 i j (by simpa using hi) (by simpa using hj) hij (by simpa using e)
  · exact h1 j i (by simpa using hj) (by simpa using hi) (by omega) (by simpa using e.symm)
/-- What stands ahead of a part whose numbers are no less than it, is less than each. -/
theorem below_less {d : Array Int} {a b p : Nat} (hd : Apart d) (hB : Go.Sort.Below ltInt a b d) (ha : 0 < a) (hp : a ≤ p) (hpb : p < b) (hb : b ≤ d.size) : ltInt d[a - 1]! d[p]! = true := by
  rcases hB with h | h
  · omega
  · have h1 := h p hp hpb
    have h2 := hd.ne (i := a - 1) (j := p) (by omega) (by omega) (by omega)
    unfold ltInt at h1 ⊢
    simp only [decide_eq_true_eq, decide_eq_false_iff_not] at h1 ⊢
    omega

/-! Steps of the library's loops. -/
theorem ins_in {a j : Nat} {d : Array Int} (hj : a < j) (hl : ltInt d[j]! d[j - 1]! = true) : insInner ltInt a j d = insInner ltInt a (j - 1) (swp d j (j - 1)) := by
  obtain ⟨k, rfl⟩ : ∃ k, j = k + 1 := ⟨j - 1, by omega⟩
  have e : k + 1 - 1 = k := by omega
  rw [e] at hl ⊢
  rw [insInner, if_pos (by simp [hl]; omega)]
theorem ins_end {a j : Nat} {d : Array Int} (h : ¬ a < j ∨ ltInt d[j]! d[j - 1]! = false) : insInner ltInt a j d = d := by
  cases j with
  | zero => rfl
  | succ k =>
    rw [insInner, if_neg]
    rcases h with h | h
    · simp; omega
    · rw [show k + 1 - 1 = k by omega] at h
      simp [h]
theorem out_in {a b i : Nat} {d : Array Int} (h : i < b) : insOuter ltInt a b i d = insOuter ltInt a b (i + 1) (insInner ltInt a i d) := by rw [insOuter, if_pos h]
theorem out_end {a b i : Nat} {d : Array Int} (h : ¬ i < b) : insOuter ltInt a b i d = d := by rw [insOuter, if_neg h]
theorem up_in {p : Int → Bool} {d : Array Int} {i j : Nat} (h : i ≤ j) (hp : p d[i]! = true) : scanUp p d j i = scanUp p d j (i + 1) := by
  conv => lhs; rw [scanUp]
  rw [if_pos (by simp [h, hp])]
theorem up_end {p : Int → Bool} {d : Array Int} {i j : Nat} (h : ¬ i ≤ j ∨ p d[i]! = false) : scanUp p d j i = i := by
  rw [scanUp, if_neg]
  rcases h with h | h
  · simp [h]
  · simp [h]
theorem down_in {p : Int → Bool} {d : Array Int} {i j : Nat} (h0 : 0 < j) (h : i ≤ j) (hp : p d[j]! = true) : scanDown p d i j = scanDown p d i (j - 1) := by
  obtain ⟨k, rfl⟩ : ∃ k, j = k + 1 := ⟨j - 1, by omega⟩
  rw [scanDown, if_pos (by simp [h, hp]), show k + 1 - 1 = k by omega]
theorem down_end {p : Int → Bool} {d : Array Int} {i j : Nat} (h : ¬ i ≤ j ∨ p d[j]! = false) : scanDown p d i j = j := by
  cases j with
  | zero => rfl
  | succ k =>
    rw [scanDown, if_neg]
    rcases h with h | h
    · simp [h]
    · simp [h]
/-- The size stays. -/
theorem swp_len (d : Array Int) (i j : Nat) : (swp d i j).size = d.size := by simp [swp]

/-! A part in order, as far as it was gone through. -/
theorem sorted_one (a : Nat) (d : Array Int) : SortedIn ltInt a (a + 1) d := fun i j h1 h2 h3 => by omega
theorem sorted_next {a i : Nat} {d : Array Int} (h : SortedIn ltInt a i d) (hai : a < i) (hl : ltInt d[i]! d[i - 1]! = false) : SortedIn ltInt a (i + 1) d := by
  intro p q h1 h2 h3
  by_cases e : q = i
  · subst e
    by_cases e2 : p = q - 1
    · subst e2; exact hl
    · have h4 := h p (q - 1) h1 (by omega) (by omega)
      unfold ltInt at *
      simp only [decide_eq_false_iff_not] at *
      omega
  · exact h p q h1 h2 (by omega)

/-- What is still to do of a part leads to what is to do of the whole. -/
def Leads (a b : Nat) (d : Array Int) (x y : Nat) (e : Array Int) : Prop := ∀ R, PermIn x y e R → SortedIn ltInt x y R → PermIn a b d R ∧ SortedIn ltInt a b R
theorem leads_refl (a b : Nat) (d : Array Int) : Leads a b d a b d := fun R h1 h2 => ⟨h1, h2⟩
theorem Leads.perm {a b x y : Nat} {d e e' : Array Int} (h : Leads a b d x y e) (hp : PermIn x y e e') : Leads a b d x y e' := fun R h1 h2 => h R (permIn_trans e e' R x y hp h1) h2
/-- A part is divided: its one half is put in order first, then the other. -/
theorem leads_part {a b x y p m : Nat} {d e e4 : Array Int} {ap : Bool} (h : Leads a b d x y e) (hp1 : x ≤ p) (hp2 : p < y) (hy : y ≤ e.size) (hB : Go.Sort.Below ltInt x y e) (hx : partition ltInt e x y p = (m, ap, e4)) :
    x ≤ m ∧ m < y ∧ PermIn x y e e4 ∧ Go.Sort.Below ltInt x m e4 ∧ Go.Sort.Below ltInt (m + 1) y e4 ∧
    (∀ L, PermIn x m e4 L → SortedIn ltInt x m L → Go.Sort.Below ltInt (m + 1) y L ∧ Leads a b d (m + 1) y L) ∧
    (∀ L, PermIn (m + 1) y e4 L → SortedIn ltInt (m + 1) y L → Go.Sort.Below ltInt x m L ∧ Leads a b d x m L) := by
  obtain ⟨h1, h2, h3, h4, h5, h6, h7⟩ := round_part swo_ltInt (partition_holds ltInt) hp1 hp2 hy hB hx
  have hp := ((partition_holds ltInt) swo_ltInt e x y p hp1 hp2 hy).2.2.1
  rw [hx] at hp
  refine ⟨h1, h2, hp, h4, h5, fun L k1 k2 => ?_, fun L k1 k2 => ?_⟩
  · obtain ⟨b1, b2⟩ := h6 L k1 k2
    exact ⟨b1, fun R r1 r2 => by obtain ⟨c1, c2⟩ := b2 R r1 r2; exact h R c1 c2⟩
  · obtain ⟨b1, b2⟩ := h7 L k1 k2
    exact ⟨b1, fun R r1 r2 => by obtain ⟨c1, c2⟩ := b2 R r1 r2; exact h R c1 c2⟩
/-- All of it, in order. -/
theorem sorted_all {l : List Int} {R : Array Int} (h1 : PermIn 0 l.length l.toArray R) (h2 : SortedIn ltInt 0 l.length R) : R.toList = l.mergeSort (fun x y => decide (x ≤ y)) := by
  have h := sorted_unique_holds swo_ltInt (fun x y h1 h2 => by simp only [ltInt, decide_eq_false_iff_not] at h1 h2; omega) l.toArray R (by simpa using h1) (by simpa using h2)
  rw [h]
  congr 1
  funext x y
  show (!decide (y < x)) = decide (x ≤ y)
  by_cases h : x ≤ y
  · have h' : ¬ y < x := by omega
    simp [h, h']
  · have h' : y < x := by omega
    simp [h, h']
end Sm
end Go.Proofs.YtldobcfejldbiaaGreatDoor

namespace Go.Proofs.YtldobcfejldbiaaGreatDoor
set_option linter.unusedVariables false
set_option linter.unusedSimpArgs false
open Go.RowKit Go.Sort Sm

/-- Block g holds this row of numbers, from its beginning, and may be written there. -/
def SH (w : World) (g : Nat) (d : Array Int) : Prop := Holds (Value.int .u64) w g 0 d
/-- All but block g lies as it did. -/
structure Kq (g : Nat) (w w' : World) : Prop where
  os : w'.os = w.os
  tape : w'.tape = w.tape
  output : w'.output = w.output
  size : w.heap.size ≤ w'.heap.size
  block : ∀ i, i < w.heap.size → i ≠ g → w'.heap[i]? = w.heap[i]?
theorem Kq.refl (g : Nat) (w : World) : Kq g w w := ⟨rfl, rfl, rfl, Nat.le_refl _, fun _ _ _ => rfl⟩
theorem Kq.trans {g : Nat} {w w1 w2 : World} (h : Kq g w w1) (k : Kq g w1 w2) : Kq g w w2 :=
  ⟨k.os.trans h.os, k.tape.trans h.tape, k.output.trans h.output, Nat.le_trans h.size k.size, fun i hi hn => (k.block i (Nat.lt_of_lt_of_le hi h.size) hn).trans (h.block i hi hn)⟩
theorem Kq.of {g : Nat} {w w1 : World} (h : Below w.heap.size w w1) : Kq g w w1 := ⟨h.os, h.tape, h.output, h.size, fun i hi _ => h.block i hi⟩
theorem Kq.set {g : Nat} {w w1 : World} (h : Kq g w w1) (j : Nat) (v : Value) : Kq g w (w1.setCell ⟨g, j, none⟩ v) :=
  ⟨h.os, h.tape, h.output, by rw [show (w1.setCell ⟨g, j, none⟩ v).heap.size = w1.heap.size by simp]; exact h.size, fun i hi hn => (Below.heap_setCell w1 ⟨g, j, none⟩ v i hn).trans (h.block i hi hn)⟩
theorem Kq.drewN {g : Nat} {w w1 : World} (h : Kq g w w1) (n : Nat) : Kq g w (w1.drewN n) := ⟨h.os, h.tape, h.output, h.size, h.block⟩
theorem Kq.drew {g : Nat} {w w1 : World} (h : Kq g w w1) : Kq g w w1.drew := ⟨h.os, h.tape, h.output, h.size, h.block⟩
theorem Kq.below {g B : Nat} {w0 w w' : World} (h : Kq g w w') (h0 : Below B w0 w) (hB : B ≤ g) (hs : B ≤ w.heap.size) : Below B w0 w' :=
  ⟨h.os.trans h0.os, h.tape.trans h0.tape, h.output.trans h0.output, Nat.le_trans h0.size h.size, fun i hi => (h.block i (Nat.lt_of_lt_of_le hi hs) (by omega)).trans (h0.block i hi)⟩
section
variable {w w' : World} {g : Nat} {d : Array Int}
theorem SH.cell (h : SH w g d) {i : Nat} (hi : i < d.size) : w.cell? ⟨g, i, none⟩ = some (.int .u64 d[i]!) := by
  have := (h i hi).1
  rwa [Nat.zero_add] at this
theorem SH.free (h : SH w g d) {i : Nat} (hi : i < d.size) : w.frozen? ⟨g, i, none⟩ = false := by
  have := (h i hi).2
  rwa [Nat.zero_add] at this
theorem SH.lt (h : SH w g d) (h0 : 0 < d.size) : g < w.heap.size := by
  have := h.cell h0
  unfold World.cell? at this
  cases hb : w.heap[g]? with
  | none => simp only [hb] at this; cases this
  | some o => exact (Array.getElem?_eq_some_iff.1 hb).1
theorem SH.same (h : SH w g d) (e : w'.heap[g]? = w.heap[g]?) : SH w' g d := by
  intro j hj
  obtain ⟨h1, h2⟩ := h j hj
  constructor
  · rw [← h1]; simp only [World.cell?, e]
  · rw [← h2]; simp only [World.frozen?, e]
theorem SH.next (h : SH w g d) (hb : Below w.heap.size w w') : SH w' g d := by
  by_cases h0 : 0 < d.size
  · exact h.same (hb.block g (h.lt h0))
  · intro j hj; omega
theorem SH.drewN (h : SH w g d) (n : Nat) : SH (w.drewN n) g d := h
theorem SH.swp (h : SH w g d) {i j : Nat} (hi : i < d.size) (hj : j < d.size) : SH ((w.setCell ⟨g, i, none⟩ (.int .u64 d[j]!)).setCell ⟨g, j, none⟩ (.int .u64 d[i]!)) g (swp d i j) := by
  have e := putRow_swp (Value.int .u64) w g 0 d i j hi hj
  rw [putRow_self _ _ _ _ _ h, Nat.zero_add, Nat.zero_add] at e
  rw [e]
  exact holds_putRow _ _ _ _ d _ h (swp_len d i j)
theorem kq_swp (h : Kq g w w') (i j : Nat) (u v : Value) (n : Nat) : Kq g w (((w'.setCell ⟨g, i, none⟩ u).setCell ⟨g, j, none⟩ v).drewN n) := ((h.set i u).set j v).drewN n
end

set_option maxHeartbeats 400000 in
theorem nan_u64 (x : Int) (w : World) : Calls Tryz.prog 201 #[.int .u64 x] w fun e w' => e = .returned (.bool false) ∧ w = w' := by
  go_enter Tryz.func201, Tryz.ntmps201
  go_wp2
  go_ret
  simp
set_option maxHeartbeats 400000 in
theorem less_u64 (x y : Int) (w : World) : Calls Tryz.prog 182 #[.int .u64 x, .int .u64 y] w fun e w' => e = .returned (.bool (ltInt x y)) ∧ w' = w := by
  unfold ltInt
  go_enter Tryz.func182, Tryz.ntmps182
  go_wp2_with (go_at_call 201; refine (nan_u64 _ _).mono ?_; rintro e w' ⟨rfl, rfl⟩)
  all_goals go_ret
  all_goals exact ⟨rfl, rfl⟩
end Go.Proofs.YtldobcfejldbiaaGreatDoor

namespace Go.Proofs.YtldobcfejldbiaaGreatDoor
set_option linter.unusedVariables false
set_option linter.unusedSimpArgs false
open Go.RowKit Go.Sort Sm

set_option maxRecDepth 20000 in
set_option maxHeartbeats 2000000 in
theorem insertion_w (g cap n a b : Nat) (d : Array Int) (w : World) (h : SH w g d) (hn : d.size = n) (hn1 : n ≤ 1000) (hab : a ≤ b) (hb : b ≤ n) :
    Calls Tryz.prog 176 #[.slice (some ⟨g, 0, none⟩) n cap, .int .i64 ((a : Nat) : Int), .int .i64 ((b : Nat) : Int)] w fun e w' =>
      e = .returned (.tuple #[]) ∧ SH w' g (insertionSort ltInt d a b) ∧ Kq g w w' := by
  unfold insertionSort
  have H := Lib.hid h
  clear h
  go_enter Tryz.func176, Tryz.ntmps176
  go_wp2_with fail
  go_loopw [6] (fun vi wr => ∃ (i : Nat) (e : Array Int), vi = .int .i64 ((i : Nat) : Int) ∧ a < i ∧ i ≤ b + 1 ∧ e.size = n ∧ SH wr g e ∧ Kq g w wr ∧ insOuter ltInt a b i e = insOuter ltInt a b (a + 1) d) (fun vi _ => b + 1 - (intOf vi).toNat)
  case atStart => exact ⟨a + 1, d, by go_num, by omega, by omega, hn, H.out, Kq.refl g w, rfl⟩
  case round =>
    obtain ⟨i, e, rfl, hai, hib, hes, hse, hk, ho⟩ := hrel
    have HE := Lib.hid hse
    have HK := Lib.hid hk
    have HO := Lib.hid ho
    clear hse hk ho
    by_cases hi : i < b
    · have hii : (i : Int) < b := by omega
      go_wp2_with fail
      go_loopw [7] (fun vj wr2 => ∃ (j : Nat) (f : Array Int), vj = .int .i64 ((j : Nat) : Int) ∧ a ≤ j ∧ j ≤ i ∧ f.size = n ∧ SH wr2 g f ∧ Kq g w wr2 ∧ insInner ltInt a j f = insInner ltInt a i e) (fun vj _ => (intOf vj).toNat)
      case atStart => exact ⟨i, e, rfl, by omega, Nat.le_refl _, hes, HE.out, HK.out, rfl⟩
      case round =>
        obtain ⟨j, f, rfl, haj, hji, hfs, hsf, hk2, hI⟩ := hrel
        have HF := Lib.hid hsf
        have HK2 := Lib.hid hk2
        have HI := Lib.hid hI
        clear hsf hk2 hI
        obtain ⟨G, hG⟩ : ∃ G : Nat → Int, ∀ t, G t = f[t]! := ⟨fun t => f[t]!, fun _ => rfl⟩
        have HG := Lib.hid hG
        have hc : ∀ t, t < n → wr.cell? ⟨g, t, none⟩ = some (.int .u64 (G t)) := fun t ht => by rw [hG]; exact HF.out.cell (by omega)
        have hf : ∀ t, t < n → wr.frozen? ⟨g, t, none⟩ = false := fun t ht => HF.out.free (by omega)
        clear hG
        by_cases hja : a < j
        · have hji' : (a : Int) < j := by omega
          have b1 : (j : Int) < n := by omega
          have b2 : (j : Int) - 1 < n := by omega
          have b3 : (0 : Int) ≤ (j : Int) - 1 := by omega
          have b4 : (0 : Int) ≤ (j : Int) := by omega
          have c1 := hc j (by omega)
          have c0 := hc (j - 1) (by omega)
          have f1 := hf j (by omega)
          have f0 := hf (j - 1) (by omega)
          clear hc hf
          go_upto_region 4 with (fail)
          go_big_quiet (first | (go_at_call 182; refine Calls.quiet_of_same (less_u64 _ _ _)))
          go_wp2_with fail
          · have hl : ltInt (G j) (G (j - 1)) = true := by assumption
            go_region
            all_goals go_wp2
            all_goals (refine ⟨⟨j - 1, swp f j (j - 1), by congr 1; omega, by omega, by omega, by rw [swp_len]; exact hfs, ?_, ?_, ?_⟩, by simp [intOf]; omega⟩)
            all_goals first
              | (have := HF.out.swp (i := j) (j := j - 1) (by omega) (by omega); rw [← HG.out, ← HG.out] at this; exact this)
              | (exact kq_swp HK2.out _ _ _ _ _)
              | (rw [← HI.out, ins_in hja (by rw [← HG.out, ← HG.out]; exact hl)])
          · have hl : ltInt (G j) (G (j - 1)) = false := by assumption
            exact ⟨⟨i + 1, f, by go_num, by omega, by omega, hfs, HF.out, HK2.out.drewN _, by rw [← HO.out, out_in hi, ← HI.out, ins_end (.inr (by rw [← HG.out, ← HG.out]; exact hl))]⟩, by simp [intOf]; omega⟩
        · have hji' : ¬ (a : Int) < j := by omega
          have cb : decide ((j : Int) > (a : Int)) = false := decide_eq_false hji'
          go_upto_region 4 with (fail)
          go_big_quiet (fail)
          go_wp2_with fail
          exact ⟨⟨i + 1, f, by go_num, by omega, by omega, hfs, HF.out, HK2.out.drewN _, by rw [← HO.out, out_in hi, ← HI.out, ins_end (.inl hja)]⟩, by simp [intOf]; omega⟩
    · have hii : ¬ (i : Int) < b := by omega
      go_wp2_with fail
      go_end0
      exact ⟨rfl, by rw [← HO.out, out_end hi]; exact HE.out, HK.out⟩
end Go.Proofs.YtldobcfejldbiaaGreatDoor

namespace Go.Proofs.YtldobcfejldbiaaGreatDoor
set_option linter.unusedVariables false
set_option linter.unusedSimpArgs false
open Go.RowKit Go.Sort Sm

/-- Block s holds just this number. -/
def NB (w : World) (s : Nat) (k : Int) : Prop := w.heap[s]? = some (.cells #[.int .i64 k] 3 (0, 0))
theorem NB.cell {w : World} {s : Nat} {k : Int} (h : NB w s k) : w.cell? ⟨s, 0, none⟩ = some (.int .i64 k) := by unfold NB at h; simp [World.cell?, h]
theorem NB.free {w : World} {s : Nat} {k : Int} (h : NB w s k) : w.frozen? ⟨s, 0, none⟩ = false := by unfold NB at h; simp [World.frozen?, h]
theorem NB.lt {w : World} {s : Nat} {k : Int} (h : NB w s k) : s < w.heap.size := (Array.getElem?_eq_some_iff.1 h).1
theorem NB.set {w : World} {s : Nat} {k : Int} (h : NB w s k) (m : Int) : NB (w.setCell ⟨s, 0, none⟩ (.int .i64 m)) s m := heap_setCell_same _ _ _ _ _ _ h
theorem NB.drewN {w : World} {s : Nat} {k : Int} (h : NB w s k) (n : Nat) : NB (w.drewN n) s k := h
theorem SH.kq {w w' : World} {g s : Nat} {d : Array Int} (h : SH w g d) (hk : Kq s w w') (hne : g ≠ s) (h0 : 0 < d.size) : SH w' g d := h.same (hk.block g (h.lt h0) hne)

set_option maxRecDepth 20000 in
set_option maxHeartbeats 1000000 in
theorem order2_w (g cap n x y s : Nat) (k : Int) (d : Array Int) (w : World) (h : SH w g d) (hn : d.size = n) (hx : x < n) (hy : y < n) (hs : NB w s k) (hk : 0 ≤ k ∧ k ≤ 100) :
    Calls Tryz.prog 223 #[.slice (some ⟨g, 0, none⟩) n cap, .int .i64 ((x : Nat) : Int), .int .i64 ((y : Nat) : Int), .pointer (some ⟨s, 0, none⟩)] w fun e w' =>
      ∃ (x' y' : Nat) (k' : Int), e = .returned (.tuple #[.int .i64 ((x' : Nat) : Int), .int .i64 ((y' : Nat) : Int)]) ∧ ((x' = x ∧ y' = y) ∨ (x' = y ∧ y' = x)) ∧ (k ≤ k' ∧ k' ≤ k + 1) ∧ NB w' s k' ∧ Kq s w w' := by
  obtain ⟨G, hG⟩ : ∃ G : Nat → Int, ∀ t, G t = d[t]! := ⟨fun t => d[t]!, fun _ => rfl⟩
  have cx : w.cell? ⟨g, x, none⟩ = some (.int .u64 (G x)) := by rw [hG]; exact h.cell (by omega)
  have cy : w.cell? ⟨g, y, none⟩ = some (.int .u64 (G y)) := by rw [hG]; exact h.cell (by omega)
  have cs := hs.cell
  have fs := hs.free
  have HS := Lib.hid hs
  have b1 : (x : Int) < n := by omega
  have b2 : (y : Int) < n := by omega
  have b3 : (0 : Int) ≤ (x : Int) := by omega
  have b4 : (0 : Int) ≤ (y : Int) := by omega
  clear h hG hs
  go_enter Tryz.func223, Tryz.ntmps223
  go_upto_region 1 with (fail)
  go_big_quiet (first | (go_at_call 182; refine Calls.quiet_of_same (less_u64 _ _ _)))
  go_wp2_with fail
  · go_ret2
    exact ⟨y, x, k + 1, rfl, .inr ⟨rfl, rfl⟩, by omega, (HS.out.drewN _).set _, ((Kq.refl s w).drewN _).set _ _⟩
  · go_ret2
    exact ⟨x, y, k, rfl, .inl ⟨rfl, rfl⟩, by omega, HS.out.drewN _, (Kq.refl s w).drewN _⟩

set_option maxRecDepth 20000 in
set_option maxHeartbeats 1000000 in
theorem median_w (g cap n x y z s : Nat) (k : Int) (d : Array Int) (w : World) (h : SH w g d) (hn : d.size = n) (hx : x < n) (hy : y < n) (hz : z < n) (hs : NB w s k) (hk : 0 ≤ k ∧ k ≤ 90) (hne : g ≠ s) :
    Calls Tryz.prog 208 #[.slice (some ⟨g, 0, none⟩) n cap, .int .i64 ((x : Nat) : Int), .int .i64 ((y : Nat) : Int), .int .i64 ((z : Nat) : Int), .pointer (some ⟨s, 0, none⟩)] w fun e w' =>
      ∃ (m : Nat) (k' : Int), e = .returned (.int .i64 ((m : Nat) : Int)) ∧ (m = x ∨ m = y ∨ m = z) ∧ (k ≤ k' ∧ k' ≤ k + 3) ∧ NB w' s k' ∧ Kq s w w' := by
  have H := Lib.hid h
  have HS := Lib.hid hs
  have HN := Lib.hid hn
  have h0 : 0 < d.size := by omega
  clear h hs hn
  go_enter Tryz.func208, Tryz.ntmps208
  go_wp2_with fail
  refine (order2_w g cap n x y s k d w H.out HN.out hx hy HS.out ⟨by omega, by omega⟩).mono ?_
  rintro e w1 ⟨x1, y1, k1, rfl, h1, hk1, s1, q1⟩
  have S1 := Lib.hid s1
  have Q1 := Lib.hid q1
  have D1 := Lib.hid (H.out.kq q1 hne h0)
  clear s1 q1
  go_wp2_with fail
  refine (order2_w g cap n y1 z s k1 d w1 D1.out HN.out (by omega) hz S1.out ⟨by omega, by omega⟩).mono ?_
  rintro e w2 ⟨x2, y2, k2, rfl, h2, hk2, s2, q2⟩
  have S2 := Lib.hid s2
  have Q2 := Lib.hid (Q1.out.trans q2)
  have D2 := Lib.hid (D1.out.kq q2 hne h0)
  clear s2 q2 S1 Q1 D1
  go_wp2_with fail
  refine (order2_w g cap n x1 x2 s k2 d w2 D2.out HN.out (by omega) (by omega) S2.out ⟨by omega, by omega⟩).mono ?_
  rintro e w3 ⟨x3, y3, k3, rfl, h3, hk3, s3, q3⟩
  have S3 := Lib.hid s3
  have Q3 := Lib.hid (Q2.out.trans q3)
  clear s3 q3 S2 Q2 D2
  go_wp2_with fail
  go_ret
  exact ⟨y3, k3, rfl, by omega, by omega, S3.out, Q3.out⟩

set_option maxRecDepth 20000 in
set_option maxHeartbeats 1000000 in
theorem pivot_w (g cap n a b L : Nat) (d : Array Int) (w : World) (h : SH w g d) (hn : d.size = n) (hb : b = a + L) (hL : L = 13 ∨ L = 14 ∨ L = 15 ∨ L = 16) (hbn : b ≤ n) (hn1 : n ≤ 1000) :
    Calls Tryz.prog 179 #[.slice (some ⟨g, 0, none⟩) n cap, .int .i64 ((a : Nat) : Int), .int .i64 ((b : Nat) : Int)] w fun e w' =>
      ∃ (p : Nat) (t : Int), e = .returned (.tuple #[.int .i64 ((p : Nat) : Int), .int .i64 t]) ∧ (a ≤ p ∧ p < b) ∧ (t = 0 ∨ t = 1) ∧ Below w.heap.size w w' := by
  have H := Lib.hid h
  have HN := Lib.hid hn
  have hg := h.lt (by omega)
  subst hb
  have hs := heap_alloc_new w (.cells #[.int .i64 0] 3)
  have N0 := Lib.hid (show NB (w.alloc (.cells #[.int .i64 0] 3)) w.heap.size 0 from hs)
  have B0 := Lib.hid (below_box w (.cells #[.int .i64 0] 3))
  have D0 := Lib.hid (H.out.next B0.out)
  clear h hn hs
  have hne : g ≠ w.heap.size := by omega
  have ha : (a : Int) ≤ 1000 := by omega
  rcases hL with rfl | rfl | rfl | rfl
  · go_enter Tryz.func179, Tryz.ntmps179
    go_wp2_with fail
    rw [show ((a : Int) + ((a : Int) + 13 - (a : Int)) / 4) = ((a + 3 : Nat) : Int) by omega, show ((a : Int) + ((a : Int) + 13 - (a : Int)) / 4 * 2) = ((a + 6 : Nat) : Int) by omega, show ((a : Int) + ((a : Int) + 13 - (a : Int)) / 4 * 3) = ((a + 9 : Nat) : Int) by omega]
    refine (median_w g cap n (a + 3) (a + 6) (a + 9) w.heap.size 0 d _ D0.out HN.out (by omega) (by omega) (by omega) N0.out ⟨by omega, by omega⟩ hne).mono ?_
    rintro e w1 ⟨m, k1, rfl, h1, hk1, s1, q1⟩
    have S1 := Lib.hid s1.cell
    have BB := Lib.hid (q1.below B0.out (Nat.le_refl _) B0.out.size)
    clear s1 q1
    have c1 := S1.out
    by_cases hz : k1 = 0
    · subst hz
      go_wp2_with fail
      go_ret2
      exact ⟨m, 1, rfl, by omega, .inr rfl, BB.out⟩
    · have d0 : (k1 == 0) = false := beq_eq_false_iff_ne.2 hz
      have d1 : (k1 == 12) = false := beq_eq_false_iff_ne.2 (by omega)
      go_wp2_with fail
      go_ret2
      exact ⟨m, 0, rfl, by omega, .inl rfl, BB.out⟩
  · go_enter Tryz.func179, Tryz.ntmps179
    go_wp2_with fail
    rw [show ((a : Int) + ((a : Int) + 14 - (a : Int)) / 4) = ((a + 3 : Nat) : Int) by omega, show ((a : Int) + ((a : Int) + 14 - (a : Int)) / 4 * 2) = ((a + 6 : Nat) : Int) by omega, show ((a : Int) + ((a : Int) + 14 - (a : Int)) / 4 * 3) = ((a + 9 : Nat) : Int) by omega]
    refine (median_w g cap n (a + 3) (a + 6) (a + 9) w.heap.size 0 d _ D0.out HN.out (by omega) (by omega) (by omega) N0.out ⟨by omega, by omega⟩ hne).mono ?_
    rintro e w1 ⟨m, k1, rfl, h1, hk1, s1, q1⟩
    have S1 := Lib.hid s1.cell
    have BB := Lib.hid (q1.below B0.out (Nat.le_refl _) B0.out.size)
    clear s1 q1
    have c1 := S1.out
    by_cases hz : k1 = 0
    · subst hz
      go_wp2_with fail
      go_ret2
      exact ⟨m, 1, rfl, by omega, .inr rfl, BB.out⟩
    · have d0 : (k1 == 0) = false := beq_eq_false_iff_ne.2 hz
      have d1 : (k1 == 12) = false := beq_eq_false_iff_ne.2 (by omega)
      go_wp2_with fail
      go_ret2
      exact ⟨m, 0, rfl, by omega, .inl rfl, BB.out⟩
  · go_enter Tryz.func179, Tryz.ntmps179
    go_wp2_with fail
    rw [show ((a : Int) + ((a : Int) + 15 - (a : Int)) / 4) = ((a + 3 : Nat) : Int) by omega, show ((a : Int) + ((a : Int) + 15 - (a : Int)) / 4 * 2) = ((a + 6 : Nat) : Int) by omega, show ((a : Int) + ((a : Int) + 15 - (a : Int)) / 4 * 3) = ((a + 9 : Nat) : Int) by omega]
    refine (median_w g cap n (a + 3) (a + 6) (a + 9) w.heap.size 0 d _ D0.out HN.out (by omega) (by omega) (by omega) N0.out ⟨by omega, by omega⟩ hne).mono ?_
    rintro e w1 ⟨m, k1, rfl, h1, hk1, s1, q1⟩
    have S1 := Lib.hid s1.cell
    have BB := Lib.hid (q1.below B0.out (Nat.le_refl _) B0.out.size)
    clear s1 q1
    have c1 := S1.out
    by_cases hz : k1 = 0
    · subst hz
      go_wp2_with fail
      go_ret2
      exact ⟨m, 1, rfl, by omega, .inr rfl, BB.out⟩
    · have d0 : (k1 == 0) = false := beq_eq_false_iff_ne.2 hz
      have d1 : (k1 == 12) = false := beq_eq_false_iff_ne.2 (by omega)
      go_wp2_with fail
      go_ret2
      exact ⟨m, 0, rfl, by omega, .inl rfl, BB.out⟩
  · go_enter Tryz.func179, Tryz.ntmps179
    go_wp2_with fail
    rw [show ((a : Int) + ((a : Int) + 16 - (a : Int)) / 4) = ((a + 4 : Nat) : Int) by omega, show ((a : Int) + ((a : Int) + 16 - (a : Int)) / 4 * 2) = ((a + 8 : Nat) : Int) by omega, show ((a : Int) + ((a : Int) + 16 - (a : Int)) / 4 * 3) = ((a + 12 : Nat) : Int) by omega]
    refine (median_w g cap n (a + 4) (a + 8) (a + 12) w.heap.size 0 d _ D0.out HN.out (by omega) (by omega) (by omega) N0.out ⟨by omega, by omega⟩ hne).mono ?_
    rintro e w1 ⟨m, k1, rfl, h1, hk1, s1, q1⟩
    have S1 := Lib.hid s1.cell
    have BB := Lib.hid (q1.below B0.out (Nat.le_refl _) B0.out.size)
    clear s1 q1
    have c1 := S1.out
    by_cases hz : k1 = 0
    · subst hz
      go_wp2_with fail
      go_ret2
      exact ⟨m, 1, rfl, by omega, .inr rfl, BB.out⟩
    · have d0 : (k1 == 0) = false := beq_eq_false_iff_ne.2 hz
      have d1 : (k1 == 12) = false := beq_eq_false_iff_ne.2 (by omega)
      go_wp2_with fail
      go_ret2
      exact ⟨m, 0, rfl, by omega, .inl rfl, BB.out⟩
end Go.Proofs.YtldobcfejldbiaaGreatDoor

namespace Go.Proofs.YtldobcfejldbiaaGreatDoor
set_option linter.unusedVariables false
set_option linter.unusedSimpArgs false
open Go.RowKit Go.Sort Sm

set_option maxRecDepth 20000 in
set_option maxHeartbeats 2000000 in
theorem partial_w (g cap n a b : Nat) (d : Array Int) (w : World) (h : SH w g d) (hn : d.size = n) (hn1 : n ≤ 1000) (hab : a < b) (hb : b ≤ n) (hs : b < a + 50) :
    Calls Tryz.prog 181 #[.slice (some ⟨g, 0, none⟩) n cap, .int .i64 ((a : Nat) : Int), .int .i64 ((b : Nat) : Int)] w fun e w' =>
      ∃ R : Bool, e = .returned (.bool R) ∧ (R = true → SortedIn ltInt a b d) ∧ ∃ q, w' = w.drewN q := by
  have H := Lib.hid h
  clear h
  go_enter Tryz.func181, Tryz.ntmps181
  go_wp2_with fail
  go_loopw [7, 8] (fun vi vj wr => vi = .int .i64 ((a : Int) + 1) ∧ vj = .int .i64 0 ∧ wr = w) (fun _ _ _ => 0)
  case atStart => exact ⟨rfl, rfl, rfl⟩
  case round =>
    obtain ⟨rfl, rfl, hw⟩ := hrel
    obtain rfl : w = wr := hw.symm
    go_wp2_with fail
    go_loopw [7] (fun vi wr => ∃ (i q : Nat), vi = .int .i64 ((i : Nat) : Int) ∧ a < i ∧ i ≤ b ∧ SortedIn ltInt a i d ∧ wr = w.drewN q) (fun vi _ => b + 1 - (intOf vi).toNat)
    case atStart => exact ⟨a + 1, 0, by go_num, by omega, by omega, sorted_one a d, rfl⟩
    case round =>
      obtain ⟨i, q, rfl, hai, hib, hso, hw⟩ := hrel
      have HW := Lib.hid hw
      have HS := Lib.hid hso
      clear hso
      obtain ⟨G, hG⟩ : ∃ G : Nat → Int, ∀ t, G t = d[t]! := ⟨fun t => d[t]!, fun _ => rfl⟩
      have HG := Lib.hid hG
      by_cases hi : i < b
      · have hii : (i : Int) < b := by omega
        have b1 : (i : Int) < n := by omega
        have b2 : (i : Int) - 1 < n := by omega
        have b3 : (0 : Int) ≤ (i : Int) - 1 := by omega
        have b4 : (0 : Int) ≤ (i : Int) := by omega
        have c1 : wr.cell? ⟨g, i, none⟩ = some (.int .u64 (G i)) := by rw [hG, hw]; exact H.out.cell (by omega)
        have c0 : wr.cell? ⟨g, i - 1, none⟩ = some (.int .u64 (G (i - 1))) := by rw [hG, hw]; exact H.out.cell (by omega)
        clear hG hw
        go_upto_region 5 with (fail)
        go_big_quiet (first | (go_at_call 182; refine Calls.quiet_of_same (less_u64 _ _ _)))
        go_wp2_with fail
        · have hl : ltInt (G i) (G (i - 1)) = false := by first | assumption | (simpa using (by assumption : (!ltInt (G i) (G (i - 1))) = true))
          exact ⟨⟨i + 1, q + nq, by go_num, by omega, by omega, sorted_next HS.out hai (by rw [← HG.out, ← HG.out]; exact hl), by rw [HW.out, World.drewN_drewN]⟩, by simp [intOf]; omega⟩
        · go_ret
          exact ⟨false, rfl, fun e => (by cases e), _, by rw [HW.out, World.drewN_drewN]⟩
      · obtain rfl : i = b := by omega
        have cb : decide ((i : Int) < (i : Int)) = false := by simp
        clear hG hw
        go_upto_region 5 with (fail)
        go_big_quiet (fail)
        go_wp2_with fail
        go_ret
        exact ⟨true, rfl, fun _ => HS.out, _, by rw [HW.out, World.drewN_drewN]⟩
end Go.Proofs.YtldobcfejldbiaaGreatDoor
