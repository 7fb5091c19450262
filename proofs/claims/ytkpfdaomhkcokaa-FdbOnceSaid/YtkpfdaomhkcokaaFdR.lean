/-
  The laws of layer 7: few, awake.
-/
import Derived.Test.YtkpfdaomhkcokaaFdQ
namespace Go.Proofs.Ytkpfdaomhkcokaa
set_option linter.unusedVariables false
set_option linter.unusedSimpArgs false
open Go.RowKit Go.Maps Dm

/-- The six cells of an act. -/
def At6 (w : World) (g o : Nat) (x : Ac) : Prop :=
  w.cell? ⟨g, o, none⟩ = some (.int .i64 x.kind) ∧ w.cell? ⟨g, o + 1, none⟩ = some (.int .i64 x.vlan) ∧ w.cell? ⟨g, o + 2, none⟩ = some (.string x.mac) ∧ w.cell? ⟨g, o + 3, none⟩ = some (.int .i64 x.port) ∧ w.cell? ⟨g, o + 4, none⟩ = some (.int .i64 x.n) ∧ w.cell? ⟨g, o + 5, none⟩ = some (.int .i64 x.m)
def inI64 (n : Int) : Prop := -9223372036854775808 ≤ n ∧ n ≤ 9223372036854775807
/-- A row of acts. -/
structure ARow (w : World) (a : Option Addr) (l : List Ac) : Prop where
  at_ : ∀ j x, l[j]? = some x → ∃ g o : Nat, a = some ⟨g, o, none⟩ ∧ g < w.heap.size ∧ At6 w g (o + j * 6) x
  rng : ∀ x ∈ l, inI64 x.vlan ∧ inI64 x.n
theorem At6.below {w w' : World} {g o B : Nat} {x : Ac} (k : At6 w g o x) (hb : Below B w w') (hB : g < B) : At6 w' g o x := by
  obtain ⟨k0, k1, k2, k3, k4, k5⟩ := k
  exact ⟨(hb.cell (p := ⟨g, o, none⟩) hB).trans k0, (hb.cell (p := ⟨g, o + 1, none⟩) hB).trans k1, (hb.cell (p := ⟨g, o + 2, none⟩) hB).trans k2, (hb.cell (p := ⟨g, o + 3, none⟩) hB).trans k3, (hb.cell (p := ⟨g, o + 4, none⟩) hB).trans k4, (hb.cell (p := ⟨g, o + 5, none⟩) hB).trans k5⟩
theorem ARow.next {w w' : World} {a : Option Addr} {l : List Ac} (h : ARow w a l) (hb : Below w.heap.size w w') : ARow w' a l :=
  ⟨fun j x hx => by obtain ⟨g, o, e, hg, k⟩ := h.at_ j x hx; exact ⟨g, o, e, Nat.lt_of_lt_of_le hg hb.size, k.below hb hg⟩, h.rng⟩

def fewB (l : List Ac) : Bool := decide (l.length ≤ 150) && l.all (fun x => decide (x.mac.size ≤ 20))
theorem few_no {l : List Ac} {j : Nat} {x : Ac} (h : l[j]? = some x) (hx : 20 < x.mac.size) : fewB l = false := by
  unfold fewB
  have : l.all (fun x => decide (x.mac.size ≤ 20)) = false := by
    rw [List.all_eq_false]
    exact ⟨x, List.mem_of_getElem? h, by simp; omega⟩
  rw [this]; simp
theorem few_long {l : List Ac} (h : 150 < l.length) : fewB l = false := by
  unfold fewB
  rw [decide_eq_false (by omega)]; rfl
theorem few_yes {l : List Ac} (h : l.length ≤ 150) (hx : ∀ j x, j < l.length → l[j]? = some x → x.mac.size ≤ 20) : fewB l = true := by
  unfold fewB
  rw [decide_eq_true h, Bool.true_and, List.all_eq_true]
  intro x hm
  obtain ⟨i, hi⟩ := List.getElem?_of_mem hm
  exact decide_eq_true (hx i x (List.getElem?_eq_some_iff.1 hi).1 hi)

set_option maxRecDepth 20000 in
set_option maxHeartbeats 2000000 in
theorem few_w (a : Option Addr) (cap : Nat) (l : List Ac) (w : World) (h : ARow w a l) :
    Calls Try.prog 7 #[.slice a l.length cap] w fun e w' => e = .returned (.bool (fewB l)) ∧ w = w' := by
  obtain ⟨n, hn⟩ : ∃ n, l.length = n := ⟨_, rfl⟩
  obtain ⟨R, hR⟩ : ∃ R, fewB l = R := ⟨_, rfl⟩
  have HN := Lib.hid hn
  have HR := Lib.hid hR
  have HA := Lib.hid h
  rw [hn, hR]
  clear hn hR h
  go_enter Try.func7, Try.ntmps7
  go_wp2_with fail
  go_loopw [3] (fun i wr => ∃ j : Nat, j ≤ n ∧ j ≤ 150 ∧ i = .int .i64 (j : Nat) ∧ (∀ k x, k < j → l[k]? = some x → x.mac.size ≤ 20) ∧ w = wr) (fun i _ => n - (intOf i).toNat)
  case atStart => exact ⟨0, Nat.zero_le _, by omega, rfl, fun k x h => by omega, rfl⟩
  case round =>
    obtain ⟨j, hj, hj2, rfl, hall, rfl⟩ := hrel
    have HALL := Lib.hid hall
    clear hall
    by_cases hjn : j < n
    · by_cases h150 : j = 150
      · have hb : R = false := by rw [← HR.out]; exact few_long (by rw [HN.out]; omega)
        subst hb
        subst h150
        go_wp2
        go_ret
        exact ⟨rfl, rfl⟩
      · obtain ⟨⟨k, v, m, p, q, r⟩, hx⟩ := at_some (l := l) (k := j) (by rw [HN.out]; exact hjn)
        obtain ⟨g, o, rfl, hgl, q0, q1, q2, q3, q4, q5⟩ := HA.out.at_ j _ hx
        simp only at q0 q1 q2 q3 q4 q5
        have hlt : (j : Int) < 150 := by omega
        by_cases hm : 20 < m.size
        · have hb : R = false := by rw [← HR.out]; exact few_no hx hm
          subst hb
          clear hx
          go_wp2
          go_ret
          exact ⟨rfl, rfl⟩
        · have HX := Lib.hid hx
          have hm2 : m.size ≤ 20 := by omega
          clear hx hm
          go_wp2
          refine ⟨⟨j + 1, by omega, by omega, by go_num, fun i x hi hix => ?_, by trivial⟩, by simp [intOf]; omega⟩
          by_cases e : i = j
          · subst e
            rw [HX.out] at hix
            cases hix
            exact hm2
          · exact HALL.out i x (by omega) hix
    · obtain rfl : j = n := by omega
      have hb : R = true := by rw [← HR.out]; exact few_yes (by rw [HN.out]; exact hj2) (fun i x hi hx => HALL.out i x (by rw [HN.out] at hi; exact hi) hx)
      subst hb
      go_wp2
      go_ret
      exact ⟨rfl, rfl⟩

abbrev macA : ByteArray := ⟨#[2, 97, 97, 97, 97, 97]⟩
abbrev macB : ByteArray := ⟨#[3, 97, 97, 97, 97, 97]⟩
abbrev macC : ByteArray := ⟨#[2, 98, 98, 98, 98, 98]⟩
abbrev macX : ByteArray := ⟨#[120]⟩
abbrev S0 : Tb := ⟨[], 0⟩
abbrev S1 : Tb := ⟨[⟨1, macA, 3, 5, false⟩], 1⟩
abbrev S2 : Tb := ⟨[⟨2, macA, 4, 6, false⟩], 2⟩
abbrev S3 : Tb := ⟨[], 2⟩
theorem s_learn1 : learnT 1 S0 1 macA 3 5 = (S1, 0) := by kernel_rfl
theorem s_learn2 : learnT 1 S1 2 macA 4 6 = (S2, 0) := by kernel_rfl
theorem s_learn3 : learnT 1 S2 1 macB 3 5 = (S2, 2) := by kernel_rfl
theorem s_fix : fixT 1 S2 1 macC 0 = (S2, 7) := by kernel_rfl
theorem s_age1 : ageT S2 11 6 = (S2, 0) := by kernel_rfl
theorem s_age2 : ageT S2 12 6 = (S3, 1) := by kernel_rfl
theorem s_drop : dropT S3 1 macX = (S3, 5) := by kernel_rfl
theorem s_find1 : findR S2.l ⟨2, macA⟩ = (4, true) := by kernel_rfl
theorem s_find2 : findR S2.l ⟨1, macA⟩ = (0, false) := by kernel_rfl
theorem ml (m : ByteArray) (h : m.size ≤ 20) : m.size ≤ maxLen := by unfold maxLen; omega
theorem kyok (v : Int) (m : ByteArray) (hv : inI64 v) (hm : m.size ≤ 20) : KyOk ⟨v, m⟩ := by
  obtain ⟨h1, h2⟩ := hv
  exact ⟨by simp [Lit.wf, IntKind.min, IntKind.max, IntKind.signed, IntKind.bits]; omega, ml m hm⟩

section
variable (tb mb : Nat) (w : World)
theorem aw1 (h : IsTab w tb mb 1 S0) : Calls Try.prog 14 #[.pointer (some ⟨tb, 0, none⟩), .int .i64 1, .string macA, .int .i64 3, .int .i64 5] w fun e w' => e = .returned (.int .i64 0) ∧ IsTab w' tb mb 1 S1 ∧ Kept2 tb mb w w' := by
  have := learn_w tb mb 1 S0 1 macA 3 5 w h (ml _ (by decide)) (by decide)
  rwa [s_learn1] at this
theorem aw2 (h : IsTab w tb mb 1 S1) : Calls Try.prog 14 #[.pointer (some ⟨tb, 0, none⟩), .int .i64 2, .string macA, .int .i64 4, .int .i64 6] w fun e w' => e = .returned (.int .i64 0) ∧ IsTab w' tb mb 1 S2 ∧ Kept2 tb mb w w' := by
  have := learn_w tb mb 1 S1 2 macA 4 6 w h (ml _ (by decide)) (by decide)
  rwa [s_learn2] at this
theorem aw3 (h : IsTab w tb mb 1 S2) : Calls Try.prog 14 #[.pointer (some ⟨tb, 0, none⟩), .int .i64 1, .string macB, .int .i64 3, .int .i64 5] w fun e w' => e = .returned (.int .i64 2) ∧ IsTab w' tb mb 1 S2 ∧ Kept2 tb mb w w' := by
  have := learn_w tb mb 1 S2 1 macB 3 5 w h (ml _ (by decide)) (by decide)
  rwa [s_learn3] at this
theorem aw4 (h : IsTab w tb mb 1 S2) : Calls Try.prog 15 #[.pointer (some ⟨tb, 0, none⟩), .int .i64 1, .string macC, .int .i64 0] w fun e w' => e = .returned (.int .i64 7) ∧ IsTab w' tb mb 1 S2 ∧ Kept2 tb mb w w' := by
  have := fix_w tb mb 1 S2 1 macC 0 w h (ml _ (by decide))
  rwa [s_fix] at this
theorem aw5 (h : IsTab w tb mb 1 S2) : Calls Try.prog 16 #[.pointer (some ⟨tb, 0, none⟩), .int .i64 11, .int .i64 6] w fun e w' => e = .returned (.int .i64 0) ∧ IsTab w' tb mb 1 S2 ∧ Kept2 tb mb w w' := by
  have := age_w tb mb 1 S2 11 6 w h (by decide)
  rwa [s_age1] at this
theorem aw6 (h : IsTab w tb mb 1 S2) : Calls Try.prog 16 #[.pointer (some ⟨tb, 0, none⟩), .int .i64 12, .int .i64 6] w fun e w' => e = .returned (.int .i64 1) ∧ IsTab w' tb mb 1 S3 ∧ Kept2 tb mb w w' := by
  have := age_w tb mb 1 S2 12 6 w h (by decide)
  rwa [s_age2] at this
theorem aw7 (h : IsTab w tb mb 1 S3) : Calls Try.prog 17 #[.pointer (some ⟨tb, 0, none⟩), .int .i64 1, .string macX] w fun e w' => e = .returned (.int .i64 5) ∧ IsTab w' tb mb 1 S3 ∧ Kept2 tb mb w w' := by
  have := drop_w tb mb 1 S3 1 macX w h (kyok _ _ ⟨by decide, by decide⟩ (by decide))
  rwa [s_drop] at this
theorem aw8 (h : IsTab w tb mb 1 S2) : Calls Try.prog 12 #[.pointer (some ⟨tb, 0, none⟩), .int .i64 2, .string macA] w fun e w' => e = .returned (.tuple #[.int .i64 4, .bool true]) ∧ Grown w w' := by
  have := find_w tb mb 1 S2 2 macA w h (kyok _ _ ⟨by decide, by decide⟩ (by decide))
  rwa [s_find1] at this
theorem aw9 (h : IsTab w tb mb 1 S2) : Calls Try.prog 12 #[.pointer (some ⟨tb, 0, none⟩), .int .i64 1, .string macA] w fun e w' => e = .returned (.tuple #[.int .i64 0, .bool false]) ∧ Grown w w' := by
  have := find_w tb mb 1 S2 1 macA w h (kyok _ _ ⟨by decide, by decide⟩ (by decide))
  rwa [s_find2] at this
end
/-- A call that turned a table that was made since. -/
theorem Kept2.under {tb mb : Nat} {w0 w w' : World} (hb : Below w0.heap.size w0 w) (h1 : w0.heap.size ≤ tb) (h2 : w0.heap.size ≤ mb) (h : Kept2 tb mb w w') : Below w0.heap.size w0 w' := h.below hb h1 h2 hb.size

end Go.Proofs.Ytkpfdaomhkcokaa
