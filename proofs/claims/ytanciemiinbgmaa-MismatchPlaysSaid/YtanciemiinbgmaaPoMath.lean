/-
  Plain mathematics of layer 6 (set-ups of ports): no program is named here. When a set-up is right, its text, what a text says, of which VLAN a frame is that comes in, and how one goes out.
-/
import Derived.Test.YtanciemiinbgmaaFrMath
namespace Go.Proofs.Ytanciemiinbgmaa
set_option linter.unusedVariables false
set_option linter.unusedSimpArgs false
namespace Pm
open Fm

/-- A set-up. -/
structure Po where
  trunk : Bool
  native : Int
  allowed : List Int

def vlanB (n : Int) : Bool := decide (1 ≤ n ∧ n ≤ 4094)
/-- Each is a VLAN, above the one ahead of it. -/
def riseB : Int → List Int → Bool
  | _, [] => true
  | last, n :: l => vlanB n && decide (last < n) && riseB n l
def portB (p : Po) : Bool := vlanB p.native && (if p.trunk then decide (p.allowed.length ≤ 16) && riseB 0 p.allowed else decide (p.allowed.length = 0))
def hasB (p : Po) (v : Int) : Bool := portB p && (if p.trunk then decide (v ∈ p.allowed) else decide (v = p.native))
def zeroP : Po := ⟨false, 0, []⟩

theorem rise_iff (l : List Int) : ∀ last, riseB last l = true ↔ (∀ n ∈ l, vlanB n = true) ∧ (∀ n ∈ l, last < n) ∧ l.Pairwise (· < ·) := by
  induction l with
  | nil => intro last; simp [riseB]
  | cons n l ih =>
    intro last
    simp only [riseB, Bool.and_eq_true, decide_eq_true_eq, ih n, List.mem_cons, List.pairwise_cons]
    constructor
    · rintro ⟨⟨h1, h2⟩, h3, h4, h5⟩
      refine ⟨?_, ?_, h4, h5⟩
      · rintro m (rfl | hm)
        · exact h1
        · exact h3 m hm
      · rintro m (rfl | hm)
        · exact h2
        · have := h4 m hm; omega
    · rintro ⟨h1, h2, h3, h4⟩
      exact ⟨⟨h1 n (.inl rfl), h2 n (.inl rfl)⟩, fun m hm => h1 m (.inr hm), h3, h4⟩
theorem rise0_iff (l : List Int) : riseB 0 l = true ↔ (∀ n ∈ l, vlanB n = true) ∧ l.Pairwise (· < ·) := by
  rw [rise_iff]
  constructor
  · rintro ⟨h1, _, h3⟩; exact ⟨h1, h3⟩
  · rintro ⟨h1, h3⟩
    refine ⟨h1, fun n hn => ?_, h3⟩
    have := h1 n hn
    simp [vlanB] at this
    omega
/-- The row up to a place is right, as two loops ask it. -/
def UpTo (l : List Int) (i : Nat) : Prop := (∀ a n, a < i → l[a]? = some n → vlanB n = true) ∧ (∀ a b m n, a < b → b < i → l[a]? = some m → l[b]? = some n → m < n)
theorem upTo_zero (l : List Int) : UpTo l 0 := ⟨fun _ _ h => by omega, fun _ _ _ _ _ h => by omega⟩
theorem upTo_succ {l : List Int} {i : Nat} (h : UpTo l i) (n : Int) (hn : l[i]? = some n) (h1 : vlanB n = true) (h2 : ∀ k m, k < i → l[k]? = some m → m < n) : UpTo l (i + 1) := by
  refine ⟨fun a m ha hm => ?_, fun a b m m' hab hb hm hm' => ?_⟩
  · by_cases e : a = i
    · subst e; rw [hn] at hm; cases hm; exact h1
    · exact h.1 a m (by omega) hm
  · by_cases e : b = i
    · subst e; rw [hn] at hm'; cases hm'; exact h2 a m hab hm
    · exact h.2 a b m m' hab (by omega) hm hm'
theorem upTo_rise {l : List Int} (h : UpTo l l.length) : riseB 0 l = true := by
  rw [rise0_iff]
  refine ⟨fun n hn => ?_, ?_⟩
  · obtain ⟨a, ha⟩ := List.getElem?_of_mem hn
    exact h.1 a n (List.getElem?_eq_some_iff.1 ha).1 ha
  · rw [List.pairwise_iff_getElem]
    intro i j hi hj hij
    exact h.2 i j _ _ hij hj (List.getElem?_eq_getElem hi) (List.getElem?_eq_getElem hj)
theorem not_rise_vlan {l : List Int} {i : Nat} {n : Int} (hn : l[i]? = some n) (h : vlanB n = false) : riseB 0 l = false := by
  cases hr : riseB 0 l with
  | false => rfl
  | true =>
    rw [rise0_iff] at hr
    have := hr.1 n (List.mem_of_getElem? hn)
    rw [h] at this; cases this
theorem not_rise_pair {l : List Int} {k i : Nat} {m n : Int} (hk : l[k]? = some m) (hn : l[i]? = some n) (hki : k < i) (h : ¬ m < n) : riseB 0 l = false := by
  cases hr : riseB 0 l with
  | false => rfl
  | true =>
    rw [rise0_iff, List.pairwise_iff_getElem] at hr
    obtain ⟨hk1, hk2⟩ := List.getElem?_eq_some_iff.1 hk
    obtain ⟨hn1, hn2⟩ := List.getElem?_eq_some_iff.1 hn
    have := hr.2 k i hk1 hn1 hki
    rw [hk2, hn2] at this
    exact absurd this h

theorem at_some {α : Type} {l : List α} {k : Nat} (h : k < l.length) : ∃ v, l[k]? = some v := ⟨l[k], List.getElem?_eq_getElem h⟩
theorem mem_at {l : List Int} {k : Nat} {n : Int} (h : l[k]? = some n) : n ∈ l := List.mem_of_getElem? h
theorem drop_at {l : List Int} {k : Nat} {n : Int} (h : l[k]? = some n) : l.drop k = n :: l.drop (k + 1) := by
  obtain ⟨h1, h2⟩ := List.getElem?_eq_some_iff.1 h
  rw [List.drop_eq_getElem_cons h1, h2]
theorem take_at {l : List Int} {k : Nat} {n : Int} (h : l[k]? = some n) : l.take (k + 1) = l.take k ++ [n] := by
  rw [List.take_add_one, h]; rfl

theorem port_parts {t : Bool} {n : Int} {l : List Int} (h : portB ⟨t, n, l⟩ = true) : 1 ≤ n ∧ n ≤ 4094 ∧ l.length ≤ 16 ∧ (t = false → l = []) ∧ ∀ m ∈ l, 1 ≤ m ∧ m ≤ 4094 := by
  simp only [portB, Bool.and_eq_true, vlanB, decide_eq_true_eq] at h
  obtain ⟨⟨h1, h2⟩, h3⟩ := h
  cases t with
  | false =>
    simp at h3
    subst h3
    exact ⟨h1, h2, by simp, fun _ => rfl, fun m hm => by cases hm⟩
  | true =>
    simp only [if_pos, Bool.and_eq_true, decide_eq_true_eq] at h3
    refine ⟨h1, h2, h3.1, fun h => (Bool.false_ne_true h.symm).elim, fun m hm => ?_⟩
    have := (rise0_iff l).1 h3.2
    have := this.1 m hm
    simpa [vlanB] using this

/-- The allowed ones' bytes. -/
def rowB : List Int → ByteArray
  | [] => ⟨#[]⟩
  | n :: l => w16 n ++ rowB l
theorem row_app (l m : List Int) : rowB (l ++ m) = rowB l ++ rowB m := by
  induction l with
  | nil => simp only [List.nil_append, rowB]; exact (nil_app _).symm
  | cons n l ih => simp only [List.cons_append, rowB, ih, ByteArray.append_assoc]
theorem row_step {l : List Int} {k : Nat} {n : Int} (h : l[k]? = some n) : rowB (l.take (k + 1)) = rowB (l.take k) ++ w16 n := by
  rw [take_at h, row_app]
  simp only [rowB, app_nil]
theorem w16_size (n : Int) : (w16 n).size = 2 := rfl
theorem row_size (l : List Int) : (rowB l).size = 2 * l.length := by
  induction l with
  | nil => rfl
  | cons n l ih => simp only [rowB, ByteArray.size_append, w16_size, ih, List.length_cons]; omega
def headT (n : Int) (k : Nat) : ByteArray := ⟨#[84]⟩ ++ w16 n ++ ⟨#[UInt8.ofNat k]⟩
def textB (p : Po) : ByteArray := if p.trunk then headT p.native p.allowed.length ++ rowB p.allowed else ⟨#[65]⟩ ++ w16 p.native
def printR (p : Po) : ByteArray × Int := if portB p then (textB p, 0) else (⟨#[]⟩, 2)

/-- A byte of a text; the number of so many bytes from a place on. -/
def bt (s : ByteArray) (i : Nat) : Int := (s.data.getD i 0).toNat
theorem bt_bd (s : ByteArray) (i : Nat) : 0 ≤ bt s i ∧ bt s i < 256 := by
  have := UInt8.toNat_lt (s.data.getD i 0)
  unfold bt; omega
theorem bt_get (s : ByteArray) (i : Nat) (h : i < s.size) : bt s i = s[i].toNat := by
  unfold bt; rw [getD_byte s i h]
def numK (s : ByteArray) (A : Nat) : Nat → Int
  | 0 => 0
  | j + 1 => numK s A j * 256 + bt s (A + j)
theorem numK_bd (s : ByteArray) (A : Nat) : ∀ j, 0 ≤ numK s A j ∧ numK s A j < 256 ^ j := by
  intro j
  induction j with
  | zero => simp [numK]
  | succ j ih =>
    have := bt_bd s (A + j)
    simp only [numK, Int.pow_succ]
    omega
theorem numK_1 (s : ByteArray) (A : Nat) : numK s A 1 = bt s A := by simp [numK]
theorem numK_2 (s : ByteArray) (A : Nat) : numK s A 2 = numN s A := by simp [numK, numN, bt]
theorem join8 (n : Int) (b : UInt8) (h0 : 0 ≤ n) (h1 : n < 65536) : bits .or .i64 (n * 256) (b.toNat : Int) = n * 256 + b.toNat := by
  have := UInt8.toNat_lt b
  exact i64_join 8 _ _ (by omega) (by omega) (by omega) (by omega) (by omega) (by omega)

def rowsN (s : ByteArray) (A k : Nat) : List Int := (List.range k).map (fun i => numN s (A + 2 * i))
theorem rowsN_length (s : ByteArray) (A k : Nat) : (rowsN s A k).length = k := by simp [rowsN]
theorem rowsN_succ (s : ByteArray) (A k : Nat) : rowsN s A (k + 1) = rowsN s A k ++ [numN s (A + 2 * k)] := by simp [rowsN, List.range_succ]
/-- Has a text just the bytes that its letter and its count ask for? -/
def lenB (s : ByteArray) : Bool :=
  if s.size < 3 then false
  else if bt s 0 = 65 then decide (s.size = 3)
  else if bt s 0 = 84 ∧ 4 ≤ s.size then decide ((s.size : Int) = 4 + 2 * bt s 3)
  else false
def takenR (s : ByteArray) : Po := if bt s 0 = 84 then ⟨true, numN s 1, rowsN s 4 (bt s 3).toNat⟩ else ⟨false, numN s 1, []⟩
/-- What a text says. -/
def parseP (s : ByteArray) : Po × Int := if lenB s && portB (takenR s) then (takenR s, 0) else (zeroP, 2)

/-- Of which VLAN a frame is that comes in. -/
def inP (p : Po) (f : Fr) : Int × Int :=
  if portB p && rightB f then
    (if f.vlan = 0 then (if hasB p p.native then (p.native, 0) else (0, 5))
     else if p.trunk then (if hasB p f.vlan then (f.vlan, 0) else (0, 5)) else (0, 5))
  else (0, 2)
/-- How a frame goes out. -/
def outP (p : Po) (f : Fr) (v : Int) : Fr × Int :=
  if portB p && rightB f then
    (if hasB p v then (if v = p.native then (⟨f.dst, f.src, false, 0, 0, f.typ, f.pay⟩, 0) else (⟨f.dst, f.src, true, f.pri, v, f.typ, f.pay⟩, 0)) else (zero, 5))
  else (zero, 2)
end Pm
end Go.Proofs.Ytanciemiinbgmaa
