/-
  Layer 9: a guard's map (VLANs, and from when on each is free), read as a function; a guard's block of memory.
-/
import Derived.Test.YtanciemiinbgmaaMiB
import Derived.Test.YtanciemiinbgmaaMiMath2
import Derived.Lib.SlKeysI
import Derived.Maps.OwnSet
import Derived.Maps.RangeWalk
namespace Go.Proofs.Ytanciemiinbgmaa
set_option linter.unusedVariables false
set_option linter.unusedSimpArgs false
open Go.RowKit Go.Maps Pm Mm

def inI64 (n : Int) : Prop := -9223372036854775808 ≤ n ∧ n ≤ 9223372036854775807
theorem keyInt : Keyed Try.prog 3 := int_keyed Try.underlying3
abbrev zi (n : Int) : Lit := .int .i64 n
def rdI : Value → Option (DataW Unit × List MemPlace)
  | .int .i64 n => some (.lit (.int .i64 n), [])
  | _ => none
theorem rdI_mk (n : Int) : rdI (.int .i64 n) = some (.lit (.int .i64 n), []) := rfl
theorem rdI_inv {v : Value} {y : DataW Unit × List MemPlace} (h : rdI v = some y) : ∃ n, v = .int .i64 n ∧ y = (.lit (.int .i64 n), []) := by
  unfold rdI at h
  split at h
  · rename_i n
    exact ⟨n, rfl, (Option.some.inj h).symm⟩
  · cases h
theorem zeroI (w : World) : (zeroValue 3).run Try.prog w = .ok (.int .i64 0) w := by kernel_rfl
theorem wf_of {n : Int} (h : inI64 n) : (Lit.int .i64 n).wf = true := by
  unfold inI64 at h
  exact WalkArith.wf_i64 (by omega)
theorem key_mk {n : Int} (h : inI64 n) : keyOf Try.prog 3 (.int .i64 n) = some (zi n) := keyOf_int_mk Try.underlying3 (wf_of h)

/-- The datum says just this of each VLAN. -/
structure Reads (D : DataW Unit) (f : Int → Int) : Prop where
  at_ : ∀ v, D.atKey (zi v) (.lit (zi 0)) = .lit (zi (f v))
theorem Reads.none {D : DataW Unit} {f : Int → Int} (h : Reads D f) {v : Int} (hv : Maps.has D (zi v) = false) : f v = 0 := by
  have := h.at_ v
  rw [atKey_of_not_has hv] at this
  simp only [DataW.lit.injEq, Lit.int.injEq, true_and] at this
  exact this.symm
theorem reads_empty : Reads (.map []) (fun _ => 0) := ⟨fun _ => rfl⟩
theorem reads_put {D : DataW Unit} {f : Int → Int} (h : Reads D f) (hD : IsMap D) (k u : Int) : Reads (D.put (zi k) (.lit (zi u))) (fun v => if v = k then u else f v) := by
  refine ⟨fun v => ?_⟩
  by_cases e : v = k
  · subst e
    rw [atKey_put_same hD (show WideAt.IsKeyLit (zi v) from trivial), if_pos rfl]
  · rw [atKey_put_other (by simpa using e), if_neg e]
    exact h.at_ v

/-- Block mb of w is a map that says just this; n bounds how many entries it has. -/
structure IsMm (w : World) (mb : Nat) (f : Int → Int) (n : Nat) : Prop where
  own : ∃ D : DataW Unit, w.ownsMap (H := Unit) Try.prog 3 rdI mb n D ∧ Reads D f
theorem IsMm.lt {w : World} {mb n : Nat} {f : Int → Int} (h : IsMm w mb f n) : mb < w.heap.size := by
  obtain ⟨D, h1, _⟩ := h.own
  exact h1.lt
theorem IsMm.same {w w' : World} {mb n : Nat} {f : Int → Int} (h : IsMm w mb f n) (hb : w'.heap[mb]? = w.heap[mb]?) : IsMm w' mb f n := by
  obtain ⟨D, ⟨es, clock, hbk, F, hs, hD⟩, h2⟩ := h.own
  exact ⟨D, ⟨es, clock, hb.trans hbk, F, hs, hD⟩, h2⟩
theorem IsMm.next {w w' : World} {mb n : Nat} {f : Int → Int} (h : IsMm w mb f n) (hb : Below w.heap.size w w') : IsMm w' mb f n := h.same (hb.block mb h.lt)
theorem IsMm.mono {w : World} {mb n m : Nat} {f : Int → Int} (h : IsMm w mb f n) (hn : n ≤ m) : IsMm w mb f m := by
  obtain ⟨D, h1, h2⟩ := h.own
  exact ⟨D, h1.mono hn, h2⟩
theorem IsMm.look {w : World} {mb n : Nat} {f : Int → Int} (h : IsMm w mb f n) {v : Int} (hv : inI64 v) :
    (Instr.lookup 56 (.map (some mb)) (.int .i64 v) false).run Try.prog w = .ok (.int .i64 (f v)) w := by
  obtain ⟨D, h1, h2⟩ := h.own
  obtain ⟨x, ps, hrun, hx⟩ := h1.lookup keyInt Try.underlying56 (zeroI w) (rdI_mk 0) (key_mk hv)
  obtain ⟨y, rfl, hy⟩ := rdI_inv hx
  have hd := (Prod.mk.inj hy).1
  rw [h2.at_] at hd
  simp only [DataW.lit.injEq, Lit.int.injEq, true_and] at hd
  rw [hrun, hd]
theorem IsMm.store {w : World} {mb n : Nat} {f : Int → Int} (h : IsMm w mb f n) {v : Int} (hv : inI64 v) (u : Int) (hn : n ≤ 100000) :
    ∃ w', (Instr.mapUpdate 56 (.map (some mb)) (.int .i64 v) (.int .i64 u)).run Try.prog w = .ok () w' ∧ IsMm w' mb (fun x => if x = v then u else f x) (n + 1) ∧ w.mapTurned w' mb := by
  obtain ⟨D, h1, h2⟩ := h.own
  obtain ⟨w', hrun, h3, h4⟩ := h1.store (H := Unit) keyInt Try.underlying56 (by unfold maxLen; omega) (key_mk hv) (rdI_mk u)
  exact ⟨w', hrun, ⟨_, h3, reads_put h2 h1.isMap v u⟩, h4⟩
theorem mm_made (w : World) : IsMm (w.alloc (.map #[] 0)) w.heap.size (fun _ => 0) 0 := ⟨.map [], World.ownsMap_made _ _ _ _, reads_empty⟩

/-- A row of keys, gone through in order: what is told of each, where it is not 0. -/
theorem keys_has {w : World} {mb n : Nat} {D : DataW Unit} (h : w.ownsMap (H := Unit) Try.prog 3 rdI mb n D) : (intKeys D).Nodup ∧ ∀ x, x ∈ intKeys D ↔ Maps.has D (zi x) = true := by
  obtain ⟨es, hD, hpw, _⟩ := h.entries keyInt
  obtain ⟨es', hD', hko⟩ := h.keysOf
  obtain rfl : es = es' := by rw [hD] at hD'; simpa using hD'
  subst hD
  have hk : ∀ p ∈ es, ∃ x, p.1 = .int .i64 x := fun p hp => by obtain ⟨v, hv⟩ := hko p hp; obtain ⟨x, _, hx, _⟩ := Maps.keyOf_i64 Try.underlying3 hv; exact ⟨x, hx⟩
  constructor
  · show (es.map fun p => Go.intOf p.1).Nodup
    refine List.pairwise_map.2 (hpw.imp_of_mem fun {p q} hp' hq' hne e => hne ?_)
    obtain ⟨a, ha⟩ := hk p hp'
    obtain ⟨b, hb⟩ := hk q hq'
    rw [ha, hb] at e ⊢
    exact congrArg _ e
  · intro x
    rw [has_eq, List.any_eq_true]
    show x ∈ es.map (fun p => Go.intOf p.1) ↔ _
    rw [List.mem_map]
    constructor
    · rintro ⟨p, hp', rfl⟩
      obtain ⟨a, ha⟩ := hk p hp'
      exact ⟨p, hp', by rw [ha]; simp [Lit.sameKey, Go.intOf]⟩
    · rintro ⟨p, hp', hs⟩
      obtain ⟨a, ha⟩ := hk p hp'
      rw [ha] at hs
      exact ⟨p, hp', by rw [ha]; simpa [Lit.sameKey, Go.intOf] using hs⟩
/-- A row of keys, rising: each but once; those of another than 0 are among them. -/
structure KeyRow (f : Int → Int) (l : List Int) : Prop where
  rise : l.Pairwise (· < ·)
  all : ∀ v, ¬ f v = 0 → v ∈ l
  i64 : ∀ v ∈ l, inI64 v
theorem keyRow_of {w : World} {mb n : Nat} {f : Int → Int} {D : DataW Unit} (h : w.ownsMap (H := Unit) Try.prog 3 rdI mb n D) (hr : Reads D f) {ss : List Int} (hp : ss.Perm (intKeys D)) :
    KeyRow f (ss.mergeSort (fun x y => decide (x ≤ y))) := by
  obtain ⟨hn, hm⟩ := keys_has h
  have hq : (ss.mergeSort (fun x y => decide (x ≤ y))).Perm (intKeys D) := (List.mergeSort_perm ss _).trans hp
  have hs : (ss.mergeSort (fun x y => decide (x ≤ y))).Pairwise (fun a b => leI a b = true) :=
    List.pairwise_mergeSort (fun a b c h1 h2 => by simp only [decide_eq_true_eq] at *; omega) (fun a b => by simp only [Bool.or_eq_true, decide_eq_true_eq]; omega) ss
  have hnd := hq.nodup_iff.2 hn
  refine ⟨?_, fun v hv => ?_, fun v hv => ?_⟩
  · have := hs.and (List.nodup_iff_pairwise_ne.1 hnd)
    refine this.imp fun {a b} h => ?_
    have h1 := of_decide_eq_true h.1
    have h2 := h.2
    omega
  · rw [hq.mem_iff, hm]
    cases hh : Maps.has D (zi v) with
    | true => rfl
    | false => exact absurd (hr.none hh) hv
  · have hw := intKeys_wf h Try.underlying3 v (hq.mem_iff.1 hv)
    have e1 : IntKind.i64.min = -9223372036854775808 := by decide
    have e2 : IntKind.i64.max = 9223372036854775807 := by decide
    simp [Lit.wf, e1, e2] at hw
    unfold inI64
    omega
/-- Those of a key row that are blocked are the document's list. -/
theorem list_of_keys {g : Gd} {f : Int → Int} {l : List Int} (hg : GOk g) (h : Says g f) (hk : KeyRow f l) : l.filter (fun v => decide (g.now < f v)) = listG g := by
  refine list_is hg (hk.rise.filter _) fun v => ?_
  rw [List.mem_filter, says_blocked h]
  constructor
  · exact fun k => k.2
  · intro k
    refine ⟨hk.all v fun e => ?_, k⟩
    have h1 := of_decide_eq_true k
    have h2 := hg.n1
    omega
end Go.Proofs.Ytanciemiinbgmaa
