/-
  Layer 7: a table's map (keys of two fields, entries of five) read as a row of entries in order.
-/
import Derived.Test.YtkpfdaomhkcokaaRows
import Derived.WalkKit
import Derived.WalkSpells
import Derived.WalkLawsBesides
import Derived.Lib.Hide
import Derived.Deep.Light
import Derived.Test.YtkpfdaomhkcokaaFdMath3
import Derived.DeepKeys5
import Derived.Maps.OwnSet
import Derived.Maps.RangeWalk
namespace Go.Proofs.Ytkpfdaomhkcokaa
set_option linter.unusedVariables false
set_option linter.unusedSimpArgs false
open Go.RowKit Go.Maps Dm

theorem laidAll : laidOutB Try.prog = true := by kernel_rfl
theorem keyLaw : Keyed Try.prog 71 := by
  have h2 : decide (Try.prog.types.size + 2 ≤ 10000) = true := by kernel_rfl
  refine Keyed.of_law (deep_law_gate laidAll (of_decide_eq_true h2) ?_ (by kernel_rfl) (by kernel_rfl))
  have h : decide (71 < Try.prog.types.size) = true := by kernel_rfl
  exact of_decide_eq_true h

abbrev kv (v : Int) (m : ByteArray) : Value := .agg #[.int .i64 v, .string m]
abbrev ev (x : En) : Value := .agg #[.int .i64 x.vlan, .string x.mac, .int .i64 x.port, .int .i64 x.heard, .bool x.fixed]
/-- What a key reads as. -/
def klit (k : Ky) : Lit := .string (keyBytes [.int .i64 k.vlan, .string k.mac.data.toList])
structure KyOk (k : Ky) : Prop where
  vlan : (Lit.int .i64 k.vlan).wf = true
  mac : k.mac.size ≤ maxLen
theorem keyOf_mk {k : Ky} (h : KyOk k) : keyOf Try.prog 71 (kv k.vlan k.mac) = some (klit k) := by
  have hk : Try.prog.keyType 71 = true := by kernel_rfl
  have hc : Try.prog.cellsOf 71 = 2 := by kernel_rfl
  have hc3 : Try.prog.cellsOf 3 = 1 := by kernel_rfl
  have hc9 : Try.prog.cellsOf 9 = 1 := by kernel_rfl
  obtain ⟨n, hn⟩ : ∃ n, Try.prog.types.size + 1 = n + 1 + 1 := by
    have h : decide (1 ≤ Try.prog.types.size) = true := by kernel_rfl
    have := of_decide_eq_true h
    exact ⟨Try.prog.types.size - 1, by omega⟩
  unfold keyOf
  rw [Try.underlying71, hk, hn]
  simp only [Value.formed, Try.underlying71, hc, Value.cells]
  simp [Program.keyLits, Try.underlying71, Try.underlying3, Try.underlying9, hc, hc3, hc9, h.vlan, h.mac]
  rfl
theorem klit_key (k : Ky) : WideAt.IsKeyLit (klit k) := trivial
theorem klit_inj {a b : Ky} (ha : KyOk a) (hb : KyOk b) (h : klit a = klit b) : a = b := by
  have := keyLaw.inj (keyOf_mk ha) (h ▸ keyOf_mk hb)
  obtain ⟨va, ma⟩ := a
  obtain ⟨vb, mb⟩ := b
  simp only [kv, Value.agg.injEq, Array.mk.injEq, List.cons.injEq, Value.int.injEq, Value.string.injEq, true_and, and_true] at this
  rw [this.1, this.2]

/-- What an entry reads as. -/
def dat (x : En) : DataW Unit := .agg [.lit (.int .i64 x.vlan), .lit (.string x.mac.data.toList), .lit (.int .i64 x.port), .lit (.int .i64 x.heard), .lit (.bool x.fixed)]
def rdE : Value → Option (DataW Unit × List MemPlace)
  | .agg ⟨[.int .i64 v, .string m, .int .i64 p, .int .i64 h, .bool f]⟩ => some (dat ⟨v, m, p, h, f⟩, [])
  | _ => none
theorem rdE_ev (x : En) : rdE (ev x) = some (dat x, []) := rfl
theorem rdE_inv {v : Value} {y : DataW Unit × List MemPlace} (h : rdE v = some y) : ∃ x, v = ev x ∧ y = (dat x, []) := by
  unfold rdE at h
  split at h
  · rename_i v m p hh f
    exact ⟨⟨v, m, p, hh, f⟩, rfl, (Option.some.inj h).symm⟩
  · cases h
theorem dat_inj {x y : En} (h : dat x = dat y) : x = y := by
  obtain ⟨v, m, p, hh, f⟩ := x
  obtain ⟨v', m', p', h', f'⟩ := y
  simp only [dat, DataW.agg.injEq, List.cons.injEq, DataW.lit.injEq, Lit.int.injEq, Lit.string.injEq, Lit.bool.injEq, true_and, and_true] at h
  obtain ⟨rfl, h2, rfl, rfl, rfl⟩ := h
  have : m = m' := by
    obtain ⟨a⟩ := m
    obtain ⟨b⟩ := m'
    simp only at h2
    rw [Array.toList_inj.1 h2]
  rw [this]

def zeroE : En := ⟨0, ⟨#[]⟩, 0, 0, false⟩
theorem zeroE_run (w : World) : (zeroValue 41).run Try.prog w = .ok (ev zeroE) w := by kernel_rfl

/-- The datum is just these entries. -/
structure Agree (D : DataW Unit) (l : List En) : Prop where
  at_ : ∀ k zd, KyOk k → D.atKey (klit k) zd = match findE l k with | some x => dat x | none => zd
  has : ∀ k, KyOk k → Maps.has D (klit k) = (findE l k).isSome
  all : ∀ kl, Maps.has D kl = true → ∃ x ∈ l, kl = klit x.key
  size : Maps.size D = l.length
/-- What each entry's key is good for. -/
def AllOk (l : List En) : Prop := ∀ x ∈ l, KyOk x.key
theorem allOk_of {l : List En} (h : ∀ x ∈ l, x.ok) : AllOk l := fun x hx => by
  have := h x hx
  refine ⟨?_, ?_⟩
  · have h0 := this.v0
    have h1 := this.v1
    show (Lit.int .i64 x.vlan).wf = true
    exact WalkArith.wf_i64 (by omega)
  · have := this.mac
    show x.mac.size ≤ maxLen
    unfold maxLen; omega
theorem agree_empty : Agree (.map []) [] := ⟨fun _ _ _ => rfl, fun _ _ => rfl, fun kl h => by simp [Maps.has] at h, rfl⟩
theorem agree_put {D : DataW Unit} {l : List En} (h : Agree D l) (hs : Sorted l) (hD : Tidy D) (e : En) (he : KyOk e.key) : Agree (D.put (klit e.key) (dat e)) (putR l e) := by
  refine ⟨fun k zd hk => ?_, fun k hk => ?_, fun kl hkl => ?_, ?_⟩
  · rw [find_put hs]
    by_cases hke : k = e.key
    · subst hke
      rw [if_pos rfl, atKey_put_same hD.isMap (klit_key _)]
    · rw [if_neg hke, atKey_put_other (fun e' => hke (klit_inj hk he e'))]
      exact h.at_ k zd hk
  · rw [find_put hs]
    by_cases hke : k = e.key
    · subst hke
      rw [if_pos rfl, has_put_same hD.isMap (klit_key _)]; rfl
    · rw [if_neg hke, has_put_other (fun e' => hke (klit_inj hk he e'))]
      exact h.has k hk
  · by_cases hke : kl = klit e.key
    · refine ⟨e, ?_, hke⟩
      have : findE (putR l e) e.key = some e := by rw [find_put hs, if_pos rfl]
      exact (find_mem this).1
    · rw [has_put_other hke] at hkl
      obtain ⟨x, hx, rfl⟩ := h.all kl hkl
      refine ⟨x, ?_, rfl⟩
      have hxe : ¬ x.key = e.key := fun e' => hke (by rw [e'])
      have : findE (putR l e) x.key = some x := by rw [find_put hs, if_neg hxe]; exact mem_find hs hx
      exact (find_mem this).1
  · rw [size_put hD, h.has _ he, h.size, put_length, (place_find hs e.key).1]
theorem agree_del {D : DataW Unit} {l m : List En} (h : Agree D l) (hs : Sorted l) (hm : Sorted m) (hD : Tidy D) (k0 : Ky) (hk0 : KyOk k0) (hf : ∀ k, findE m k = if k = k0 then none else findE l k) (hl : m.length + (if (findE l k0).isSome then 1 else 0) = l.length) : Agree (D.del (klit k0)) m := by
  refine ⟨fun k zd hk => ?_, fun k hk => ?_, fun kl hkl => ?_, ?_⟩
  · rw [hf]
    by_cases hke : k = k0
    · subst hke
      rw [if_pos rfl, atKey_del_same]
    · rw [if_neg hke, atKey_del_other (fun e' => hke (klit_inj hk hk0 e'))]
      exact h.at_ k zd hk
  · rw [hf]
    by_cases hke : k = k0
    · subst hke
      rw [if_pos rfl, has_del_same]; rfl
    · rw [if_neg hke, has_del_other (fun e' => hke (klit_inj hk hk0 e'))]
      exact h.has k hk
  · by_cases hke : kl = klit k0
    · subst hke
      rw [has_del_same] at hkl; cases hkl
    · rw [has_del_other hke] at hkl
      obtain ⟨x, hx, rfl⟩ := h.all kl hkl
      refine ⟨x, ?_, rfl⟩
      have hxe : ¬ x.key = k0 := fun e' => hke (by rw [e'])
      have : findE m x.key = some x := by rw [hf, if_neg hxe]; exact mem_find hs hx
      exact (find_mem this).1
  · have := size_del (k := klit k0) hD
    rw [h.has _ hk0, h.size] at this
    omega
/-- The row without the entry at a key. -/
def dropE (l : List En) (k : Ky) : List En := l.filter (fun x => !decide (x.key = k))
theorem find_drop {l : List En} (hs : Sorted l) (k0 k : Ky) : findE (dropE l k0) k = if k = k0 then none else findE l k := by
  unfold dropE
  rw [find_filter hs]
  by_cases hk : k = k0
  · subst hk
    rw [if_pos rfl]
    cases hx : findE l k with
    | none => rfl
    | some x => simp [Option.filter, (find_mem hx).2]
  · rw [if_neg hk]
    cases hx : findE l k with
    | none => rfl
    | some x =>
      have : ¬ x.key = k0 := fun e => hk ((find_mem hx).2.symm.trans e)
      simp [Option.filter, this]
theorem length_drop {l : List En} (hs : Sorted l) (k0 : Ky) : (dropE l k0).length + (if (findE l k0).isSome then 1 else 0) = l.length := by
  induction l with
  | nil => rfl
  | cons x l ih =>
    have hs' := List.pairwise_cons.1 hs
    have ih := ih hs'.2
    by_cases hk : x.key = k0
    · have hn : findE l k0 = none := find_none (fun y hy e => lt_ne (hs'.1 y hy) (hk.trans e.symm))
      have hf : findE (x :: l) k0 = some x := by unfold findE; rw [List.find?_cons]; simp [hk]
      rw [hn] at ih
      rw [hf]
      unfold dropE at ih ⊢
      rw [List.filter_cons]
      simp [hk] at ih ⊢
      omega
    · have hf : findE (x :: l) k0 = findE l k0 := by unfold findE; rw [List.find?_cons]; simp [hk]
      rw [hf]
      unfold dropE at ih ⊢
      rw [List.filter_cons]
      simp [hk] at ih ⊢
      omega
theorem sorted_drop {l : List En} (hs : Sorted l) (k : Ky) : Sorted (dropE l k) := sorted_filter hs _

/-- Block mb of w is a map of just these entries (n: a bound on how many). -/
structure IsMp (w : World) (mb : Nat) (l : List En) : Prop where
  sorted : Sorted l
  keys : AllOk l
  few : l.length ≤ 1000
  own : ∃ D, w.ownsMap (H := Unit) Try.prog 71 rdE mb l.length D ∧ Agree D l
theorem IsMp.lt {w : World} {mb : Nat} {l : List En} (h : IsMp w mb l) : mb < w.heap.size := by
  obtain ⟨D, h1, _⟩ := h.own
  exact h1.lt
theorem IsMp.kept {w w' : World} {mb : Nat} {l : List En} {row : Option Nat} (h : IsMp w mb l) (hg : w.grownBy w' row) (hne : some mb ≠ row) : IsMp w' mb l := by
  obtain ⟨D, h1, h2⟩ := h.own
  exact ⟨h.sorted, h.keys, h.few, D, h1.kept hg hne, h2⟩
theorem IsMp.same {w w' : World} {mb : Nat} {l : List En} (h : IsMp w mb l) (hb : w'.heap[mb]? = w.heap[mb]?) : IsMp w' mb l := by
  obtain ⟨D, ⟨es, clock, hbk, F, hs, hD⟩, h2⟩ := h.own
  exact ⟨h.sorted, h.keys, h.few, D, ⟨es, clock, hb.trans hbk, F, hs, hD⟩, h2⟩
theorem IsMp.look {w : World} {mb : Nat} {l : List En} (h : IsMp w mb l) (v : Int) (m : ByteArray) (hk : KyOk ⟨v, m⟩) :
    (Instr.lookup 53 (.map (some mb)) (kv v m) true).run Try.prog w = .ok (.tuple #[ev ((findE l ⟨v, m⟩).getD zeroE), .bool (findE l ⟨v, m⟩).isSome]) w := by
  obtain ⟨D, h1, h2⟩ := h.own
  obtain ⟨x, ps, hrun, hx⟩ := h1.look_ok keyLaw Try.underlying53 (zeroE_run w) (rdE_ev zeroE) (keyOf_mk hk)
  rw [h2.has _ hk] at hrun
  obtain ⟨y, rfl, hy⟩ := rdE_inv hx
  have hd : dat y = (match findE l ⟨v, m⟩ with | some x => dat x | none => dat zeroE) := by rw [← h2.at_ _ _ hk]; exact (Prod.mk.inj hy).1.symm
  have : y = (findE l ⟨v, m⟩).getD zeroE := by
    cases hf : findE l ⟨v, m⟩ with
    | none => rw [hf] at hd; exact dat_inj hd
    | some z => rw [hf] at hd; exact dat_inj hd
  rw [hrun, this]
theorem IsMp.len {w : World} {mb : Nat} {l : List En} (h : IsMp w mb l) (ty : TypeId) : (Builtin.len_ #[53] ty #[.map (some mb)]).run Try.prog w = .ok (.int .i64 l.length) w := by
  obtain ⟨D, h1, h2⟩ := h.own
  rw [h1.len Try.underlying53 ty, h2.size]
theorem IsMp.store {w : World} {mb : Nat} {l : List En} (h : IsMp w mb l) (x : En) (hk : KyOk x.key) (hroom : (putR l x).length ≤ 1000) :
    ∃ w', (Instr.mapUpdate 53 (.map (some mb)) (kv x.vlan x.mac) (ev x)).run Try.prog w = .ok () w' ∧ IsMp w' mb (putR l x) ∧ w.mapTurned w' mb := by
  obtain ⟨D, h1, h2⟩ := h.own
  have hf := h.few
  obtain ⟨w', hrun, h3, h4⟩ := h1.store (H := Unit) keyLaw Try.underlying53 (by unfold maxLen; omega) (keyOf_mk hk) (rdE_ev x)
  have ha := agree_put h2 h.sorted (h1.tidy keyLaw) x hk
  refine ⟨w', hrun, ⟨sorted_put h.sorted x, fun y hy => ?_, hroom, _, ?_, ha⟩, h4⟩
  · rcases mem_put hy with rfl | hy
    · exact hk
    · exact h.keys y hy
  · obtain ⟨es, clock, hb, F, hs, hD⟩ := h3
    refine ⟨es, clock, hb, F, ?_, hD⟩
    have := ha.size
    rw [hD] at this
    simp [Maps.size, length_sorted] at this
    omega
theorem IsMp.drop {w : World} {mb : Nat} {l : List En} (h : IsMp w mb l) (v : Int) (m : ByteArray) (hk : KyOk ⟨v, m⟩) (ty : TypeId) :
    ∃ w', (Builtin.delete_ #[53, 71] ty #[.map (some mb), kv v m]).run Try.prog w = .ok (.tuple #[]) w' ∧ IsMp w' mb (dropE l ⟨v, m⟩) ∧ w.mapTurned w' mb := by
  obtain ⟨D, h1, h2⟩ := h.own
  have hf := h.few
  obtain ⟨w', hrun, h3, h4⟩ := h1.drop (H := Unit) keyLaw Try.underlying53 (keyOf_mk hk) ty
  have ha := agree_del h2 h.sorted (sorted_drop h.sorted ⟨v, m⟩) (h1.tidy keyLaw) ⟨v, m⟩ hk (find_drop h.sorted _) (length_drop h.sorted _)
  refine ⟨w', hrun, ⟨sorted_drop h.sorted _, fun y hy => h.keys y (List.mem_filter.1 hy).1, Nat.le_trans (List.length_filter_le _ _) hf, _, ?_, ha⟩, h4⟩
  obtain ⟨es, clock, hb, F, hs, hD⟩ := h3
  refine ⟨es, clock, hb, F, ?_, hD⟩
  have := ha.size
  rw [hD] at this
  simp [Maps.size, length_sorted] at this
  omega
theorem mp_made (w : World) : IsMp (w.alloc (.map #[] 0)) w.heap.size [] := ⟨List.Pairwise.nil, fun x h => by simp at h, by simp, .map [], World.ownsMap_made _ _ _ _, agree_empty⟩
end Go.Proofs.Ytkpfdaomhkcokaa
