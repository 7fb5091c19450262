/-
  Layer 11: New; given times; what layer 8 is told of the ports.
-/
import Derived.Test.YtngdilmgbgdkcaaDoorInO
namespace Go.Proofs.YtngdilmgbgdkcaaDoor
set_option linter.unusedVariables false
set_option linter.unusedSimpArgs false
open Go.RowKit Vm Rm Bm Im

theorem wpList_built {P : Program} {ops : Array Oper} {rest : List Oper} {op : Oper} {a : Act} {w : World} {Q : Exit → Act → World → Prop} (hgd : op.guard = none) (t : TypeId) (parts : Array (Nat × Operand)) (ho : op.op = .build t parts)
    (cells : Array Value) (hf : P.built t (parts.map fun (i, x) => (i, a.eval x)).toList = some cells) (h : wpList P ops Q rest (a.put op.dst (.agg cells)) w) : wpList P ops Q (op :: rest) a w :=
  wpList_plain hgd fun K hK => by
    refine wp_build t parts ho (by rw [hf]; rfl) ?_
    rw [hf]
    exact hK _ _ h

theorem wrap_inc (n : Int) (h : inI64 n) : IntKind.i64.wrap (n + 1) = inc64 n := by
  unfold inI64 at h
  unfold inc64
  split
  · rename_i e; subst e; rfl
  · have h1 : -9223372036854775808 ≤ n + 1 := by omega
    have h2 : n + 1 ≤ 9223372036854775807 := by omega
    rw [IntKind.wrap_i64]; omega

/-! ### What layer 8 is told -/
theorem inf_ok {p : Pt} (h : PtOk p) : InfOk (infP p) := by
  refine ⟨h.id, h.cost, ?_, ?_⟩
  · unfold infP
    dsimp only
    split
    · exact h.source
    · exact ⟨by omega, by omega⟩
  · have hz : zeroV.ok := ⟨⟨by decide, by decide⟩, ⟨by decide, by decide⟩, ⟨by decide, by decide⟩, ⟨by decide, by decide⟩⟩
    have key : ∀ c : Prop, [Decidable c] → (if c then p.vec else zeroV).ok := fun c _ => by split; exact h.vec; exact hz
    exact key _
theorem infos_len (l : List Pt) : (infosP l).length = l.length := by unfold infosP; rw [List.length_map]
theorem infos_take (l : List Pt) (k : Nat) : (infosP l).take k = infosP (l.take k) := by unfold infosP; rw [List.map_take]
theorem infos_next {l : List Pt} {k : Nat} {p : Pt} (h : l[k]? = some p) : infosP (l.take (k + 1)) = infosP (l.take k) ++ [infP p] := by rw [take_nextP h]; unfold infosP; rw [List.map_append]; rfl
theorem own_below {w w' : World} {base : Nat} {e : TypeId} {size : Nat} {v : Value} {n : Nat} {xs : List Value} (h : w.ownsRow base e size v n xs) (hb : Below w.heap.size w w') : w'.ownsRow base e size v n xs :=
  ⟨h.1, by
    rcases h.2 with ⟨h0, h1⟩ | ⟨g, cap, cur, e1, hbg, hg, rest⟩
    · exact .inl ⟨h0, h1⟩
    · exact .inr ⟨g, cap, cur, e1, hbg, (hb.block g (Array.getElem?_eq_some_iff.1 hg).1).trans hg, rest⟩⟩
end Go.Proofs.YtngdilmgbgdkcaaDoor
