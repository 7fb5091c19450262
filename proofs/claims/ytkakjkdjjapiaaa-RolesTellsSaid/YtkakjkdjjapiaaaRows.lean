/-
  No cell of these rows narrows 'for every input' (looked for: loops, veiled, ifaces, maps, wideKeys, modest, calm, conditions, laid).
  DERIVED. THE GIVEN ROWS OF THIS SEAT. 3 by the template 'for every input the law returns true; each argument reads behind the call as it read before'; 0 by the template 'total and deterministic' (their statements: YtkakjkdjjapiaaaTotals.lean).
  GIVEN WITH THE SEED: the statements are not yours to turn. If you find one false, say at which input.
  Laid BY PROGRAM, IN A SANDBOX (cutbox-rows.mjs): the forced cells as the released guide's own fill.sh prints them over the translation 14465084b8d8bea6… (all of the seat's roots in one cut). By AI agents, Wed Nov 11 2026. No macro, syntax, notation, axiom, sorry.
-/
import Derived.Test.YtkakjkdjjapiaaaChecked
import GoSem.Claim
import GoSem.ClaimJoined
import GoSem.ClaimMapViews
import Derived.JoinedTies
import Derived.KernelRfl
namespace Go.Proofs.Ytkakjkdjjapiaaa
/- THE CELL 'sum', in the pinned program and in every row, IS THE sha256 OF THE DUMP (.gsa) THAT YtkakjkdjjapiaaaProg.lean LOADS. Nothing in Lean hashes anything: it is a label: what it is worth is what the hold of that sum in a sandbox is worth. -/
noncomputable def Try.pinned : Pinned := { name := "ytkakjkdjjapiaaa", sum := "14465084b8d8bea6f12f8884bdfe7f7a1459f964cf75ef2a16b5825180957a07", checked := Try.checked }
namespace Rows
def none {H : Type} : Left H := { results := [], args := [] }

/-- 'treebridgelaw08.RolesTells': WHATEVER THE INPUT: true; the input reads as it did. -/
def rolesTellsSpec : ChangeSpec := { name := "rolesTells", fn := fun _ => fun
  | [d1, d2] => { results := [.lit (.bool true)], args := [d1, d2] }
  | _ => none }
def rolesTellsRow : OpenClaim := { program := "ytkakjkdjjapiaaa", sum := "14465084b8d8bea6f12f8884bdfe7f7a1459f964cf75ef2a16b5825180957a07", func := "treebridge/treebridgelaw08.RolesTells", spec := "rolesTells", unfollowed := true, recurses := true, apart := false }
def RolesTellsSaid : Prop := rolesTellsRow.holds Try.pinned (OpenSpec.ofChange rolesTellsSpec)

/-- ITS FALSE NEIGHBOUR: 'it returns false'. Refute it at one input. -/
def rolesTellsWrong : ChangeSpec := { name := "rolesTells", fn := fun _ => fun
  | [d1, d2] => { results := [.lit (.bool false)], args := [d1, d2] }
  | _ => none }
def RolesTellsWrongFalsely : Prop := rolesTellsRow.holds Try.pinned (OpenSpec.ofChange rolesTellsWrong)

/-- 'treebridgelaw08.RolesBest': WHATEVER THE INPUT: true; the input reads as it did. -/
def rolesBestSpec : ChangeSpec := { name := "rolesBest", fn := fun _ => fun
  | [d1, d2] => { results := [.lit (.bool true)], args := [d1, d2] }
  | _ => none }
def rolesBestRow : OpenClaim := { program := "ytkakjkdjjapiaaa", sum := "14465084b8d8bea6f12f8884bdfe7f7a1459f964cf75ef2a16b5825180957a07", func := "treebridge/treebridgelaw08.RolesBest", spec := "rolesBest", unfollowed := true, recurses := true, apart := false }
def RolesBestSaid : Prop := rolesBestRow.holds Try.pinned (OpenSpec.ofChange rolesBestSpec)

/-- ITS FALSE NEIGHBOUR: 'it returns false'. Refute it at one input. -/
def rolesBestWrong : ChangeSpec := { name := "rolesBest", fn := fun _ => fun
  | [d1, d2] => { results := [.lit (.bool false)], args := [d1, d2] }
  | _ => none }
def RolesBestWrongFalsely : Prop := rolesBestRow.holds Try.pinned (OpenSpec.ofChange rolesBestWrong)

/-- 'treebridgelaw08.RolesOrder': WHATEVER THE INPUT: true; the input reads as it did. -/
def rolesOrderSpec : ChangeSpec := { name := "rolesOrder", fn := fun _ => fun
  | [d1, d2] => { results := [.lit (.bool true)], args := [d1, d2] }
  | _ => none }
def rolesOrderRow : OpenClaim := { program := "ytkakjkdjjapiaaa", sum := "14465084b8d8bea6f12f8884bdfe7f7a1459f964cf75ef2a16b5825180957a07", func := "treebridge/treebridgelaw08.RolesOrder", spec := "rolesOrder", unfollowed := true, recurses := true, apart := false }
def RolesOrderSaid : Prop := rolesOrderRow.holds Try.pinned (OpenSpec.ofChange rolesOrderSpec)

/-- ITS FALSE NEIGHBOUR: 'it returns false'. Refute it at one input. -/
def rolesOrderWrong : ChangeSpec := { name := "rolesOrder", fn := fun _ => fun
  | [d1, d2] => { results := [.lit (.bool false)], args := [d1, d2] }
  | _ => none }
def RolesOrderWrongFalsely : Prop := rolesOrderRow.holds Try.pinned (OpenSpec.ofChange rolesOrderWrong)

/- THE SECOND FORM. 'bulk': how many values and letters a reading holds, each counted each time it is reached (what is shared counts as often as it is met; a slice's spare places count too). A statement '..UptoSaid' is the law's where the arguments, and the package variables that the reading takes, are together of bulk at most 1048576: NARROWER than '..Said'. Prove '..Said' where nothing that the law and all that it calls make is longer than what came in: it says more and counts as full. Else prove '..UptoSaid'. A law counts once. -/
mutual
def uptoBulk {H : Type} : DataW H → Nat
  | .lit (.string bytes) => bytes.length + 1
  | .lit _ => 1
  | .nil => 1
  | .ptr d => uptoBulk d + 1
  | .slice elems spare => uptoBulkAll elems + uptoBulkAll spare + 1
  | .agg parts => uptoBulkAll parts + 1
  | .iface _ d => uptoBulk d + 1
  | .map entries => uptoBulkEntries entries + 1
  | .held _ => 1
def uptoBulkAll {H : Type} : List (DataW H) → Nat
  | [] => 0
  | d :: r => uptoBulk d + uptoBulkAll r
def uptoBulkEntries {H : Type} : List (Lit × DataW H) → Nat
  | [] => 0
  | x :: r => uptoBulkEntry x + uptoBulkEntries r
def uptoBulkEntry {H : Type} : Lit × DataW H → Nat
  | (.string bytes, d) => bytes.length + uptoBulk d + 1
  | (_, d) => uptoBulk d + 1
 end
def uptoSmall : (H : Type) → List (DataW H) → Bool := fun _ ds => decide (uptoBulkAll ds ≤ 1048576)
def OpenSpec.upto (s : _root_.Go.ChangeSpec) : _root_.Go.OpenSpec := { _root_.Go.OpenSpec.ofChange s with cond := some uptoSmall }

/-- 'treebridgelaw08.RolesTells', WHERE WHAT IT READS IS OF BULK AT MOST 1048576: true; the input reads as it did. -/
def rolesTellsUptoRow : OpenClaim := { program := "ytkakjkdjjapiaaa", sum := "14465084b8d8bea6f12f8884bdfe7f7a1459f964cf75ef2a16b5825180957a07", func := "treebridge/treebridgelaw08.RolesTells", spec := "rolesTells", unfollowed := true, recurses := true, apart := false, narrowed := true }
def RolesTellsUptoSaid : Prop := rolesTellsUptoRow.holds Try.pinned (OpenSpec.upto rolesTellsSpec)

/-- 'treebridgelaw08.RolesBest', WHERE WHAT IT READS IS OF BULK AT MOST 1048576: true; the input reads as it did. -/
def rolesBestUptoRow : OpenClaim := { program := "ytkakjkdjjapiaaa", sum := "14465084b8d8bea6f12f8884bdfe7f7a1459f964cf75ef2a16b5825180957a07", func := "treebridge/treebridgelaw08.RolesBest", spec := "rolesBest", unfollowed := true, recurses := true, apart := false, narrowed := true }
def RolesBestUptoSaid : Prop := rolesBestUptoRow.holds Try.pinned (OpenSpec.upto rolesBestSpec)

/-- 'treebridgelaw08.RolesOrder', WHERE WHAT IT READS IS OF BULK AT MOST 1048576: true; the input reads as it did. -/
def rolesOrderUptoRow : OpenClaim := { program := "ytkakjkdjjapiaaa", sum := "14465084b8d8bea6f12f8884bdfe7f7a1459f964cf75ef2a16b5825180957a07", func := "treebridge/treebridgelaw08.RolesOrder", spec := "rolesOrder", unfollowed := true, recurses := true, apart := false, narrowed := true }
def RolesOrderUptoSaid : Prop := rolesOrderUptoRow.holds Try.pinned (OpenSpec.upto rolesOrderSpec)

end Rows
end Go.Proofs.Ytkakjkdjjapiaaa
