/-
  No cell of these rows narrows 'for every input' (looked for: loops, veiled, ifaces, maps, wideKeys, modest, calm, conditions, laid).
  DERIVED. THE GIVEN ROWS OF THIS SEAT. 3 by the template 'for every input the law returns true; each argument reads behind the call as it read before'; 0 by the template 'total and deterministic' (their statements: YtbiggckddoeghaaTotals.lean).
  GIVEN WITH THE SEED: the statements are not yours to turn. If you find one false, say at which input.
  Laid BY PROGRAM, IN A SANDBOX (cutbox-rows.mjs): the forced cells as the released guide's own fill.sh prints them over the translation 5d59b09a6ce91490… (all of the seat's roots in one cut). By AI agents, Wed Nov 11 2026. No macro, syntax, notation, axiom, sorry.
-/
import Derived.Test.YtbiggckddoeghaaChecked
import GoSem.Claim
import GoSem.ClaimJoined
import GoSem.ClaimMapViews
import Derived.JoinedTies
import Derived.KernelRfl
namespace Go.Proofs.Ytbiggckddoeghaa
/- THE CELL 'sum', in the pinned program and in every row, IS THE sha256 OF THE DUMP (.gsa) THAT YtbiggckddoeghaaProg.lean LOADS. Nothing in Lean hashes anything: it is a label: what it is worth is what the hold of that sum in a sandbox is worth. -/
noncomputable def Try.pinned : Pinned := { name := "ytbiggckddoeghaa", sum := "5d59b09a6ce9149037974958ca708fb33587f1618d3291c281289911fe791528", checked := Try.checked }
namespace Rows
def none {H : Type} : Left H := { results := [], args := [] }

/-- 'treebridgelaw11.InfoTells': WHATEVER THE INPUT: true; the input reads as it did. -/
def infoTellsSpec : ChangeSpec := { name := "infoTells", fn := fun _ => fun
  | [d1, d2, d3] => { results := [.lit (.bool true)], args := [d1, d2, d3] }
  | _ => none }
def infoTellsRow : OpenClaim := { program := "ytbiggckddoeghaa", sum := "5d59b09a6ce9149037974958ca708fb33587f1618d3291c281289911fe791528", func := "treebridge/treebridgelaw11.InfoTells", spec := "infoTells", unfollowed := true, recurses := true, apart := false }
def InfoTellsSaid : Prop := infoTellsRow.holds Try.pinned (OpenSpec.ofChange infoTellsSpec)

/-- ITS FALSE NEIGHBOUR: 'it returns false'. Refute it at one input. -/
def infoTellsWrong : ChangeSpec := { name := "infoTells", fn := fun _ => fun
  | [d1, d2, d3] => { results := [.lit (.bool false)], args := [d1, d2, d3] }
  | _ => none }
def InfoTellsWrongFalsely : Prop := infoTellsRow.holds Try.pinned (OpenSpec.ofChange infoTellsWrong)

/-- 'treebridgelaw11.InfoRests': WHATEVER THE INPUT: true; the input reads as it did. -/
def infoRestsSpec : ChangeSpec := { name := "infoRests", fn := fun _ => fun
  | [d1, d2] => { results := [.lit (.bool true)], args := [d1, d2] }
  | _ => none }
def infoRestsRow : OpenClaim := { program := "ytbiggckddoeghaa", sum := "5d59b09a6ce9149037974958ca708fb33587f1618d3291c281289911fe791528", func := "treebridge/treebridgelaw11.InfoRests", spec := "infoRests", unfollowed := true, recurses := true, apart := false }
def InfoRestsSaid : Prop := infoRestsRow.holds Try.pinned (OpenSpec.ofChange infoRestsSpec)

/-- ITS FALSE NEIGHBOUR: 'it returns false'. Refute it at one input. -/
def infoRestsWrong : ChangeSpec := { name := "infoRests", fn := fun _ => fun
  | [d1, d2] => { results := [.lit (.bool false)], args := [d1, d2] }
  | _ => none }
def InfoRestsWrongFalsely : Prop := infoRestsRow.holds Try.pinned (OpenSpec.ofChange infoRestsWrong)

/-- 'treebridgelaw11.InfoOff': WHATEVER THE INPUT: true; the input reads as it did. -/
def infoOffSpec : ChangeSpec := { name := "infoOff", fn := fun _ => fun
  | [d1, d2] => { results := [.lit (.bool true)], args := [d1, d2] }
  | _ => none }
def infoOffRow : OpenClaim := { program := "ytbiggckddoeghaa", sum := "5d59b09a6ce9149037974958ca708fb33587f1618d3291c281289911fe791528", func := "treebridge/treebridgelaw11.InfoOff", spec := "infoOff", unfollowed := true, recurses := true, apart := false }
def InfoOffSaid : Prop := infoOffRow.holds Try.pinned (OpenSpec.ofChange infoOffSpec)

/-- ITS FALSE NEIGHBOUR: 'it returns false'. Refute it at one input. -/
def infoOffWrong : ChangeSpec := { name := "infoOff", fn := fun _ => fun
  | [d1, d2] => { results := [.lit (.bool false)], args := [d1, d2] }
  | _ => none }
def InfoOffWrongFalsely : Prop := infoOffRow.holds Try.pinned (OpenSpec.ofChange infoOffWrong)

/- THE SECOND FORM. 'bulk': how many values and letters a reading holds, each counted each time it is reached (what is shared counts as often as it is met; a slice's spare places count too). A statement '..UptoSaid' is the law's where the arguments, and the package variables that the reading takes, are together of bulk at most 1048576: NARROWER than '..Said'. Prove '..Said' where nothing that the law and all that it calls make is longer than what came in: it says more and counts as full. Else prove '..UptoSaid'. A law counts once. -/
mutual
def uptoBulk {H : Type} : DataW H → Nat
  | .lit (.string bytes) => bytes.length + 1
  | .lit _ => 1
  | .nil => 1
  | .ptr d => uptoBulk d + 1
  | .slice elems spare => uptoBulkAll elems + uptoBulkAll spare + 1
  | .agg parts => uptoBulkAll parts + 1
  | .iface _ d => uptoBulk d + 1
  | .map entries => uptoBulkEntries entries + 1
  | .held _ => 1
def uptoBulkAll {H : Type} : List (DataW H) → Nat
  | [] => 0
  | d :: r => uptoBulk d + uptoBulkAll r
def uptoBulkEntries {H : Type} : List (Lit × DataW H) → Nat
  | [] => 0
  | x :: r => uptoBulkEntry x + uptoBulkEntries r
def uptoBulkEntry {H : Type} : Lit × DataW H → Nat
  | (.string bytes, d) => bytes.length + uptoBulk d + 1
  | (_, d) => uptoBulk d + 1
 end
def uptoSmall : (H : Type) → List (DataW H) → Bool := fun _ ds => decide (uptoBulkAll ds ≤ 1048576)
def OpenSpec.upto (s : _root_.Go.ChangeSpec) : _root_.Go.OpenSpec := { _root_.Go.OpenSpec.ofChange s with cond := some uptoSmall }

/-- 'treebridgelaw11.InfoTells', WHERE WHAT IT READS IS OF BULK AT MOST 1048576: true; the input reads as it did. -/
def infoTellsUptoRow : OpenClaim := { program := "ytbiggckddoeghaa", sum := "5d59b09a6ce9149037974958ca708fb33587f1618d3291c281289911fe791528", func := "treebridge/treebridgelaw11.InfoTells", spec := "infoTells", unfollowed := true, recurses := true, apart := false, narrowed := true }
def InfoTellsUptoSaid : Prop := infoTellsUptoRow.holds Try.pinned (OpenSpec.upto infoTellsSpec)

/-- 'treebridgelaw11.InfoRests', WHERE WHAT IT READS IS OF BULK AT MOST 1048576: true; the input reads as it did. -/
def infoRestsUptoRow : OpenClaim := { program := "ytbiggckddoeghaa", sum := "5d59b09a6ce9149037974958ca708fb33587f1618d3291c281289911fe791528", func := "treebridge/treebridgelaw11.InfoRests", spec := "infoRests", unfollowed := true, recurses := true, apart := false, narrowed := true }
def InfoRestsUptoSaid : Prop := infoRestsUptoRow.holds Try.pinned (OpenSpec.upto infoRestsSpec)

/-- 'treebridgelaw11.InfoOff', WHERE WHAT IT READS IS OF BULK AT MOST 1048576: true; the input reads as it did. -/
def infoOffUptoRow : OpenClaim := { program := "ytbiggckddoeghaa", sum := "5d59b09a6ce9149037974958ca708fb33587f1618d3291c281289911fe791528", func := "treebridge/treebridgelaw11.InfoOff", spec := "infoOff", unfollowed := true, recurses := true, apart := false, narrowed := true }
def InfoOffUptoSaid : Prop := infoOffUptoRow.holds Try.pinned (OpenSpec.upto infoOffSpec)

end Rows
end Go.Proofs.Ytbiggckddoeghaa
