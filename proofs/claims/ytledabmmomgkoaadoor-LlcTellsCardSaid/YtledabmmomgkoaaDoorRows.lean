/-
  NARROWER THAN 'FOR EVERY INPUT', by the rows' own cells (each row's printed sentence says how): LlcTells: laid · LlcBack: laid.
  DERIVED. THE GIVEN ROWS OF THIS SEAT. 2 by the template 'for every input the law returns true; each argument reads behind the call as it read before'; 0 by the template 'total and deterministic' (their statements: YtledabmmomgkoaaDoorTotals.lean).
  GIVEN WITH THE SEED: the statements are not yours to turn. If you find one false, say at which input.
  Laid BY PROGRAM, IN A SANDBOX (cutbox-rows.mjs): the forced cells as the released guide's own fill.sh prints them over the translation 6722ac33e5cfddd8… (all of the seat's roots in one cut). By AI agents, Wed Nov 11 2026. No macro, syntax, notation, axiom, sorry.
-/
import Derived.Test.YtledabmmomgkoaaDoorChecked
import GoSem.Claim
import GoSem.ClaimJoined
import GoSem.ClaimMapViews
import Derived.JoinedTies
import Derived.KernelRfl
namespace Go.Proofs.YtledabmmomgkoaaDoor
/- THE CELL 'sum', in the pinned program and in every row, IS THE sha256 OF THE DUMP (.gsa) THAT YtledabmmomgkoaaDoorProg.lean LOADS. Nothing in Lean hashes anything: it is a label: what it is worth is what the hold of that sum in a sandbox is worth. -/
noncomputable def Tryd.pinned : Pinned := { name := "ytledabmmomgkoaadoor", sum := "6722ac33e5cfddd8762e8c106e83630a3c8f9293cae247dc933e923f9d57931b", checked := Tryd.checked }
namespace Rows
def none {H : Type} : Left H := { results := [], args := [] }

/- WHAT THE LISTED PACKAGE-LEVEL VARIABLES READ AS WHEN THE CALL BEGINS. Each datum BY PROGRAM (the guide's laid-datum.mjs) off the statement by which the dump's own 'gosem.cut.vars' lays the variable. In a bare row this is a premise. The card (YtledabmmomgkoaaDoorCards.lean) ties it to the program's text. -/
def laid_treebridge_llc_heads {H : Type} : DataW H := .agg [.agg [.lit (.string []), .lit (.string [])], .agg [.lit (.string [1, 128, 194, 0, 0, 0]), .lit (.string [66, 66, 3])], .agg [.lit (.string [1, 0, 12, 204, 204, 205]), .lit (.string [170, 170, 3, 0, 0, 12, 1, 11])]]

/-- 'treebridgelaw02.LlcTells': WHATEVER THE INPUT: true; the input reads as it did. -/
def llcTellsSpec : ChangeSpec := { name := "llcTells", fn := fun _ => fun
  | [d1, d2, d3, d4, d5] => { results := [.lit (.bool true)], args := [d1, d2, d3, d4, d5] }
  | _ => none }
def llcTellsRow : OpenClaim := { program := "ytledabmmomgkoaadoor", sum := "6722ac33e5cfddd8762e8c106e83630a3c8f9293cae247dc933e923f9d57931b", func := "treebridge/treebridgelaw02.LlcTells", spec := "llcTells", unfollowed := true, recurses := true, named := ["treebridge/llc.heads"], apart := false, laid := [("treebridge/llc.heads", laid_treebridge_llc_heads)] }
def LlcTellsSaid : Prop := llcTellsRow.holds Tryd.pinned (OpenSpec.ofChange llcTellsSpec)

/-- ITS FALSE NEIGHBOUR: 'it returns false'. Refute it at one input. -/
def llcTellsWrong : ChangeSpec := { name := "llcTells", fn := fun _ => fun
  | [d1, d2, d3, d4, d5] => { results := [.lit (.bool false)], args := [d1, d2, d3, d4, d5] }
  | _ => none }
def LlcTellsWrongFalsely : Prop := llcTellsRow.holds Tryd.pinned (OpenSpec.ofChange llcTellsWrong)

/-- 'treebridgelaw02.LlcBack': WHATEVER THE INPUT: true; the input reads as it did. -/
def llcBackSpec : ChangeSpec := { name := "llcBack", fn := fun _ => fun
  | [d1, d2, d3, d4] => { results := [.lit (.bool true)], args := [d1, d2, d3, d4] }
  | _ => none }
def llcBackRow : OpenClaim := { program := "ytledabmmomgkoaadoor", sum := "6722ac33e5cfddd8762e8c106e83630a3c8f9293cae247dc933e923f9d57931b", func := "treebridge/treebridgelaw02.LlcBack", spec := "llcBack", unfollowed := true, recurses := true, named := ["treebridge/llc.heads"], apart := false, laid := [("treebridge/llc.heads", laid_treebridge_llc_heads)] }
def LlcBackSaid : Prop := llcBackRow.holds Tryd.pinned (OpenSpec.ofChange llcBackSpec)

/-- ITS FALSE NEIGHBOUR: 'it returns false'. Refute it at one input. -/
def llcBackWrong : ChangeSpec := { name := "llcBack", fn := fun _ => fun
  | [d1, d2, d3, d4] => { results := [.lit (.bool false)], args := [d1, d2, d3, d4] }
  | _ => none }
def LlcBackWrongFalsely : Prop := llcBackRow.holds Tryd.pinned (OpenSpec.ofChange llcBackWrong)

/- THE SECOND FORM. 'bulk': how many values and letters a reading holds, each counted each time it is reached (what is shared counts as often as it is met; a slice's spare places count too). A statement '..UptoSaid' is the law's where the arguments, and the package variables that the reading takes, are together of bulk at most 1048576: NARROWER than '..Said'. Prove '..Said' where nothing that the law and all that it calls make is longer than what came in: it says more and counts as full. Else prove '..UptoSaid'. A law counts once. -/
mutual
def uptoBulk {H : Type} : DataW H → Nat
  | .lit (.string bytes) => bytes.length + 1
  | .lit _ => 1
  | .nil => 1
  | .ptr d => uptoBulk d + 1
  | .slice elems spare => uptoBulkAll elems + uptoBulkAll spare + 1
  | .agg parts => uptoBulkAll parts + 1
  | .iface _ d => uptoBulk d + 1
  | .map entries => uptoBulkEntries entries + 1
  | .held _ => 1
def uptoBulkAll {H : Type} : List (DataW H) → Nat
  | [] => 0
  | d :: r => uptoBulk d + uptoBulkAll r
def uptoBulkEntries {H : Type} : List (Lit × DataW H) → Nat
  | [] => 0
  | x :: r => uptoBulkEntry x + uptoBulkEntries r
def uptoBulkEntry {H : Type} : Lit × DataW H → Nat
  | (.string bytes, d) => bytes.length + uptoBulk d + 1
  | (_, d) => uptoBulk d + 1
 end
def uptoSmall : (H : Type) → List (DataW H) → Bool := fun _ ds => decide (uptoBulkAll ds ≤ 1048576)
def OpenSpec.upto (s : _root_.Go.ChangeSpec) : _root_.Go.OpenSpec := { _root_.Go.OpenSpec.ofChange s with cond := some uptoSmall }

/-- 'treebridgelaw02.LlcTells', WHERE WHAT IT READS IS OF BULK AT MOST 1048576: true; the input reads as it did. -/
def llcTellsUptoRow : OpenClaim := { program := "ytledabmmomgkoaadoor", sum := "6722ac33e5cfddd8762e8c106e83630a3c8f9293cae247dc933e923f9d57931b", func := "treebridge/treebridgelaw02.LlcTells", spec := "llcTells", unfollowed := true, recurses := true, named := ["treebridge/llc.heads"], apart := false, laid := [("treebridge/llc.heads", laid_treebridge_llc_heads)], narrowed := true }
def LlcTellsUptoSaid : Prop := llcTellsUptoRow.holds Tryd.pinned (OpenSpec.upto llcTellsSpec)

/-- 'treebridgelaw02.LlcBack', WHERE WHAT IT READS IS OF BULK AT MOST 1048576: true; the input reads as it did. -/
def llcBackUptoRow : OpenClaim := { program := "ytledabmmomgkoaadoor", sum := "6722ac33e5cfddd8762e8c106e83630a3c8f9293cae247dc933e923f9d57931b", func := "treebridge/treebridgelaw02.LlcBack", spec := "llcBack", unfollowed := true, recurses := true, named := ["treebridge/llc.heads"], apart := false, laid := [("treebridge/llc.heads", laid_treebridge_llc_heads)], narrowed := true }
def LlcBackUptoSaid : Prop := llcBackUptoRow.holds Tryd.pinned (OpenSpec.upto llcBackSpec)

end Rows
end Go.Proofs.YtledabmmomgkoaaDoor
