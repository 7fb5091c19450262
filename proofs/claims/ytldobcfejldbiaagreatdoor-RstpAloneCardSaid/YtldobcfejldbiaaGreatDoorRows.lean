/-
  NARROWER THAN 'FOR EVERY INPUT', by the rows' own cells (each row's printed sentence says how): RstpPlays: laid · RstpSafe: laid · RstpAlone: laid.
  DERIVED. THE GIVEN ROWS OF THIS SEAT. 3 by the template 'for every input the law returns true; each argument reads behind the call as it read before'; 0 by the template 'total and deterministic' (their statements: YtldobcfejldbiaaGreatDoorTotals.lean).
  GIVEN WITH THE SEED: the statements are not yours to turn. If you find one false, say at which input.
  Laid BY PROGRAM, IN A SANDBOX (cutbox-rows.mjs): the forced cells as the released guide's own fill.sh prints them over the translation a1feee60c9c5b856… (all of the seat's roots in one cut). By AI agents, Wed Nov 11 2026. No macro, syntax, notation, axiom, sorry.
-/
import Derived.Test.YtldobcfejldbiaaGreatDoorChecked
import GoSem.Claim
import GoSem.ClaimJoined
import GoSem.ClaimMapViews
import Derived.JoinedTies
import Derived.KernelRfl
namespace Go.Proofs.YtldobcfejldbiaaGreatDoor
/- THE CELL 'sum', in the pinned program and in every row, IS THE sha256 OF THE DUMP (.gsa) THAT YtldobcfejldbiaaGreatDoorProg.lean LOADS. Nothing in Lean hashes anything: it is a label: what it is worth is what the hold of that sum in a sandbox is worth. -/
noncomputable def Tryz.pinned : Pinned := { name := "ytldobcfejldbiaagreatdoor", sum := "a1feee60c9c5b8563dc893b17d8bf79d1cb54c764c13a90ff7588ce764a7205a", checked := Tryz.checked }
namespace Rows
def none {H : Type} : Left H := { results := [], args := [] }

/- WHAT THE LISTED PACKAGE-LEVEL VARIABLES READ AS WHEN THE CALL BEGINS. Each datum BY PROGRAM (the guide's laid-datum.mjs) off the statement by which the dump's own 'gosem.cut.vars' lays the variable. In a bare row this is a premise. The card (YtldobcfejldbiaaGreatDoorCards.lean) ties it to the program's text. -/
def laid_treebridge_state_toldRoles {H : Type} : DataW H := .agg [.lit (.int .i64 0), .lit (.int .i64 2), .lit (.int .i64 3), .lit (.int .i64 1), .lit (.int .i64 1)]

/-- 'treebridgelaw15.RstpPlays': WHATEVER THE INPUT: true; the input reads as it did. -/
def rstpPlaysSpec : ChangeSpec := { name := "rstpPlays", fn := fun _ => fun
  | [d1, d2, d3] => { results := [.lit (.bool true)], args := [d1, d2, d3] }
  | _ => none }
def rstpPlaysRow : OpenClaim := { program := "ytldobcfejldbiaagreatdoor", sum := "a1feee60c9c5b8563dc893b17d8bf79d1cb54c764c13a90ff7588ce764a7205a", func := "treebridge/treebridgelaw15.RstpPlays", spec := "rstpPlays", inPlace := ["sync/atomic.AddInt64", "sync/atomic.LoadInt64"], unfollowed := true, recurses := true, named := ["treebridge/state.toldRoles"], apart := false, laid := [("treebridge/state.toldRoles", laid_treebridge_state_toldRoles)] }
def RstpPlaysSaid : Prop := rstpPlaysRow.holds Tryz.pinned (OpenSpec.ofChange rstpPlaysSpec)

/-- ITS FALSE NEIGHBOUR: 'it returns false'. Refute it at one input. -/
def rstpPlaysWrong : ChangeSpec := { name := "rstpPlays", fn := fun _ => fun
  | [d1, d2, d3] => { results := [.lit (.bool false)], args := [d1, d2, d3] }
  | _ => none }
def RstpPlaysWrongFalsely : Prop := rstpPlaysRow.holds Tryz.pinned (OpenSpec.ofChange rstpPlaysWrong)

/-- 'treebridgelaw15.RstpSafe': WHATEVER THE INPUT: true; the input reads as it did. -/
def rstpSafeSpec : ChangeSpec := { name := "rstpSafe", fn := fun _ => fun
  | [d1, d2] => { results := [.lit (.bool true)], args := [d1, d2] }
  | _ => none }
def rstpSafeRow : OpenClaim := { program := "ytldobcfejldbiaagreatdoor", sum := "a1feee60c9c5b8563dc893b17d8bf79d1cb54c764c13a90ff7588ce764a7205a", func := "treebridge/treebridgelaw15.RstpSafe", spec := "rstpSafe", inPlace := ["sync/atomic.AddInt64", "sync/atomic.LoadInt64"], unfollowed := true, recurses := true, named := ["treebridge/state.toldRoles"], apart := false, laid := [("treebridge/state.toldRoles", laid_treebridge_state_toldRoles)] }
def RstpSafeSaid : Prop := rstpSafeRow.holds Tryz.pinned (OpenSpec.ofChange rstpSafeSpec)

/-- ITS FALSE NEIGHBOUR: 'it returns false'. Refute it at one input. -/
def rstpSafeWrong : ChangeSpec := { name := "rstpSafe", fn := fun _ => fun
  | [d1, d2] => { results := [.lit (.bool false)], args := [d1, d2] }
  | _ => none }
def RstpSafeWrongFalsely : Prop := rstpSafeRow.holds Tryz.pinned (OpenSpec.ofChange rstpSafeWrong)

/-- 'treebridgelaw15.RstpAlone': WHATEVER THE INPUT: true; the input reads as it did. -/
def rstpAloneSpec : ChangeSpec := { name := "rstpAlone", fn := fun _ => fun
  | [d1, d2] => { results := [.lit (.bool true)], args := [d1, d2] }
  | _ => none }
def rstpAloneRow : OpenClaim := { program := "ytldobcfejldbiaagreatdoor", sum := "a1feee60c9c5b8563dc893b17d8bf79d1cb54c764c13a90ff7588ce764a7205a", func := "treebridge/treebridgelaw15.RstpAlone", spec := "rstpAlone", inPlace := ["sync/atomic.AddInt64", "sync/atomic.LoadInt64"], unfollowed := true, recurses := true, named := ["treebridge/state.toldRoles"], apart := false, laid := [("treebridge/state.toldRoles", laid_treebridge_state_toldRoles)] }
def RstpAloneSaid : Prop := rstpAloneRow.holds Tryz.pinned (OpenSpec.ofChange rstpAloneSpec)

/-- ITS FALSE NEIGHBOUR: 'it returns false'. Refute it at one input. -/
def rstpAloneWrong : ChangeSpec := { name := "rstpAlone", fn := fun _ => fun
  | [d1, d2] => { results := [.lit (.bool false)], args := [d1, d2] }
  | _ => none }
def RstpAloneWrongFalsely : Prop := rstpAloneRow.holds Tryz.pinned (OpenSpec.ofChange rstpAloneWrong)

/- THE SECOND FORM. 'bulk': how many values and letters a reading holds, each counted each time it is reached (what is shared counts as often as it is met; a slice's spare places count too). A statement '..UptoSaid' is the law's where the arguments, and the package variables that the reading takes, are together of bulk at most 1048576: NARROWER than '..Said'. Prove '..Said' where nothing that the law and all that it calls make is longer than what came in: it says more and counts as full. Else prove '..UptoSaid'. A law counts once. -/
mutual
def uptoBulk {H : Type} : DataW H → Nat
  | .lit (.string bytes) => bytes.length + 1
  | .lit _ => 1
  | .nil => 1
  | .ptr d => uptoBulk d + 1
  | .slice elems spare => uptoBulkAll elems + uptoBulkAll spare + 1
  | .agg parts => uptoBulkAll parts + 1
  | .iface _ d => uptoBulk d + 1
  | .map entries => uptoBulkEntries entries + 1
  | .held _ => 1
def uptoBulkAll {H : Type} : List (DataW H) → Nat
  | [] => 0
  | d :: r => uptoBulk d + uptoBulkAll r
def uptoBulkEntries {H : Type} : List (Lit × DataW H) → Nat
  | [] => 0
  | x :: r => uptoBulkEntry x + uptoBulkEntries r
def uptoBulkEntry {H : Type} : Lit × DataW H → Nat
  | (.string bytes, d) => bytes.length + uptoBulk d + 1
  | (_, d) => uptoBulk d + 1
 end
def uptoSmall : (H : Type) → List (DataW H) → Bool := fun _ ds => decide (uptoBulkAll ds ≤ 1048576)
def OpenSpec.upto (s : _root_.Go.ChangeSpec) : _root_.Go.OpenSpec := { _root_.Go.OpenSpec.ofChange s with cond := some uptoSmall }

/-- 'treebridgelaw15.RstpPlays', WHERE WHAT IT READS IS OF BULK AT MOST 1048576: true; the input reads as it did. -/
def rstpPlaysUptoRow : OpenClaim := { program := "ytldobcfejldbiaagreatdoor", sum := "a1feee60c9c5b8563dc893b17d8bf79d1cb54c764c13a90ff7588ce764a7205a", func := "treebridge/treebridgelaw15.RstpPlays", spec := "rstpPlays", inPlace := ["sync/atomic.AddInt64", "sync/atomic.LoadInt64"], unfollowed := true, recurses := true, named := ["treebridge/state.toldRoles"], apart := false, laid := [("treebridge/state.toldRoles", laid_treebridge_state_toldRoles)], narrowed := true }
def RstpPlaysUptoSaid : Prop := rstpPlaysUptoRow.holds Tryz.pinned (OpenSpec.upto rstpPlaysSpec)

/-- 'treebridgelaw15.RstpSafe', WHERE WHAT IT READS IS OF BULK AT MOST 1048576: true; the input reads as it did. -/
def rstpSafeUptoRow : OpenClaim := { program := "ytldobcfejldbiaagreatdoor", sum := "a1feee60c9c5b8563dc893b17d8bf79d1cb54c764c13a90ff7588ce764a7205a", func := "treebridge/treebridgelaw15.RstpSafe", spec := "rstpSafe", inPlace := ["sync/atomic.AddInt64", "sync/atomic.LoadInt64"], unfollowed := true, recurses := true, named := ["treebridge/state.toldRoles"], apart := false, laid := [("treebridge/state.toldRoles", laid_treebridge_state_toldRoles)], narrowed := true }
def RstpSafeUptoSaid : Prop := rstpSafeUptoRow.holds Tryz.pinned (OpenSpec.upto rstpSafeSpec)

/-- 'treebridgelaw15.RstpAlone', WHERE WHAT IT READS IS OF BULK AT MOST 1048576: true; the input reads as it did. -/
def rstpAloneUptoRow : OpenClaim := { program := "ytldobcfejldbiaagreatdoor", sum := "a1feee60c9c5b8563dc893b17d8bf79d1cb54c764c13a90ff7588ce764a7205a", func := "treebridge/treebridgelaw15.RstpAlone", spec := "rstpAlone", inPlace := ["sync/atomic.AddInt64", "sync/atomic.LoadInt64"], unfollowed := true, recurses := true, named := ["treebridge/state.toldRoles"], apart := false, laid := [("treebridge/state.toldRoles", laid_treebridge_state_toldRoles)], narrowed := true }
def RstpAloneUptoSaid : Prop := rstpAloneUptoRow.holds Tryz.pinned (OpenSpec.upto rstpAloneSpec)

end Rows
end Go.Proofs.YtldobcfejldbiaaGreatDoor
