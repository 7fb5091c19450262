/-
  No cell of these rows narrows 'for every input' (looked for: loops, veiled, ifaces, maps, wideKeys, modest, calm, conditions, laid).
  DERIVED. THE GIVEN ROWS OF THIS SEAT. 3 by the template 'for every input the law returns true; each argument reads behind the call as it read before'; 0 by the template 'total and deterministic' (their statements: YtkpfdaomhkcokaaTotals.lean).
  GIVEN WITH THE SEED: the statements are not yours to turn. If you find one false, say at which input.
  Laid BY PROGRAM, IN A SANDBOX (cutbox-rows.mjs): the forced cells as the released guide's own fill.sh prints them over the translation f6acf5da48aa2b45… (all of the seat's roots in one cut). By AI agents, Wed Nov 11 2026. No macro, syntax, notation, axiom, sorry.
-/
import Derived.Test.YtkpfdaomhkcokaaChecked
import GoSem.Claim
import GoSem.ClaimJoined
import GoSem.ClaimMapViews
import Derived.JoinedTies
import Derived.KernelRfl
namespace Go.Proofs.Ytkpfdaomhkcokaa
/- THE CELL 'sum', in the pinned program and in every row, IS THE sha256 OF THE DUMP (.gsa) THAT YtkpfdaomhkcokaaProg.lean LOADS. Nothing in Lean hashes anything: it is a label: what it is worth is what the hold of that sum in a sandbox is worth. -/
noncomputable def Try.pinned : Pinned := { name := "ytkpfdaomhkcokaa", sum := "f6acf5da48aa2b45ae8f678b4c1cf7e64be65e3894c440e226fd6a01937167c8", checked := Try.checked }
namespace Rows
def none {H : Type} : Left H := { results := [], args := [] }

/-- 'treebridgelaw07.FdbPlays': WHATEVER THE INPUT: true; the input reads as it did. -/
def fdbPlaysSpec : ChangeSpec := { name := "fdbPlays", fn := fun _ => fun
  | [d1, d2, d3, d4] => { results := [.lit (.bool true)], args := [d1, d2, d3, d4] }
  | _ => none }
def fdbPlaysRow : OpenClaim := { program := "ytkpfdaomhkcokaa", sum := "f6acf5da48aa2b45ae8f678b4c1cf7e64be65e3894c440e226fd6a01937167c8", func := "treebridge/treebridgelaw07.FdbPlays", spec := "fdbPlays", inPlace := ["internal/bytealg.abigen_runtime_cmpstring", "sync/atomic.AddInt64", "sync/atomic.LoadInt64"], unfollowed := true, recurses := true, plainKeys := false, apart := false }
def FdbPlaysSaid : Prop := fdbPlaysRow.holds Try.pinned (OpenSpec.ofChange fdbPlaysSpec)

/-- ITS FALSE NEIGHBOUR: 'it returns false'. Refute it at one input. -/
def fdbPlaysWrong : ChangeSpec := { name := "fdbPlays", fn := fun _ => fun
  | [d1, d2, d3, d4] => { results := [.lit (.bool false)], args := [d1, d2, d3, d4] }
  | _ => none }
def FdbPlaysWrongFalsely : Prop := fdbPlaysRow.holds Try.pinned (OpenSpec.ofChange fdbPlaysWrong)

/-- 'treebridgelaw07.FdbOnce': WHATEVER THE INPUT: true; the input reads as it did. -/
def fdbOnceSpec : ChangeSpec := { name := "fdbOnce", fn := fun _ => fun
  | [d1, d2] => { results := [.lit (.bool true)], args := [d1, d2] }
  | _ => none }
def fdbOnceRow : OpenClaim := { program := "ytkpfdaomhkcokaa", sum := "f6acf5da48aa2b45ae8f678b4c1cf7e64be65e3894c440e226fd6a01937167c8", func := "treebridge/treebridgelaw07.FdbOnce", spec := "fdbOnce", inPlace := ["internal/bytealg.abigen_runtime_cmpstring", "sync/atomic.AddInt64", "sync/atomic.LoadInt64"], unfollowed := true, recurses := true, plainKeys := false, apart := false }
def FdbOnceSaid : Prop := fdbOnceRow.holds Try.pinned (OpenSpec.ofChange fdbOnceSpec)

/-- ITS FALSE NEIGHBOUR: 'it returns false'. Refute it at one input. -/
def fdbOnceWrong : ChangeSpec := { name := "fdbOnce", fn := fun _ => fun
  | [d1, d2] => { results := [.lit (.bool false)], args := [d1, d2] }
  | _ => none }
def FdbOnceWrongFalsely : Prop := fdbOnceRow.holds Try.pinned (OpenSpec.ofChange fdbOnceWrong)

/-- 'treebridgelaw07.FdbVlans': WHATEVER THE INPUT: true; the input reads as it did. -/
def fdbVlansSpec : ChangeSpec := { name := "fdbVlans", fn := fun _ => fun
  | [d1, d2] => { results := [.lit (.bool true)], args := [d1, d2] }
  | _ => none }
def fdbVlansRow : OpenClaim := { program := "ytkpfdaomhkcokaa", sum := "f6acf5da48aa2b45ae8f678b4c1cf7e64be65e3894c440e226fd6a01937167c8", func := "treebridge/treebridgelaw07.FdbVlans", spec := "fdbVlans", inPlace := ["internal/bytealg.abigen_runtime_cmpstring", "sync/atomic.AddInt64", "sync/atomic.LoadInt64"], unfollowed := true, recurses := true, plainKeys := false, apart := false }
def FdbVlansSaid : Prop := fdbVlansRow.holds Try.pinned (OpenSpec.ofChange fdbVlansSpec)

/-- ITS FALSE NEIGHBOUR: 'it returns false'. Refute it at one input. -/
def fdbVlansWrong : ChangeSpec := { name := "fdbVlans", fn := fun _ => fun
  | [d1, d2] => { results := [.lit (.bool false)], args := [d1, d2] }
  | _ => none }
def FdbVlansWrongFalsely : Prop := fdbVlansRow.holds Try.pinned (OpenSpec.ofChange fdbVlansWrong)

/- THE SECOND FORM. 'bulk': how many values and letters a reading holds, each counted each time it is reached (what is shared counts as often as it is met; a slice's spare places count too). A statement '..UptoSaid' is the law's where the arguments, and the package variables that the reading takes, are together of bulk at most 1048576: NARROWER than '..Said'. Prove '..Said' where nothing that the law and all that it calls make is longer than what came in: it says more and counts as full. Else prove '..UptoSaid'. A law counts once. -/
mutual
def uptoBulk {H : Type} : DataW H → Nat
  | .lit (.string bytes) => bytes.length + 1
  | .lit _ => 1
  | .nil => 1
  | .ptr d => uptoBulk d + 1
  | .slice elems spare => uptoBulkAll elems + uptoBulkAll spare + 1
  | .agg parts => uptoBulkAll parts + 1
  | .iface _ d => uptoBulk d + 1
  | .map entries => uptoBulkEntries entries + 1
  | .held _ => 1
def uptoBulkAll {H : Type} : List (DataW H) → Nat
  | [] => 0
  | d :: r => uptoBulk d + uptoBulkAll r
def uptoBulkEntries {H : Type} : List (Lit × DataW H) → Nat
  | [] => 0
  | x :: r => uptoBulkEntry x + uptoBulkEntries r
def uptoBulkEntry {H : Type} : Lit × DataW H → Nat
  | (.string bytes, d) => bytes.length + uptoBulk d + 1
  | (_, d) => uptoBulk d + 1
 end
def uptoSmall : (H : Type) → List (DataW H) → Bool := fun _ ds => decide (uptoBulkAll ds ≤ 1048576)
def OpenSpec.upto (s : _root_.Go.ChangeSpec) : _root_.Go.OpenSpec := { _root_.Go.OpenSpec.ofChange s with cond := some uptoSmall }

/-- 'treebridgelaw07.FdbPlays', WHERE WHAT IT READS IS OF BULK AT MOST 1048576: true; the input reads as it did. -/
def fdbPlaysUptoRow : OpenClaim := { program := "ytkpfdaomhkcokaa", sum := "f6acf5da48aa2b45ae8f678b4c1cf7e64be65e3894c440e226fd6a01937167c8", func := "treebridge/treebridgelaw07.FdbPlays", spec := "fdbPlays", inPlace := ["internal/bytealg.abigen_runtime_cmpstring", "sync/atomic.AddInt64", "sync/atomic.LoadInt64"], unfollowed := true, recurses := true, plainKeys := false, apart := false, narrowed := true }
def FdbPlaysUptoSaid : Prop := fdbPlaysUptoRow.holds Try.pinned (OpenSpec.upto fdbPlaysSpec)

/-- 'treebridgelaw07.FdbOnce', WHERE WHAT IT READS IS OF BULK AT MOST 1048576: true; the input reads as it did. -/
def fdbOnceUptoRow : OpenClaim := { program := "ytkpfdaomhkcokaa", sum := "f6acf5da48aa2b45ae8f678b4c1cf7e64be65e3894c440e226fd6a01937167c8", func := "treebridge/treebridgelaw07.FdbOnce", spec := "fdbOnce", inPlace := ["internal/bytealg.abigen_runtime_cmpstring", "sync/atomic.AddInt64", "sync/atomic.LoadInt64"], unfollowed := true, recurses := true, plainKeys := false, apart := false, narrowed := true }
def FdbOnceUptoSaid : Prop := fdbOnceUptoRow.holds Try.pinned (OpenSpec.upto fdbOnceSpec)

/-- 'treebridgelaw07.FdbVlans', WHERE WHAT IT READS IS OF BULK AT MOST 1048576: true; the input reads as it did. -/
def fdbVlansUptoRow : OpenClaim := { program := "ytkpfdaomhkcokaa", sum := "f6acf5da48aa2b45ae8f678b4c1cf7e64be65e3894c440e226fd6a01937167c8", func := "treebridge/treebridgelaw07.FdbVlans", spec := "fdbVlans", inPlace := ["internal/bytealg.abigen_runtime_cmpstring", "sync/atomic.AddInt64", "sync/atomic.LoadInt64"], unfollowed := true, recurses := true, plainKeys := false, apart := false, narrowed := true }
def FdbVlansUptoSaid : Prop := fdbVlansUptoRow.holds Try.pinned (OpenSpec.upto fdbVlansSpec)

end Rows
end Go.Proofs.Ytkpfdaomhkcokaa
