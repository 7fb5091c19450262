/-
  DERIVED. GIVEN WITH THE SEED: THE CARDS: each row of YtaifkepojfhgkaaDoorRows.lean that lists a variable, with what it lists TIED to the program's text (the seventh form; the later family's looks); each row that meets fmt, with fmt's text TOLD by the authors' own Lean function (tested against real Go, not proved from fmt's source: count such statements apart). THE CARD IS WHAT COUNTS. Prove the row's statement (the work); the ties are given (YtaifkepojfhgkaaDoorTie.lean); close each card by the builder's one call (the guide's Derived/Test/ToyasCard.lean, 'card_holds'). Laid BY PROGRAM, IN A SANDBOX (cutbox-door.mjs). By AI agents, Wed Nov 11 2026. No macro, syntax, notation, axiom, sorry.
-/
import Derived.Test.YtaifkepojfhgkaaDoorRows
import GoSem.ClaimSeven
namespace Go.Proofs.YtaifkepojfhgkaaDoor
namespace Rows

/-- THE TIED CARD OF 'treebridgelaw04.SstpTells'. -/
def sstpTellsCard : Claim7 := { stood := { row := sstpTellsRow, standIns := [], harness := (true, "6f9f7da0ae04a6f6886f1c58acda68f16c15df9f9f819be8ff6a4c16fe94fff0"), looks := false }, kinds := [], alts := [], laidByText := true, laidKinds := [.data], laidTests := true, laidLooks := .later }
def SstpTellsCardSaid : Prop := Claim7.holds Tryd.pinned (.plain (OpenSpec.ofChange sstpTellsSpec)) sstpTellsCard

/-- THE TIED CARD OF 'treebridgelaw04.SstpBack'. -/
def sstpBackCard : Claim7 := { stood := { row := sstpBackRow, standIns := [], harness := (true, "6f9f7da0ae04a6f6886f1c58acda68f16c15df9f9f819be8ff6a4c16fe94fff0"), looks := false }, kinds := [], alts := [], laidByText := true, laidKinds := [.data], laidTests := true, laidLooks := .later }
def SstpBackCardSaid : Prop := Claim7.holds Tryd.pinned (.plain (OpenSpec.ofChange sstpBackSpec)) sstpBackCard

/-- THE SECOND FORM's CARD OF 'treebridgelaw04.SstpTells'. -/
def sstpTellsUptoCard : Claim7 := { stood := { row := sstpTellsUptoRow, standIns := [], harness := (true, "6f9f7da0ae04a6f6886f1c58acda68f16c15df9f9f819be8ff6a4c16fe94fff0"), looks := false }, kinds := [], alts := [], laidByText := true, laidKinds := [.data], laidTests := true, laidLooks := .later }
def SstpTellsUptoCardSaid : Prop := Claim7.holds Tryd.pinned (.plain (OpenSpec.upto sstpTellsSpec)) sstpTellsUptoCard

/-- THE SECOND FORM's CARD OF 'treebridgelaw04.SstpBack'. -/
def sstpBackUptoCard : Claim7 := { stood := { row := sstpBackUptoRow, standIns := [], harness := (true, "6f9f7da0ae04a6f6886f1c58acda68f16c15df9f9f819be8ff6a4c16fe94fff0"), looks := false }, kinds := [], alts := [], laidByText := true, laidKinds := [.data], laidTests := true, laidLooks := .later }
def SstpBackUptoCardSaid : Prop := Claim7.holds Tryd.pinned (.plain (OpenSpec.upto sstpBackSpec)) sstpBackUptoCard
end Rows
end Go.Proofs.YtaifkepojfhgkaaDoor
