/-
  DERIVED. GIVEN WITH THE SEED: THE CARDS: each row of YtldobcfejldbiaaGreatDoorRows.lean that lists a variable, with what it lists TIED to the program's text (the seventh form; the later family's looks); each row that meets fmt, with fmt's text TOLD by the authors' own Lean function (tested against real Go, not proved from fmt's source: count such statements apart). THE CARD IS WHAT COUNTS. Prove the row's statement (the work); the ties are given (YtldobcfejldbiaaGreatDoorTie.lean); close each card by the builder's one call (the guide's Derived/Test/ToyasCard.lean, 'card_holds'). Laid BY PROGRAM, IN A SANDBOX (cutbox-door.mjs). By AI agents, Wed Nov 11 2026. No macro, syntax, notation, axiom, sorry.
-/
import Derived.Test.YtldobcfejldbiaaGreatDoorRows
import GoSem.ClaimSeven
namespace Go.Proofs.YtldobcfejldbiaaGreatDoor
namespace Rows

/-- THE TIED CARD OF 'treebridgelaw15.RstpPlays'. -/
def rstpPlaysCard : Claim7 := { stood := { row := rstpPlaysRow, standIns := [], harness := (true, "e9a26544126df9dd7d8f7aef27d0e9188d31b268825e91f6a3f1750731a2256f"), looks := false }, kinds := [], alts := [], laidByText := true, laidKinds := [.data], laidTests := true, laidLooks := .later }
def RstpPlaysCardSaid : Prop := Claim7.holds Tryz.pinned (.plain (OpenSpec.ofChange rstpPlaysSpec)) rstpPlaysCard

/-- THE TIED CARD OF 'treebridgelaw15.RstpSafe'. -/
def rstpSafeCard : Claim7 := { stood := { row := rstpSafeRow, standIns := [], harness := (true, "e9a26544126df9dd7d8f7aef27d0e9188d31b268825e91f6a3f1750731a2256f"), looks := false }, kinds := [], alts := [], laidByText := true, laidKinds := [.data], laidTests := true, laidLooks := .later }
def RstpSafeCardSaid : Prop := Claim7.holds Tryz.pinned (.plain (OpenSpec.ofChange rstpSafeSpec)) rstpSafeCard

/-- THE TIED CARD OF 'treebridgelaw15.RstpAlone'. -/
def rstpAloneCard : Claim7 := { stood := { row := rstpAloneRow, standIns := [], harness := (true, "e9a26544126df9dd7d8f7aef27d0e9188d31b268825e91f6a3f1750731a2256f"), looks := false }, kinds := [], alts := [], laidByText := true, laidKinds := [.data], laidTests := true, laidLooks := .later }
def RstpAloneCardSaid : Prop := Claim7.holds Tryz.pinned (.plain (OpenSpec.ofChange rstpAloneSpec)) rstpAloneCard

/-- THE SECOND FORM's CARD OF 'treebridgelaw15.RstpPlays'. -/
def rstpPlaysUptoCard : Claim7 := { stood := { row := rstpPlaysUptoRow, standIns := [], harness := (true, "e9a26544126df9dd7d8f7aef27d0e9188d31b268825e91f6a3f1750731a2256f"), looks := false }, kinds := [], alts := [], laidByText := true, laidKinds := [.data], laidTests := true, laidLooks := .later }
def RstpPlaysUptoCardSaid : Prop := Claim7.holds Tryz.pinned (.plain (OpenSpec.upto rstpPlaysSpec)) rstpPlaysUptoCard

/-- THE SECOND FORM's CARD OF 'treebridgelaw15.RstpSafe'. -/
def rstpSafeUptoCard : Claim7 := { stood := { row := rstpSafeUptoRow, standIns := [], harness := (true, "e9a26544126df9dd7d8f7aef27d0e9188d31b268825e91f6a3f1750731a2256f"), looks := false }, kinds := [], alts := [], laidByText := true, laidKinds := [.data], laidTests := true, laidLooks := .later }
def RstpSafeUptoCardSaid : Prop := Claim7.holds Tryz.pinned (.plain (OpenSpec.upto rstpSafeSpec)) rstpSafeUptoCard

/-- THE SECOND FORM's CARD OF 'treebridgelaw15.RstpAlone'. -/
def rstpAloneUptoCard : Claim7 := { stood := { row := rstpAloneUptoRow, standIns := [], harness := (true, "e9a26544126df9dd7d8f7aef27d0e9188d31b268825e91f6a3f1750731a2256f"), looks := false }, kinds := [], alts := [], laidByText := true, laidKinds := [.data], laidTests := true, laidLooks := .later }
def RstpAloneUptoCardSaid : Prop := Claim7.holds Tryz.pinned (.plain (OpenSpec.upto rstpAloneSpec)) rstpAloneUptoCard
end Rows
end Go.Proofs.YtldobcfejldbiaaGreatDoor
