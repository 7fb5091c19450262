/-
  DERIVED. GIVEN WITH THE SEED: THE CARDS: each row of YtledabmmomgkoaaDoorRows.lean that lists a variable, with what it lists TIED to the program's text (the seventh form; the later family's looks); each row that meets fmt, with fmt's text TOLD by the authors' own Lean function (tested against real Go, not proved from fmt's source: count such statements apart). THE CARD IS WHAT COUNTS. Prove the row's statement (the work); the ties are given (YtledabmmomgkoaaDoorTie.lean); close each card by the builder's one call (the guide's Derived/Test/ToyasCard.lean, 'card_holds'). Laid BY PROGRAM, IN A SANDBOX (cutbox-door.mjs). By AI agents, Wed Nov 11 2026. No macro, syntax, notation, axiom, sorry.
-/
import Derived.Test.YtledabmmomgkoaaDoorRows
import GoSem.ClaimSeven
namespace Go.Proofs.YtledabmmomgkoaaDoor
namespace Rows

/-- THE TIED CARD OF 'treebridgelaw02.LlcTells'. -/
def llcTellsCard : Claim7 := { stood := { row := llcTellsRow, standIns := [], harness := (true, "8bdd9d94fa557d92443e54ad7c38eb6b7ec7e0bd1108093fae597a6956925d16"), looks := false }, kinds := [], alts := [], laidByText := true, laidKinds := [.data], laidTests := true, laidLooks := .later }
def LlcTellsCardSaid : Prop := Claim7.holds Tryd.pinned (.plain (OpenSpec.ofChange llcTellsSpec)) llcTellsCard

/-- THE TIED CARD OF 'treebridgelaw02.LlcBack'. -/
def llcBackCard : Claim7 := { stood := { row := llcBackRow, standIns := [], harness := (true, "8bdd9d94fa557d92443e54ad7c38eb6b7ec7e0bd1108093fae597a6956925d16"), looks := false }, kinds := [], alts := [], laidByText := true, laidKinds := [.data], laidTests := true, laidLooks := .later }
def LlcBackCardSaid : Prop := Claim7.holds Tryd.pinned (.plain (OpenSpec.ofChange llcBackSpec)) llcBackCard

/-- THE SECOND FORM's CARD OF 'treebridgelaw02.LlcTells'. -/
def llcTellsUptoCard : Claim7 := { stood := { row := llcTellsUptoRow, standIns := [], harness := (true, "8bdd9d94fa557d92443e54ad7c38eb6b7ec7e0bd1108093fae597a6956925d16"), looks := false }, kinds := [], alts := [], laidByText := true, laidKinds := [.data], laidTests := true, laidLooks := .later }
def LlcTellsUptoCardSaid : Prop := Claim7.holds Tryd.pinned (.plain (OpenSpec.upto llcTellsSpec)) llcTellsUptoCard

/-- THE SECOND FORM's CARD OF 'treebridgelaw02.LlcBack'. -/
def llcBackUptoCard : Claim7 := { stood := { row := llcBackUptoRow, standIns := [], harness := (true, "8bdd9d94fa557d92443e54ad7c38eb6b7ec7e0bd1108093fae597a6956925d16"), looks := false }, kinds := [], alts := [], laidByText := true, laidKinds := [.data], laidTests := true, laidLooks := .later }
def LlcBackUptoCardSaid : Prop := Claim7.holds Tryd.pinned (.plain (OpenSpec.upto llcBackSpec)) llcBackUptoCard
end Rows
end Go.Proofs.YtledabmmomgkoaaDoor
