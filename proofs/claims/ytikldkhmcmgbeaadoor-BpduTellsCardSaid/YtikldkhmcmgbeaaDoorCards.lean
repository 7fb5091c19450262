/-
  DERIVED. GIVEN WITH THE SEED: THE CARDS: each row of YtikldkhmcmgbeaaDoorRows.lean that lists a variable, with what it lists TIED to the program's text (the seventh form; the later family's looks); each row that meets fmt, with fmt's text TOLD by the authors' own Lean function (tested against real Go, not proved from fmt's source: count such statements apart). THE CARD IS WHAT COUNTS. Prove the row's statement (the work); the ties are given (YtikldkhmcmgbeaaDoorTie.lean); close each card by the builder's one call (the guide's Derived/Test/ToyasCard.lean, 'card_holds'). Laid BY PROGRAM, IN A SANDBOX (cutbox-door.mjs). By AI agents, Wed Nov 11 2026. No macro, syntax, notation, axiom, sorry.
-/
import Derived.Test.YtikldkhmcmgbeaaDoorRows
import GoSem.ClaimSeven
namespace Go.Proofs.YtikldkhmcmgbeaaDoor
namespace Rows

/-- THE TIED CARD OF 'treebridgelaw03.BpduTells'. -/
def bpduTellsCard : Claim7 := { stood := { row := bpduTellsRow, standIns := [], harness := (true, "f8127c4f7f121c99902f4e29b92a69ae7271c4b2a49f8d9e5e6da758fb4a3292"), looks := false }, kinds := [], alts := [], laidByText := true, laidKinds := [.data], laidTests := true, laidLooks := .later }
def BpduTellsCardSaid : Prop := Claim7.holds Tryd.pinned (.plain (OpenSpec.ofChange bpduTellsSpec)) bpduTellsCard

/-- THE TIED CARD OF 'treebridgelaw03.BpduBack'. -/
def bpduBackCard : Claim7 := { stood := { row := bpduBackRow, standIns := [], harness := (true, "f8127c4f7f121c99902f4e29b92a69ae7271c4b2a49f8d9e5e6da758fb4a3292"), looks := false }, kinds := [], alts := [], laidByText := true, laidKinds := [.data], laidTests := true, laidLooks := .later }
def BpduBackCardSaid : Prop := Claim7.holds Tryd.pinned (.plain (OpenSpec.ofChange bpduBackSpec)) bpduBackCard

/-- THE SECOND FORM's CARD OF 'treebridgelaw03.BpduTells'. -/
def bpduTellsUptoCard : Claim7 := { stood := { row := bpduTellsUptoRow, standIns := [], harness := (true, "f8127c4f7f121c99902f4e29b92a69ae7271c4b2a49f8d9e5e6da758fb4a3292"), looks := false }, kinds := [], alts := [], laidByText := true, laidKinds := [.data], laidTests := true, laidLooks := .later }
def BpduTellsUptoCardSaid : Prop := Claim7.holds Tryd.pinned (.plain (OpenSpec.upto bpduTellsSpec)) bpduTellsUptoCard

/-- THE SECOND FORM's CARD OF 'treebridgelaw03.BpduBack'. -/
def bpduBackUptoCard : Claim7 := { stood := { row := bpduBackUptoRow, standIns := [], harness := (true, "f8127c4f7f121c99902f4e29b92a69ae7271c4b2a49f8d9e5e6da758fb4a3292"), looks := false }, kinds := [], alts := [], laidByText := true, laidKinds := [.data], laidTests := true, laidLooks := .later }
def BpduBackUptoCardSaid : Prop := Claim7.holds Tryd.pinned (.plain (OpenSpec.upto bpduBackSpec)) bpduBackUptoCard
end Rows
end Go.Proofs.YtikldkhmcmgbeaaDoor
