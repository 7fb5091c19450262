/-
  DERIVED. GIVEN WITH THE SEED: THE CARDS: each row of YtngdilmgbgdkcaaDoorRows.lean that lists a variable, with what it lists TIED to the program's text (the seventh form; the later family's looks); each row that meets fmt, with fmt's text TOLD by the authors' own Lean function (tested against real Go, not proved from fmt's source: count such statements apart). THE CARD IS WHAT COUNTS. Prove the row's statement (the work); the ties are given (YtngdilmgbgdkcaaDoorTie.lean); close each card by the builder's one call (the guide's Derived/Test/ToyasCard.lean, 'card_holds'). Laid BY PROGRAM, IN A SANDBOX (cutbox-door.mjs). By AI agents, Wed Nov 11 2026. No macro, syntax, notation, axiom, sorry.
-/
import Derived.Test.YtngdilmgbgdkcaaDoorRows
import GoSem.ClaimSeven
namespace Go.Proofs.YtngdilmgbgdkcaaDoor
namespace Rows

/-- THE TIED CARD OF 'treebridgelaw14.SendRight'. -/
def sendRightCard : Claim7 := { stood := { row := sendRightRow, standIns := [], harness := (true, "c0b65bb8a0f4bfab104e2fc6655271ba92da76b3f4b21178c6507b231e66dba3"), looks := false }, kinds := [], alts := [], laidByText := true, laidKinds := [.data], laidTests := true, laidLooks := .later }
def SendRightCardSaid : Prop := Claim7.holds Tryd.pinned (.plain (OpenSpec.ofChange sendRightSpec)) sendRightCard

/-- THE TIED CARD OF 'treebridgelaw14.SendTongues'. -/
def sendTonguesCard : Claim7 := { stood := { row := sendTonguesRow, standIns := [], harness := (true, "c0b65bb8a0f4bfab104e2fc6655271ba92da76b3f4b21178c6507b231e66dba3"), looks := false }, kinds := [], alts := [], laidByText := true, laidKinds := [.data], laidTests := true, laidLooks := .later }
def SendTonguesCardSaid : Prop := Claim7.holds Tryd.pinned (.plain (OpenSpec.ofChange sendTonguesSpec)) sendTonguesCard

/-- THE SECOND FORM's CARD OF 'treebridgelaw14.SendRight'. -/
def sendRightUptoCard : Claim7 := { stood := { row := sendRightUptoRow, standIns := [], harness := (true, "c0b65bb8a0f4bfab104e2fc6655271ba92da76b3f4b21178c6507b231e66dba3"), looks := false }, kinds := [], alts := [], laidByText := true, laidKinds := [.data], laidTests := true, laidLooks := .later }
def SendRightUptoCardSaid : Prop := Claim7.holds Tryd.pinned (.plain (OpenSpec.upto sendRightSpec)) sendRightUptoCard

/-- THE SECOND FORM's CARD OF 'treebridgelaw14.SendTongues'. -/
def sendTonguesUptoCard : Claim7 := { stood := { row := sendTonguesUptoRow, standIns := [], harness := (true, "c0b65bb8a0f4bfab104e2fc6655271ba92da76b3f4b21178c6507b231e66dba3"), looks := false }, kinds := [], alts := [], laidByText := true, laidKinds := [.data], laidTests := true, laidLooks := .later }
def SendTonguesUptoCardSaid : Prop := Claim7.holds Tryd.pinned (.plain (OpenSpec.upto sendTonguesSpec)) sendTonguesUptoCard
end Rows
end Go.Proofs.YtngdilmgbgdkcaaDoor
