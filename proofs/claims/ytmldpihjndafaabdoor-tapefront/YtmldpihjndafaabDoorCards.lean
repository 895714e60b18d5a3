/-
  DERIVED. GIVEN WITH THE SEED: THE CARDS: each row of YtmldpihjndafaabDoorRows.lean that lists a variable, with what it lists TIED to the program's text (the seventh form; the later family's looks); each row that meets fmt, with fmt's text TOLD by the authors' own Lean function (tested against real Go, not proved from fmt's source: count such statements apart). THE CARD IS WHAT COUNTS. Prove the row's statement (the work); the ties are given (YtmldpihjndafaabDoorTie.lean); close each card by the builder's one call (the guide's Derived/Test/ToyasCard.lean, 'card_holds'). Laid BY PROGRAM, IN A SANDBOX (cutbox-door.mjs). By AI agents, Wed Nov 11 2026. No macro, syntax, notation, axiom, sorry.
-/
import Derived.Test.YtmldpihjndafaabDoorRows
import GoSem.ClaimSeven
namespace Go.Proofs.YtmldpihjndafaabDoor
namespace Rows

/-- THE TIED CARD OF 'joinerylaw9.TapeFront'. -/
def tapeFrontCard : Claim7 := { stood := { row := tapeFrontRow, standIns := [], harness := (true, "ba63c83d5bedfa47617afb861aefdb924f916ff2ec4353f62c300fb9629a753d"), looks := true }, kinds := [], alts := [], laidByText := true, laidKinds := [.data, .data, .data], laidTests := true, laidLooks := .later }
def TapeFrontCardSaid : Prop := Claim7.holds Tryd.pinned (.plain (OpenSpec.ofChange tapeFrontSpec)) tapeFrontCard

/-- THE SECOND FORM's CARD OF 'joinerylaw9.TapeFront'. -/
def tapeFrontUptoCard : Claim7 := { stood := { row := tapeFrontUptoRow, standIns := [], harness := (true, "ba63c83d5bedfa47617afb861aefdb924f916ff2ec4353f62c300fb9629a753d"), looks := true }, kinds := [], alts := [], laidByText := true, laidKinds := [.data, .data, .data], laidTests := true, laidLooks := .later }
def TapeFrontUptoCardSaid : Prop := Claim7.holds Tryd.pinned (.plain (OpenSpec.upto tapeFrontSpec)) tapeFrontUptoCard
end Rows
end Go.Proofs.YtmldpihjndafaabDoor
