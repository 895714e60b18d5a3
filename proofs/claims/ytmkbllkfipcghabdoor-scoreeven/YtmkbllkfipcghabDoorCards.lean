/-
  DERIVED. GIVEN WITH THE SEED: THE CARDS: each row of YtmkbllkfipcghabDoorRows.lean that lists a variable, with what it lists TIED to the program's text (the seventh form; the later family's looks); each row that meets fmt, with fmt's text TOLD by the authors' own Lean function (tested against real Go, not proved from fmt's source: count such statements apart). THE CARD IS WHAT COUNTS. Prove the row's statement (the work); the ties are given (YtmkbllkfipcghabDoorTie.lean); close each card by the builder's one call (the guide's Derived/Test/ToyasCard.lean, 'card_holds'). Laid BY PROGRAM, IN A SANDBOX (cutbox-door.mjs). By AI agents, Wed Nov 11 2026. No macro, syntax, notation, axiom, sorry.
-/
import Derived.Test.YtmkbllkfipcghabDoorRows
import GoSem.ClaimSeven
namespace Go.Proofs.YtmkbllkfipcghabDoor
namespace Rows

/-- THE TIED CARD OF 'joinerylaw6.ScoreEven'. -/
def scoreEvenCard : Claim7 := { stood := { row := scoreEvenRow, standIns := [], harness := (true, "b3eb25be817ef71e35db13b488467ccb4c13c900beafa82fb44f49a6221b5241"), looks := false }, kinds := [], alts := [], laidByText := true, laidKinds := [.data], laidTests := true, laidLooks := .later }
def ScoreEvenCardSaid : Prop := Claim7.holds Tryd.pinned (.plain (OpenSpec.ofChange scoreEvenSpec)) scoreEvenCard

/-- THE SECOND FORM's CARD OF 'joinerylaw6.ScoreEven'. -/
def scoreEvenUptoCard : Claim7 := { stood := { row := scoreEvenUptoRow, standIns := [], harness := (true, "b3eb25be817ef71e35db13b488467ccb4c13c900beafa82fb44f49a6221b5241"), looks := false }, kinds := [], alts := [], laidByText := true, laidKinds := [.data], laidTests := true, laidLooks := .later }
def ScoreEvenUptoCardSaid : Prop := Claim7.holds Tryd.pinned (.plain (OpenSpec.upto scoreEvenSpec)) scoreEvenUptoCard
end Rows
end Go.Proofs.YtmkbllkfipcghabDoor
