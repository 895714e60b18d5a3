/-
  DERIVED. GIVEN WITH THE SEED: THE CARDS: each row of YtlehlbgaboifoabGreatDoorRows.lean that lists a variable, with what it lists TIED to the program's text (the seventh form; the later family's looks); each row that meets fmt, with fmt's text TOLD by the authors' own Lean function (tested against real Go, not proved from fmt's source: count such statements apart). THE CARD IS WHAT COUNTS. Prove the row's statement (the work); the ties are given (YtlehlbgaboifoabGreatDoorTie.lean); close each card by the builder's one call (the guide's Derived/Test/ToyasCard.lean, 'card_holds'). Laid BY PROGRAM, IN A SANDBOX (cutbox-door.mjs). By AI agents, Wed Nov 11 2026. No macro, syntax, notation, axiom, sorry.
-/
import Derived.Test.YtlehlbgaboifoabGreatDoorRows
import GoSem.ClaimSeven
namespace Go.Proofs.YtlehlbgaboifoabGreatDoor
namespace Rows

/-- THE TIED CARD OF 'joinerylaw11.CoordRepeats'. -/
def coordRepeatsCard : Claim7 := { stood := { row := coordRepeatsRow, standIns := [], harness := (true, "855262e40a708cbf3ebcbc7b3db7dea47a7e6d643dae995cc662f3f7a0e47d0b"), looks := true }, kinds := [], alts := [], laidByText := true, laidKinds := [.data, .data, .data], laidTests := true, laidLooks := .later }
def CoordRepeatsCardSaid : Prop := Claim7.holds Tryz.pinned (.plain (OpenSpec.ofChange coordRepeatsSpec)) coordRepeatsCard

/-- THE TIED CARD OF 'joinerylaw11.CoordStray'. -/
def coordStrayCard : Claim7 := { stood := { row := coordStrayRow, standIns := [], harness := (true, "855262e40a708cbf3ebcbc7b3db7dea47a7e6d643dae995cc662f3f7a0e47d0b"), looks := true }, kinds := [], alts := [], laidByText := true, laidKinds := [.data, .data, .data], laidTests := true, laidLooks := .later }
def CoordStrayCardSaid : Prop := Claim7.holds Tryz.pinned (.plain (OpenSpec.ofChange coordStraySpec)) coordStrayCard

/-- THE TIED CARD OF 'joinerylaw11.CoordFrees'. -/
def coordFreesCard : Claim7 := { stood := { row := coordFreesRow, standIns := [], harness := (true, "855262e40a708cbf3ebcbc7b3db7dea47a7e6d643dae995cc662f3f7a0e47d0b"), looks := true }, kinds := [], alts := [], laidByText := true, laidKinds := [.data, .data, .data], laidTests := true, laidLooks := .later }
def CoordFreesCardSaid : Prop := Claim7.holds Tryz.pinned (.plain (OpenSpec.ofChange coordFreesSpec)) coordFreesCard

/-- THE TIED CARD OF 'joinerylaw11.CoordSlices'. -/
def coordSlicesCard : Claim7 := { stood := { row := coordSlicesRow, standIns := [], harness := (true, "855262e40a708cbf3ebcbc7b3db7dea47a7e6d643dae995cc662f3f7a0e47d0b"), looks := true }, kinds := [], alts := [], laidByText := true, laidKinds := [.data, .data, .data], laidTests := true, laidLooks := .later }
def CoordSlicesCardSaid : Prop := Claim7.holds Tryz.pinned (.plain (OpenSpec.ofChange coordSlicesSpec)) coordSlicesCard

/-- THE TIED CARD OF 'joinerylaw11.CoordErrs'. -/
def coordErrsCard : Claim7 := { stood := { row := coordErrsRow, standIns := [], harness := (true, "855262e40a708cbf3ebcbc7b3db7dea47a7e6d643dae995cc662f3f7a0e47d0b"), looks := true }, kinds := [], alts := [], laidByText := true, laidKinds := [.data, .data, .data], laidTests := true, laidLooks := .later }
def CoordErrsCardSaid : Prop := Claim7.holds Tryz.pinned (.plain (OpenSpec.ofChange coordErrsSpec)) coordErrsCard

/-- THE TIED CARD OF 'joinerylaw11.CoordLate'. -/
def coordLateCard : Claim7 := { stood := { row := coordLateRow, standIns := [], harness := (true, "855262e40a708cbf3ebcbc7b3db7dea47a7e6d643dae995cc662f3f7a0e47d0b"), looks := true }, kinds := [], alts := [], laidByText := true, laidKinds := [.data, .data, .data], laidTests := true, laidLooks := .later }
def CoordLateCardSaid : Prop := Claim7.holds Tryz.pinned (.plain (OpenSpec.ofChange coordLateSpec)) coordLateCard

/-- THE SECOND FORM's CARD OF 'joinerylaw11.CoordRepeats'. -/
def coordRepeatsUptoCard : Claim7 := { stood := { row := coordRepeatsUptoRow, standIns := [], harness := (true, "855262e40a708cbf3ebcbc7b3db7dea47a7e6d643dae995cc662f3f7a0e47d0b"), looks := true }, kinds := [], alts := [], laidByText := true, laidKinds := [.data, .data, .data], laidTests := true, laidLooks := .later }
def CoordRepeatsUptoCardSaid : Prop := Claim7.holds Tryz.pinned (.plain (OpenSpec.upto coordRepeatsSpec)) coordRepeatsUptoCard

/-- THE SECOND FORM's CARD OF 'joinerylaw11.CoordStray'. -/
def coordStrayUptoCard : Claim7 := { stood := { row := coordStrayUptoRow, standIns := [], harness := (true, "855262e40a708cbf3ebcbc7b3db7dea47a7e6d643dae995cc662f3f7a0e47d0b"), looks := true }, kinds := [], alts := [], laidByText := true, laidKinds := [.data, .data, .data], laidTests := true, laidLooks := .later }
def CoordStrayUptoCardSaid : Prop := Claim7.holds Tryz.pinned (.plain (OpenSpec.upto coordStraySpec)) coordStrayUptoCard

/-- THE SECOND FORM's CARD OF 'joinerylaw11.CoordFrees'. -/
def coordFreesUptoCard : Claim7 := { stood := { row := coordFreesUptoRow, standIns := [], harness := (true, "855262e40a708cbf3ebcbc7b3db7dea47a7e6d643dae995cc662f3f7a0e47d0b"), looks := true }, kinds := [], alts := [], laidByText := true, laidKinds := [.data, .data, .data], laidTests := true, laidLooks := .later }
def CoordFreesUptoCardSaid : Prop := Claim7.holds Tryz.pinned (.plain (OpenSpec.upto coordFreesSpec)) coordFreesUptoCard

/-- THE SECOND FORM's CARD OF 'joinerylaw11.CoordSlices'. -/
def coordSlicesUptoCard : Claim7 := { stood := { row := coordSlicesUptoRow, standIns := [], harness := (true, "855262e40a708cbf3ebcbc7b3db7dea47a7e6d643dae995cc662f3f7a0e47d0b"), looks := true }, kinds := [], alts := [], laidByText := true, laidKinds := [.data, .data, .data], laidTests := true, laidLooks := .later }
def CoordSlicesUptoCardSaid : Prop := Claim7.holds Tryz.pinned (.plain (OpenSpec.upto coordSlicesSpec)) coordSlicesUptoCard

/-- THE SECOND FORM's CARD OF 'joinerylaw11.CoordErrs'. -/
def coordErrsUptoCard : Claim7 := { stood := { row := coordErrsUptoRow, standIns := [], harness := (true, "855262e40a708cbf3ebcbc7b3db7dea47a7e6d643dae995cc662f3f7a0e47d0b"), looks := true }, kinds := [], alts := [], laidByText := true, laidKinds := [.data, .data, .data], laidTests := true, laidLooks := .later }
def CoordErrsUptoCardSaid : Prop := Claim7.holds Tryz.pinned (.plain (OpenSpec.upto coordErrsSpec)) coordErrsUptoCard

/-- THE SECOND FORM's CARD OF 'joinerylaw11.CoordLate'. -/
def coordLateUptoCard : Claim7 := { stood := { row := coordLateUptoRow, standIns := [], harness := (true, "855262e40a708cbf3ebcbc7b3db7dea47a7e6d643dae995cc662f3f7a0e47d0b"), looks := true }, kinds := [], alts := [], laidByText := true, laidKinds := [.data, .data, .data], laidTests := true, laidLooks := .later }
def CoordLateUptoCardSaid : Prop := Claim7.holds Tryz.pinned (.plain (OpenSpec.upto coordLateSpec)) coordLateUptoCard
end Rows
end Go.Proofs.YtlehlbgaboifoabGreatDoor
