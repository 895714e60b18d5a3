/-
  DERIVED. GIVEN WITH THE SEED: THE CARDS: each row of YtmldpihjndafaaaDoorRows.lean that lists a variable, with what it lists TIED to the program's text (the seventh form; the later family's looks); each row that meets fmt, with fmt's text TOLD by the authors' own Lean function (tested against real Go, not proved from fmt's source: count such statements apart). THE CARD IS WHAT COUNTS. Prove the row's statement (the work); the ties are given (YtmldpihjndafaaaDoorTie.lean); close each card by the builder's one call (the guide's Derived/Test/ToyasCard.lean, 'card_holds'). Laid BY PROGRAM, IN A SANDBOX (cutbox-door.mjs). By AI agents, Wed Nov 11 2026. No macro, syntax, notation, axiom, sorry.
-/
import Derived.Test.YtmldpihjndafaaaDoorRows
import GoSem.ClaimSeven
namespace Go.Proofs.YtmldpihjndafaaaDoor
namespace Rows

/-- THE TIED CARD OF 'joinerylaw9.TapeAgain'. -/
def tapeAgainCard : Claim7 := { stood := { row := tapeAgainRow, standIns := [], harness := (true, "b2301df2146eab82b2d7de1e9e3853b38c10fe51e88a26478d2b0c10f1d2f4ec"), looks := true }, kinds := [], alts := [], laidByText := true, laidKinds := [.data, .data, .data], laidTests := true, laidLooks := .later }
def TapeAgainCardSaid : Prop := Claim7.holds Tryd.pinned (.plain (OpenSpec.ofChange tapeAgainSpec)) tapeAgainCard

/-- THE TIED CARD OF 'joinerylaw9.TapeSyncs'. -/
def tapeSyncsCard : Claim7 := { stood := { row := tapeSyncsRow, standIns := [], harness := (true, "b2301df2146eab82b2d7de1e9e3853b38c10fe51e88a26478d2b0c10f1d2f4ec"), looks := true }, kinds := [], alts := [], laidByText := true, laidKinds := [.data, .data, .data], laidTests := true, laidLooks := .later }
def TapeSyncsCardSaid : Prop := Claim7.holds Tryd.pinned (.plain (OpenSpec.ofChange tapeSyncsSpec)) tapeSyncsCard

/-- THE SECOND FORM's CARD OF 'joinerylaw9.TapeAgain'. -/
def tapeAgainUptoCard : Claim7 := { stood := { row := tapeAgainUptoRow, standIns := [], harness := (true, "b2301df2146eab82b2d7de1e9e3853b38c10fe51e88a26478d2b0c10f1d2f4ec"), looks := true }, kinds := [], alts := [], laidByText := true, laidKinds := [.data, .data, .data], laidTests := true, laidLooks := .later }
def TapeAgainUptoCardSaid : Prop := Claim7.holds Tryd.pinned (.plain (OpenSpec.upto tapeAgainSpec)) tapeAgainUptoCard

/-- THE SECOND FORM's CARD OF 'joinerylaw9.TapeSyncs'. -/
def tapeSyncsUptoCard : Claim7 := { stood := { row := tapeSyncsUptoRow, standIns := [], harness := (true, "b2301df2146eab82b2d7de1e9e3853b38c10fe51e88a26478d2b0c10f1d2f4ec"), looks := true }, kinds := [], alts := [], laidByText := true, laidKinds := [.data, .data, .data], laidTests := true, laidLooks := .later }
def TapeSyncsUptoCardSaid : Prop := Claim7.holds Tryd.pinned (.plain (OpenSpec.upto tapeSyncsSpec)) tapeSyncsUptoCard
end Rows
end Go.Proofs.YtmldpihjndafaaaDoor
