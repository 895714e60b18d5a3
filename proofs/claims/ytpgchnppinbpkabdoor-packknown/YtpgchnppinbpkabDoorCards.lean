/-
  DERIVED. GIVEN WITH THE SEED: THE CARDS: each row of YtpgchnppinbpkabDoorRows.lean that lists a variable, with what it lists TIED to the program's text (the seventh form; the later family's looks); each row that meets fmt, with fmt's text TOLD by the authors' own Lean function (tested against real Go, not proved from fmt's source: count such statements apart). THE CARD IS WHAT COUNTS. Prove the row's statement (the work); the ties are given (YtpgchnppinbpkabDoorTie.lean); close each card by the builder's one call (the guide's Derived/Test/ToyasCard.lean, 'card_holds'). Laid BY PROGRAM, IN A SANDBOX (cutbox-door.mjs). By AI agents, Wed Nov 11 2026. No macro, syntax, notation, axiom, sorry.
-/
import Derived.Test.YtpgchnppinbpkabDoorRows
import GoSem.ClaimSeven
namespace Go.Proofs.YtpgchnppinbpkabDoor
namespace Rows

/-- THE TIED CARD OF 'joinerylaw8.PackBest'. -/
def packBestCard : Claim7 := { stood := { row := packBestRow, standIns := [], harness := (true, "68979fb861331d3829b8faed8a86ca3b85804f747f7f5e523958a8e87cbe0688"), looks := true }, kinds := [], alts := [], laidByText := true, laidKinds := [.data], laidTests := true, laidLooks := .later }
def PackBestCardSaid : Prop := Claim7.holds Tryd.pinned (.plain (OpenSpec.ofChange packBestSpec)) packBestCard

/-- THE TIED CARD OF 'joinerylaw8.PackOne'. -/
def packOneCard : Claim7 := { stood := { row := packOneRow, standIns := [], harness := (true, "68979fb861331d3829b8faed8a86ca3b85804f747f7f5e523958a8e87cbe0688"), looks := true }, kinds := [], alts := [], laidByText := true, laidKinds := [.data], laidTests := true, laidLooks := .later }
def PackOneCardSaid : Prop := Claim7.holds Tryd.pinned (.plain (OpenSpec.ofChange packOneSpec)) packOneCard

/-- THE TIED CARD OF 'joinerylaw8.PackKnown'. -/
def packKnownCard : Claim7 := { stood := { row := packKnownRow, standIns := [], harness := (true, "68979fb861331d3829b8faed8a86ca3b85804f747f7f5e523958a8e87cbe0688"), looks := true }, kinds := [], alts := [], laidByText := true, laidKinds := [.data], laidTests := true, laidLooks := .later }
def PackKnownCardSaid : Prop := Claim7.holds Tryd.pinned (.plain (OpenSpec.ofChange packKnownSpec)) packKnownCard

/-- THE TIED CARD OF 'joinerylaw8.PackGrows'. -/
def packGrowsCard : Claim7 := { stood := { row := packGrowsRow, standIns := [], harness := (true, "68979fb861331d3829b8faed8a86ca3b85804f747f7f5e523958a8e87cbe0688"), looks := true }, kinds := [], alts := [], laidByText := true, laidKinds := [.data], laidTests := true, laidLooks := .later }
def PackGrowsCardSaid : Prop := Claim7.holds Tryd.pinned (.plain (OpenSpec.ofChange packGrowsSpec)) packGrowsCard

/-- THE SECOND FORM's CARD OF 'joinerylaw8.PackBest'. -/
def packBestUptoCard : Claim7 := { stood := { row := packBestUptoRow, standIns := [], harness := (true, "68979fb861331d3829b8faed8a86ca3b85804f747f7f5e523958a8e87cbe0688"), looks := true }, kinds := [], alts := [], laidByText := true, laidKinds := [.data], laidTests := true, laidLooks := .later }
def PackBestUptoCardSaid : Prop := Claim7.holds Tryd.pinned (.plain (OpenSpec.upto packBestSpec)) packBestUptoCard

/-- THE SECOND FORM's CARD OF 'joinerylaw8.PackOne'. -/
def packOneUptoCard : Claim7 := { stood := { row := packOneUptoRow, standIns := [], harness := (true, "68979fb861331d3829b8faed8a86ca3b85804f747f7f5e523958a8e87cbe0688"), looks := true }, kinds := [], alts := [], laidByText := true, laidKinds := [.data], laidTests := true, laidLooks := .later }
def PackOneUptoCardSaid : Prop := Claim7.holds Tryd.pinned (.plain (OpenSpec.upto packOneSpec)) packOneUptoCard

/-- THE SECOND FORM's CARD OF 'joinerylaw8.PackKnown'. -/
def packKnownUptoCard : Claim7 := { stood := { row := packKnownUptoRow, standIns := [], harness := (true, "68979fb861331d3829b8faed8a86ca3b85804f747f7f5e523958a8e87cbe0688"), looks := true }, kinds := [], alts := [], laidByText := true, laidKinds := [.data], laidTests := true, laidLooks := .later }
def PackKnownUptoCardSaid : Prop := Claim7.holds Tryd.pinned (.plain (OpenSpec.upto packKnownSpec)) packKnownUptoCard

/-- THE SECOND FORM's CARD OF 'joinerylaw8.PackGrows'. -/
def packGrowsUptoCard : Claim7 := { stood := { row := packGrowsUptoRow, standIns := [], harness := (true, "68979fb861331d3829b8faed8a86ca3b85804f747f7f5e523958a8e87cbe0688"), looks := true }, kinds := [], alts := [], laidByText := true, laidKinds := [.data], laidTests := true, laidLooks := .later }
def PackGrowsUptoCardSaid : Prop := Claim7.holds Tryd.pinned (.plain (OpenSpec.upto packGrowsSpec)) packGrowsUptoCard
end Rows
end Go.Proofs.YtpgchnppinbpkabDoor
