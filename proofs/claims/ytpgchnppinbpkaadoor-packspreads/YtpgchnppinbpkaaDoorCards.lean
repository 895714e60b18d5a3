/-
  DERIVED. GIVEN WITH THE SEED: THE CARDS: each row of YtpgchnppinbpkaaDoorRows.lean that lists a variable, with what it lists TIED to the program's text (the seventh form; the later family's looks); each row that meets fmt, with fmt's text TOLD by the authors' own Lean function (tested against real Go, not proved from fmt's source: count such statements apart). THE CARD IS WHAT COUNTS. Prove the row's statement (the work); the ties are given (YtpgchnppinbpkaaDoorTie.lean); close each card by the builder's one call (the guide's Derived/Test/ToyasCard.lean, 'card_holds'). Laid BY PROGRAM, IN A SANDBOX (cutbox-door.mjs). By AI agents, Wed Nov 11 2026. No macro, syntax, notation, axiom, sorry.
-/
import Derived.Test.YtpgchnppinbpkaaDoorRows
import GoSem.ClaimSeven
namespace Go.Proofs.YtpgchnppinbpkaaDoor
namespace Rows

/-- THE TIED CARD OF 'joinerylaw8.PackFits'. -/
def packFitsCard : Claim7 := { stood := { row := packFitsRow, standIns := [], harness := (true, "d43d823b47f8e879ac9cf291fe7941fd0d8183fb1f510354a25118016b98ee1e"), looks := true }, kinds := [], alts := [], laidByText := true, laidKinds := [.data], laidTests := true, laidLooks := .later }
def PackFitsCardSaid : Prop := Claim7.holds Tryd.pinned (.plain (OpenSpec.ofChange packFitsSpec)) packFitsCard

/-- THE TIED CARD OF 'joinerylaw8.PackTwice'. -/
def packTwiceCard : Claim7 := { stood := { row := packTwiceRow, standIns := [], harness := (true, "d43d823b47f8e879ac9cf291fe7941fd0d8183fb1f510354a25118016b98ee1e"), looks := true }, kinds := [], alts := [], laidByText := true, laidKinds := [.data], laidTests := true, laidLooks := .later }
def PackTwiceCardSaid : Prop := Claim7.holds Tryd.pinned (.plain (OpenSpec.ofChange packTwiceSpec)) packTwiceCard

/-- THE TIED CARD OF 'joinerylaw8.PackSpreads'. -/
def packSpreadsCard : Claim7 := { stood := { row := packSpreadsRow, standIns := [], harness := (true, "d43d823b47f8e879ac9cf291fe7941fd0d8183fb1f510354a25118016b98ee1e"), looks := true }, kinds := [], alts := [], laidByText := true, laidKinds := [.data], laidTests := true, laidLooks := .later }
def PackSpreadsCardSaid : Prop := Claim7.holds Tryd.pinned (.plain (OpenSpec.ofChange packSpreadsSpec)) packSpreadsCard

/-- THE TIED CARD OF 'joinerylaw8.PackAlone'. -/
def packAloneCard : Claim7 := { stood := { row := packAloneRow, standIns := [], harness := (true, "d43d823b47f8e879ac9cf291fe7941fd0d8183fb1f510354a25118016b98ee1e"), looks := true }, kinds := [], alts := [], laidByText := true, laidKinds := [.data], laidTests := true, laidLooks := .later }
def PackAloneCardSaid : Prop := Claim7.holds Tryd.pinned (.plain (OpenSpec.ofChange packAloneSpec)) packAloneCard

/-- THE SECOND FORM's CARD OF 'joinerylaw8.PackFits'. -/
def packFitsUptoCard : Claim7 := { stood := { row := packFitsUptoRow, standIns := [], harness := (true, "d43d823b47f8e879ac9cf291fe7941fd0d8183fb1f510354a25118016b98ee1e"), looks := true }, kinds := [], alts := [], laidByText := true, laidKinds := [.data], laidTests := true, laidLooks := .later }
def PackFitsUptoCardSaid : Prop := Claim7.holds Tryd.pinned (.plain (OpenSpec.upto packFitsSpec)) packFitsUptoCard

/-- THE SECOND FORM's CARD OF 'joinerylaw8.PackTwice'. -/
def packTwiceUptoCard : Claim7 := { stood := { row := packTwiceUptoRow, standIns := [], harness := (true, "d43d823b47f8e879ac9cf291fe7941fd0d8183fb1f510354a25118016b98ee1e"), looks := true }, kinds := [], alts := [], laidByText := true, laidKinds := [.data], laidTests := true, laidLooks := .later }
def PackTwiceUptoCardSaid : Prop := Claim7.holds Tryd.pinned (.plain (OpenSpec.upto packTwiceSpec)) packTwiceUptoCard

/-- THE SECOND FORM's CARD OF 'joinerylaw8.PackSpreads'. -/
def packSpreadsUptoCard : Claim7 := { stood := { row := packSpreadsUptoRow, standIns := [], harness := (true, "d43d823b47f8e879ac9cf291fe7941fd0d8183fb1f510354a25118016b98ee1e"), looks := true }, kinds := [], alts := [], laidByText := true, laidKinds := [.data], laidTests := true, laidLooks := .later }
def PackSpreadsUptoCardSaid : Prop := Claim7.holds Tryd.pinned (.plain (OpenSpec.upto packSpreadsSpec)) packSpreadsUptoCard

/-- THE SECOND FORM's CARD OF 'joinerylaw8.PackAlone'. -/
def packAloneUptoCard : Claim7 := { stood := { row := packAloneUptoRow, standIns := [], harness := (true, "d43d823b47f8e879ac9cf291fe7941fd0d8183fb1f510354a25118016b98ee1e"), looks := true }, kinds := [], alts := [], laidByText := true, laidKinds := [.data], laidTests := true, laidLooks := .later }
def PackAloneUptoCardSaid : Prop := Claim7.holds Tryd.pinned (.plain (OpenSpec.upto packAloneSpec)) packAloneUptoCard
end Rows
end Go.Proofs.YtpgchnppinbpkaaDoor
