/-
  DERIVED. GIVEN WITH THE SEED: THE CARDS: each row of YthneemgpifbehaaGreatDoorRows.lean that lists a variable, with what it lists TIED to the program's text (the seventh form; the later family's looks); each row that meets fmt, with fmt's text TOLD by the authors' own Lean function (tested against real Go, not proved from fmt's source: count such statements apart). THE CARD IS WHAT COUNTS. Prove the row's statement (the work); the ties are given (YthneemgpifbehaaGreatDoorTie.lean); close each card by the builder's one call (the guide's Derived/Test/ToyasCard.lean, 'card_holds'). Laid BY PROGRAM, IN A SANDBOX (cutbox-door.mjs). By AI agents, Wed Nov 11 2026. No macro, syntax, notation, axiom, sorry.
-/
import Derived.Test.YthneemgpifbehaaGreatDoorRows
import GoSem.ClaimSeven
namespace Go.Proofs.YthneemgpifbehaaGreatDoor
namespace Rows

/-- THE TIED CARD OF 'joinerylaw10.ShardPlays'. -/
def shardPlaysCard : Claim7 := { stood := { row := shardPlaysRow, standIns := [], harness := (true, "0d0dff402a5f88aeebcce3b21d0f0867da6e6635af83a4af9d1f7fe8dbe80b2e"), looks := true }, kinds := [], alts := [], laidByText := true, laidKinds := [.data, .data, .data, .data], laidTests := true, laidLooks := .later }
def ShardPlaysCardSaid : Prop := Claim7.holds Tryz.pinned (.plain (OpenSpec.ofChange shardPlaysSpec)) shardPlaysCard

/-- THE TIED CARD OF 'joinerylaw10.ShardKeeps'. -/
def shardKeepsCard : Claim7 := { stood := { row := shardKeepsRow, standIns := [], harness := (true, "0d0dff402a5f88aeebcce3b21d0f0867da6e6635af83a4af9d1f7fe8dbe80b2e"), looks := true }, kinds := [], alts := [], laidByText := true, laidKinds := [.data, .data, .data, .data], laidTests := true, laidLooks := .later }
def ShardKeepsCardSaid : Prop := Claim7.holds Tryz.pinned (.plain (OpenSpec.ofChange shardKeepsSpec)) shardKeepsCard

/-- THE TIED CARD OF 'joinerylaw10.ShardRoom'. -/
def shardRoomCard : Claim7 := { stood := { row := shardRoomRow, standIns := [], harness := (true, "0d0dff402a5f88aeebcce3b21d0f0867da6e6635af83a4af9d1f7fe8dbe80b2e"), looks := true }, kinds := [], alts := [], laidByText := true, laidKinds := [.data, .data, .data, .data], laidTests := true, laidLooks := .later }
def ShardRoomCardSaid : Prop := Claim7.holds Tryz.pinned (.plain (OpenSpec.ofChange shardRoomSpec)) shardRoomCard

/-- THE TIED CARD OF 'joinerylaw10.ShardLease'. -/
def shardLeaseCard : Claim7 := { stood := { row := shardLeaseRow, standIns := [], harness := (true, "0d0dff402a5f88aeebcce3b21d0f0867da6e6635af83a4af9d1f7fe8dbe80b2e"), looks := true }, kinds := [], alts := [], laidByText := true, laidKinds := [.data, .data, .data, .data], laidTests := true, laidLooks := .later }
def ShardLeaseCardSaid : Prop := Claim7.holds Tryz.pinned (.plain (OpenSpec.ofChange shardLeaseSpec)) shardLeaseCard

/-- THE TIED CARD OF 'joinerylaw10.ShardAsks'. -/
def shardAsksCard : Claim7 := { stood := { row := shardAsksRow, standIns := [], harness := (true, "0d0dff402a5f88aeebcce3b21d0f0867da6e6635af83a4af9d1f7fe8dbe80b2e"), looks := true }, kinds := [], alts := [], laidByText := true, laidKinds := [.data, .data, .data, .data], laidTests := true, laidLooks := .later }
def ShardAsksCardSaid : Prop := Claim7.holds Tryz.pinned (.plain (OpenSpec.ofChange shardAsksSpec)) shardAsksCard

/-- THE TIED CARD OF 'joinerylaw10.ShardRefuses'. -/
def shardRefusesCard : Claim7 := { stood := { row := shardRefusesRow, standIns := [], harness := (true, "0d0dff402a5f88aeebcce3b21d0f0867da6e6635af83a4af9d1f7fe8dbe80b2e"), looks := true }, kinds := [], alts := [], laidByText := true, laidKinds := [.data, .data, .data, .data], laidTests := true, laidLooks := .later }
def ShardRefusesCardSaid : Prop := Claim7.holds Tryz.pinned (.plain (OpenSpec.ofChange shardRefusesSpec)) shardRefusesCard

/-- THE SECOND FORM's CARD OF 'joinerylaw10.ShardPlays'. -/
def shardPlaysUptoCard : Claim7 := { stood := { row := shardPlaysUptoRow, standIns := [], harness := (true, "0d0dff402a5f88aeebcce3b21d0f0867da6e6635af83a4af9d1f7fe8dbe80b2e"), looks := true }, kinds := [], alts := [], laidByText := true, laidKinds := [.data, .data, .data, .data], laidTests := true, laidLooks := .later }
def ShardPlaysUptoCardSaid : Prop := Claim7.holds Tryz.pinned (.plain (OpenSpec.upto shardPlaysSpec)) shardPlaysUptoCard

/-- THE SECOND FORM's CARD OF 'joinerylaw10.ShardKeeps'. -/
def shardKeepsUptoCard : Claim7 := { stood := { row := shardKeepsUptoRow, standIns := [], harness := (true, "0d0dff402a5f88aeebcce3b21d0f0867da6e6635af83a4af9d1f7fe8dbe80b2e"), looks := true }, kinds := [], alts := [], laidByText := true, laidKinds := [.data, .data, .data, .data], laidTests := true, laidLooks := .later }
def ShardKeepsUptoCardSaid : Prop := Claim7.holds Tryz.pinned (.plain (OpenSpec.upto shardKeepsSpec)) shardKeepsUptoCard

/-- THE SECOND FORM's CARD OF 'joinerylaw10.ShardRoom'. -/
def shardRoomUptoCard : Claim7 := { stood := { row := shardRoomUptoRow, standIns := [], harness := (true, "0d0dff402a5f88aeebcce3b21d0f0867da6e6635af83a4af9d1f7fe8dbe80b2e"), looks := true }, kinds := [], alts := [], laidByText := true, laidKinds := [.data, .data, .data, .data], laidTests := true, laidLooks := .later }
def ShardRoomUptoCardSaid : Prop := Claim7.holds Tryz.pinned (.plain (OpenSpec.upto shardRoomSpec)) shardRoomUptoCard

/-- THE SECOND FORM's CARD OF 'joinerylaw10.ShardLease'. -/
def shardLeaseUptoCard : Claim7 := { stood := { row := shardLeaseUptoRow, standIns := [], harness := (true, "0d0dff402a5f88aeebcce3b21d0f0867da6e6635af83a4af9d1f7fe8dbe80b2e"), looks := true }, kinds := [], alts := [], laidByText := true, laidKinds := [.data, .data, .data, .data], laidTests := true, laidLooks := .later }
def ShardLeaseUptoCardSaid : Prop := Claim7.holds Tryz.pinned (.plain (OpenSpec.upto shardLeaseSpec)) shardLeaseUptoCard

/-- THE SECOND FORM's CARD OF 'joinerylaw10.ShardAsks'. -/
def shardAsksUptoCard : Claim7 := { stood := { row := shardAsksUptoRow, standIns := [], harness := (true, "0d0dff402a5f88aeebcce3b21d0f0867da6e6635af83a4af9d1f7fe8dbe80b2e"), looks := true }, kinds := [], alts := [], laidByText := true, laidKinds := [.data, .data, .data, .data], laidTests := true, laidLooks := .later }
def ShardAsksUptoCardSaid : Prop := Claim7.holds Tryz.pinned (.plain (OpenSpec.upto shardAsksSpec)) shardAsksUptoCard

/-- THE SECOND FORM's CARD OF 'joinerylaw10.ShardRefuses'. -/
def shardRefusesUptoCard : Claim7 := { stood := { row := shardRefusesUptoRow, standIns := [], harness := (true, "0d0dff402a5f88aeebcce3b21d0f0867da6e6635af83a4af9d1f7fe8dbe80b2e"), looks := true }, kinds := [], alts := [], laidByText := true, laidKinds := [.data, .data, .data, .data], laidTests := true, laidLooks := .later }
def ShardRefusesUptoCardSaid : Prop := Claim7.holds Tryz.pinned (.plain (OpenSpec.upto shardRefusesSpec)) shardRefusesUptoCard
end Rows
end Go.Proofs.YthneemgpifbehaaGreatDoor
