/- What the listed tables give the walks: the table of tens. -/
import Derived.Test.YtlehlbgaboifoabGreatDoorMg07
import Derived.ProofKit
import Derived.LaidMore
import Derived.OpenShut
import Derived.Deep.Strs
import Derived.Stop.Joined
import Derived.Stop.LaidErr
import Derived.Lib.LaidTab
namespace Go.Proofs.YtlehlbgaboifoabGreatDoor
set_option maxRecDepth 100000
open Go.ChangeShapes Go.WideShapes Go.ChangeAt Go.WideMaps Go.WideElems Go.RowKit

/-- The list of the rows. -/
abbrev laidT : List (String × DataW Unit) := Rows.coordErrsRow.laid

theorem gPow : Tryz.prog.globalNamed Tryz.powName = some 0 := by kernel_rfl
theorem tPow : (Tryz.prog.globals[0]?).map (·.type) = some 275 := by kernel_rfl
theorem cU64 : Tryz.prog.cellsOf 189 = 1 := by kernel_rfl
theorem cPow : Tryz.prog.cellsOf 275 = 20 := by kernel_rfl

/-- The door's own heap meets the condition. -/
theorem door_met (os : Os) (args : Array Value) : laidMetH Tryz.prog laidT ((World.doorLaid Tryz.prog 400 os).forCall (fun _ _ => 0) ⟨#[], args, []⟩).memory :=
  laidMetH_of_parts3 (fuel := 8) (laidMet_of_run' 8 (by kernel_rfl) (by kernel_rfl)) (by kernel_rfl) (by kernel_rfl)

/-- What the condition gives the walks. -/
theorem tab_of_laid {W : World} (h : laidMetH Tryz.prog laidT W) : TabB W.heap.size W := by
  rw [MakeChecks.laidMetH_plain _ _ _ (by kernel_rfl)] at h
  have h2 : laidMet Tryz.prog [(Tryz.powName, Lib.tabData .u64 Lib.pow10Tab)] W := laidMet.tail (laidMet.tail h)
  exact TabB.new (Lib.tabIs_of_head gPow tPow Tryz.underlying275 Tryz.underlying189 cU64 cPow h2)

end Go.Proofs.YtlehlbgaboifoabGreatDoor
