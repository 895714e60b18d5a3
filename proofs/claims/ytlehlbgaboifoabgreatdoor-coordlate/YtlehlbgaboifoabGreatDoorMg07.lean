/- The name of the table of tens, off the rows' own list. -/
import Derived.Test.YtlehlbgaboifoabGreatDoorProg
import Derived.Test.YtlehlbgaboifoabGreatDoorRows
import Derived.Lib.AppendIntMem
namespace Go.Proofs
open Go.RowKit
/-- What the rows list. -/
def Tryz.laidL : List (String × DataW Unit) := YtlehlbgaboifoabGreatDoor.Rows.coordErrsRow.laid
/-- The table of tens. -/
def Tryz.powName : String := (Tryz.laidL.map (fun x => x.1)).getD 2 default
/-- The table of tens is there, whatever the call does from B on. -/
def TabB (B : Nat) (w : World) : Prop := Lib.TabBelow Tryz.prog B w Tryz.powName .u64 Lib.pow10Tab
theorem TabB.here {B : Nat} {w : World} (h : TabB B w) : Lib.TabIs Tryz.prog w Tryz.powName .u64 Lib.pow10Tab := Lib.TabBelow.here h
theorem TabB.on {B : Nat} {w w1 : World} (h : TabB B w) (hb : Below B w w1) : TabB B w1 := Lib.TabBelow.on h hb
theorem TabB.new {w : World} (h : Lib.TabIs Tryz.prog w Tryz.powName .u64 Lib.pow10Tab) : TabB w.heap.size w := Lib.tabBelow_of_tabIs h
theorem TabB.up {B C : Nat} {w : World} (h : TabB B w) (hBC : B ≤ C) : TabB C w := fun w' hb => h w' (hb.mono hBC)
theorem TabB.later {B : Nat} {w w1 : World} (h : TabB B w) (hb : Below w.heap.size w w1) (hB : B ≤ w.heap.size) : TabB B w1 := h.on (hb.mono hB)
end Go.Proofs
