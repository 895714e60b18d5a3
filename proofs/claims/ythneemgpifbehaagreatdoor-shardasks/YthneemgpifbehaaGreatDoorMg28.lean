/- The library's Delete, laid at this program: each function's body is held against the one that the library's contract was proved of. -/
import Derived.Shelf.SlGeneric
import Derived.Shelf.SlicesE.Delete
import Derived.Ground.SlgnProg
import Derived.Test.YthneemgpifbehaaGreatDoorProg
namespace Go.Proofs
open Go.Shelf
def Tryz.deleteA_ren : Go.Shelf.Ren := ⟨fun | 45 => 110 | n => n, fun | 22 => 100 | 23 => 20 | 3 => 3 | 4 => 4 | 0 => 0 | n => n, fun | n => n⟩
theorem Tryz.deleteA : Go.Proofs.SlLaysE.n45 Tryz.prog Tryz.deleteA_ren := {
  mixed := by kernel_rfl
  f45 := ⟨Tryz.f110.name, by decide, Tryz.func110.trans (congrArg some (by kernel_rfl))⟩
  t0 := Tryz.underlying0
  a0 := Tryz.isAgg0
  z0 := Tryz.sizeOf0
  v0 := Tryz.zeroValue0
  t3 := Tryz.underlying3
  a3 := Tryz.isAgg3
  z3 := Tryz.sizeOf3
  v3 := Tryz.zeroValue3
  t4 := Tryz.underlying4
  a4 := Tryz.isAgg4
  z4 := Tryz.sizeOf4
  v4 := Tryz.zeroValue4
  t22 := Tryz.underlying100
  a22 := Tryz.isAgg100
  z22 := Tryz.sizeOf100
  v22 := Tryz.zeroValue100
  a23 := Tryz.isAgg20
  z23 := Tryz.sizeOf20 }
end Go.Proofs
