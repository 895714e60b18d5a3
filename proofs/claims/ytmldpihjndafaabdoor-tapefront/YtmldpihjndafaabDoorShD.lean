/- The library's Delete, laid at this program: each function's body is held against the one that the library's contract was proved of. -/
import Derived.Shelf.SlGeneric
import Derived.Shelf.SlicesE.Delete
import Derived.Ground.SlgnProg
import Derived.Test.YtmldpihjndafaabDoorProg
namespace Go.Proofs
open Go.Shelf
def Tryd.deleteA_ren : Go.Shelf.Ren := ⟨fun | 45 => 34 | n => n, fun | 22 => 45 | 23 => 20 | 3 => 3 | 4 => 4 | 0 => 0 | n => n, fun | n => n⟩
theorem Tryd.deleteA : Go.Proofs.SlLaysE.n45 Tryd.prog Tryd.deleteA_ren := {
  mixed := by kernel_rfl
  f45 := ⟨Tryd.f34.name, by decide, Tryd.func34.trans (congrArg some (by kernel_rfl))⟩
  t0 := Tryd.underlying0
  a0 := Tryd.isAgg0
  z0 := Tryd.sizeOf0
  v0 := Tryd.zeroValue0
  t3 := Tryd.underlying3
  a3 := Tryd.isAgg3
  z3 := Tryd.sizeOf3
  v3 := Tryd.zeroValue3
  t4 := Tryd.underlying4
  a4 := Tryd.isAgg4
  z4 := Tryd.sizeOf4
  v4 := Tryd.zeroValue4
  t22 := Tryd.underlying45
  a22 := Tryd.isAgg45
  z22 := Tryd.sizeOf45
  v22 := Tryd.zeroValue45
  a23 := Tryd.isAgg20
  z23 := Tryd.sizeOf20 }
end Go.Proofs
