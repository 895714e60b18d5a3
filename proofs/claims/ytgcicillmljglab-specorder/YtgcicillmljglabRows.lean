/-
  No cell of these rows narrows 'for every input' (looked for: loops, veiled, ifaces, maps, wideKeys, modest, calm, conditions, laid).
  DERIVED. THE GIVEN ROWS OF THIS SEAT. 3 by the template 'for every input the law returns true; each argument reads behind the call as it read before'; 0 by the template 'total and deterministic' (their statements: YtgcicillmljglabTotals.lean).
  GIVEN WITH THE SEED: the statements are not yours to turn. If you find one false, say at which input.
  Laid BY PROGRAM, IN A SANDBOX (cutbox-rows.mjs): the forced cells as the released guide's own fill.sh prints them over the translation 86a0c4b486e057d9… (all of the seat's roots in one cut). By AI agents, Wed Nov 11 2026. No macro, syntax, notation, axiom, sorry.
-/
import Derived.Test.YtgcicillmljglabChecked
import GoSem.Claim
import GoSem.ClaimJoined
import GoSem.ClaimMapViews
import Derived.JoinedTies
import Derived.KernelRfl
namespace Go.Proofs.Ytgcicillmljglab
/- THE CELL 'sum', in the pinned program and in every row, IS THE sha256 OF THE DUMP (.gsa) THAT YtgcicillmljglabProg.lean LOADS. Nothing in Lean hashes anything: it is a label: what it is worth is what the hold of that sum in a sandbox is worth. -/
noncomputable def Try.pinned : Pinned := { name := "ytgcicillmljglab", sum := "86a0c4b486e057d9d496bebacc1ce05a7d6327cb94e0d2015ba232bca20f1321", checked := Try.checked }
namespace Rows
def none {H : Type} : Left H := { results := [], args := [] }

/-- 'joinerylaw3.SpecEnds': WHATEVER THE INPUT: true; the input reads as it did. -/
def specEndsSpec : ChangeSpec := { name := "specEnds", fn := fun _ => fun
  | [d1, d2] => { results := [.lit (.bool true)], args := [d1, d2] }
  | _ => none }
def specEndsRow : OpenClaim := { program := "ytgcicillmljglab", sum := "86a0c4b486e057d9d496bebacc1ce05a7d6327cb94e0d2015ba232bca20f1321", func := "joinery/joinerylaw3.SpecEnds", spec := "specEnds", recurses := true, apart := false }
def SpecEndsSaid : Prop := specEndsRow.holds Try.pinned (OpenSpec.ofChange specEndsSpec)

/-- ITS FALSE NEIGHBOUR: 'it returns false'. Refute it at one input. -/
def specEndsWrong : ChangeSpec := { name := "specEnds", fn := fun _ => fun
  | [d1, d2] => { results := [.lit (.bool false)], args := [d1, d2] }
  | _ => none }
def SpecEndsWrongFalsely : Prop := specEndsRow.holds Try.pinned (OpenSpec.ofChange specEndsWrong)

/-- 'joinerylaw3.SpecEight': WHATEVER THE INPUT: true; the input reads as it did. -/
def specEightSpec : ChangeSpec := { name := "specEight", fn := fun _ => fun
  | [d1, d2, d3] => { results := [.lit (.bool true)], args := [d1, d2, d3] }
  | _ => none }
def specEightRow : OpenClaim := { program := "ytgcicillmljglab", sum := "86a0c4b486e057d9d496bebacc1ce05a7d6327cb94e0d2015ba232bca20f1321", func := "joinery/joinerylaw3.SpecEight", spec := "specEight", recurses := true, apart := false }
def SpecEightSaid : Prop := specEightRow.holds Try.pinned (OpenSpec.ofChange specEightSpec)

/-- ITS FALSE NEIGHBOUR: 'it returns false'. Refute it at one input. -/
def specEightWrong : ChangeSpec := { name := "specEight", fn := fun _ => fun
  | [d1, d2, d3] => { results := [.lit (.bool false)], args := [d1, d2, d3] }
  | _ => none }
def SpecEightWrongFalsely : Prop := specEightRow.holds Try.pinned (OpenSpec.ofChange specEightWrong)

/-- 'joinerylaw3.SpecOrder': WHATEVER THE INPUT: true; the input reads as it did. -/
def specOrderSpec : ChangeSpec := { name := "specOrder", fn := fun _ => fun
  | [d] => { results := [.lit (.bool true)], args := [d] }
  | _ => none }
def specOrderRow : OpenClaim := { program := "ytgcicillmljglab", sum := "86a0c4b486e057d9d496bebacc1ce05a7d6327cb94e0d2015ba232bca20f1321", func := "joinery/joinerylaw3.SpecOrder", spec := "specOrder", recurses := true, apart := false }
def SpecOrderSaid : Prop := specOrderRow.holds Try.pinned (OpenSpec.ofChange specOrderSpec)

/-- ITS FALSE NEIGHBOUR: 'it returns false'. Refute it at one input. -/
def specOrderWrong : ChangeSpec := { name := "specOrder", fn := fun _ => fun
  | [d] => { results := [.lit (.bool false)], args := [d] }
  | _ => none }
def SpecOrderWrongFalsely : Prop := specOrderRow.holds Try.pinned (OpenSpec.ofChange specOrderWrong)

/- THE SECOND FORM. 'bulk': how many values and letters a reading holds, each counted each time it is reached (what is shared counts as often as it is met; a slice's spare places count too). A statement '..UptoSaid' is the law's where the arguments, and the package variables that the reading takes, are together of bulk at most 1048576: NARROWER than '..Said'. Prove '..Said' where nothing that the law and all that it calls make is longer than what came in: it says more and counts as full. Else prove '..UptoSaid'. A law counts once. -/
mutual
def uptoBulk {H : Type} : DataW H → Nat
  | .lit (.string bytes) => bytes.length + 1
  | .lit _ => 1
  | .nil => 1
  | .ptr d => uptoBulk d + 1
  | .slice elems spare => uptoBulkAll elems + uptoBulkAll spare + 1
  | .agg parts => uptoBulkAll parts + 1
  | .iface _ d => uptoBulk d + 1
  | .map entries => uptoBulkEntries entries + 1
  | .held _ => 1
def uptoBulkAll {H : Type} : List (DataW H) → Nat
  | [] => 0
  | d :: r => uptoBulk d + uptoBulkAll r
def uptoBulkEntries {H : Type} : List (Lit × DataW H) → Nat
  | [] => 0
  | x :: r => uptoBulkEntry x + uptoBulkEntries r
def uptoBulkEntry {H : Type} : Lit × DataW H → Nat
  | (.string bytes, d) => bytes.length + uptoBulk d + 1
  | (_, d) => uptoBulk d + 1
 end
def uptoSmall : (H : Type) → List (DataW H) → Bool := fun _ ds => decide (uptoBulkAll ds ≤ 1048576)
def OpenSpec.upto (s : _root_.Go.ChangeSpec) : _root_.Go.OpenSpec := { _root_.Go.OpenSpec.ofChange s with cond := some uptoSmall }

/-- 'joinerylaw3.SpecEnds', WHERE WHAT IT READS IS OF BULK AT MOST 1048576: true; the input reads as it did. -/
def specEndsUptoRow : OpenClaim := { program := "ytgcicillmljglab", sum := "86a0c4b486e057d9d496bebacc1ce05a7d6327cb94e0d2015ba232bca20f1321", func := "joinery/joinerylaw3.SpecEnds", spec := "specEnds", recurses := true, apart := false, narrowed := true }
def SpecEndsUptoSaid : Prop := specEndsUptoRow.holds Try.pinned (OpenSpec.upto specEndsSpec)

/-- 'joinerylaw3.SpecEight', WHERE WHAT IT READS IS OF BULK AT MOST 1048576: true; the input reads as it did. -/
def specEightUptoRow : OpenClaim := { program := "ytgcicillmljglab", sum := "86a0c4b486e057d9d496bebacc1ce05a7d6327cb94e0d2015ba232bca20f1321", func := "joinery/joinerylaw3.SpecEight", spec := "specEight", recurses := true, apart := false, narrowed := true }
def SpecEightUptoSaid : Prop := specEightUptoRow.holds Try.pinned (OpenSpec.upto specEightSpec)

/-- 'joinerylaw3.SpecOrder', WHERE WHAT IT READS IS OF BULK AT MOST 1048576: true; the input reads as it did. -/
def specOrderUptoRow : OpenClaim := { program := "ytgcicillmljglab", sum := "86a0c4b486e057d9d496bebacc1ce05a7d6327cb94e0d2015ba232bca20f1321", func := "joinery/joinerylaw3.SpecOrder", spec := "specOrder", recurses := true, apart := false, narrowed := true }
def SpecOrderUptoSaid : Prop := specOrderUptoRow.holds Try.pinned (OpenSpec.upto specOrderSpec)

end Rows
end Go.Proofs.Ytgcicillmljglab
