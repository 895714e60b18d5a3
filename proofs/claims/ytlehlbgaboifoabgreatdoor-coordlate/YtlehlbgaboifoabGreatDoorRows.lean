/-
  NARROWER THAN 'FOR EVERY INPUT', by the rows' own cells (each row's printed sentence says how): CoordRepeats: laid · CoordStray: laid · CoordFrees: laid · CoordSlices: laid · CoordErrs: laid · CoordLate: laid.
  DERIVED. THE GIVEN ROWS OF THIS SEAT. 6 by the template 'for every input the law returns true; each argument reads behind the call as it read before'; 0 by the template 'total and deterministic' (their statements: YtlehlbgaboifoabGreatDoorTotals.lean).
  GIVEN WITH THE SEED: the statements are not yours to turn. If you find one false, say at which input.
  Laid BY PROGRAM, IN A SANDBOX (cutbox-rows.mjs): the forced cells as the released guide's own fill.sh prints them over the translation 9e9f788a56ee6dad… (all of the seat's roots in one cut). By AI agents, Wed Nov 11 2026. No macro, syntax, notation, axiom, sorry.
-/
import Derived.Test.YtlehlbgaboifoabGreatDoorChecked
import GoSem.Claim
import GoSem.ClaimJoined
import GoSem.ClaimMapViews
import Derived.JoinedTies
import Derived.KernelRfl
namespace Go.Proofs.YtlehlbgaboifoabGreatDoor
/- THE CELL 'sum', in the pinned program and in every row, IS THE sha256 OF THE DUMP (.gsa) THAT YtlehlbgaboifoabGreatDoorProg.lean LOADS. Nothing in Lean hashes anything: it is a label: what it is worth is what the hold of that sum in a sandbox is worth. -/
noncomputable def Tryz.pinned : Pinned := { name := "ytlehlbgaboifoabgreatdoor", sum := "9e9f788a56ee6dad9ffbf224ad77b171f0df754fd9897a3ee0ac5bb4a66f87bc", checked := Tryz.checked }
namespace Rows
def none {H : Type} : Left H := { results := [], args := [] }

/- WHAT THE LISTED PACKAGE-LEVEL VARIABLES READ AS WHEN THE CALL BEGINS. Each datum BY PROGRAM (the guide's laid-datum.mjs) off the statement by which the dump's own 'gosem.cut.vars' lays the variable. In a bare row this is a premise. The card (YtlehlbgaboifoabGreatDoorCards.lean) ties it to the program's text. -/
def laid_math_bits_deBruijn32tab {H : Type} : DataW H := .agg [.lit (.int .u8 0), .lit (.int .u8 1), .lit (.int .u8 28), .lit (.int .u8 2), .lit (.int .u8 29), .lit (.int .u8 14), .lit (.int .u8 24), .lit (.int .u8 3), .lit (.int .u8 30), .lit (.int .u8 22), .lit (.int .u8 20), .lit (.int .u8 15), .lit (.int .u8 25), .lit (.int .u8 17), .lit (.int .u8 4), .lit (.int .u8 8), .lit (.int .u8 31), .lit (.int .u8 27), .lit (.int .u8 13), .lit (.int .u8 23), .lit (.int .u8 21), .lit (.int .u8 19), .lit (.int .u8 16), .lit (.int .u8 7), .lit (.int .u8 26), .lit (.int .u8 12), .lit (.int .u8 18), .lit (.int .u8 6), .lit (.int .u8 11), .lit (.int .u8 5), .lit (.int .u8 10), .lit (.int .u8 9)]
def laid_math_bits_deBruijn64tab {H : Type} : DataW H := .agg [.lit (.int .u8 0), .lit (.int .u8 1), .lit (.int .u8 56), .lit (.int .u8 2), .lit (.int .u8 57), .lit (.int .u8 49), .lit (.int .u8 28), .lit (.int .u8 3), .lit (.int .u8 61), .lit (.int .u8 58), .lit (.int .u8 42), .lit (.int .u8 50), .lit (.int .u8 38), .lit (.int .u8 29), .lit (.int .u8 17), .lit (.int .u8 4), .lit (.int .u8 62), .lit (.int .u8 47), .lit (.int .u8 59), .lit (.int .u8 36), .lit (.int .u8 45), .lit (.int .u8 43), .lit (.int .u8 51), .lit (.int .u8 22), .lit (.int .u8 53), .lit (.int .u8 39), .lit (.int .u8 33), .lit (.int .u8 30), .lit (.int .u8 24), .lit (.int .u8 18), .lit (.int .u8 12), .lit (.int .u8 5), .lit (.int .u8 63), .lit (.int .u8 55), .lit (.int .u8 48), .lit (.int .u8 27), .lit (.int .u8 60), .lit (.int .u8 41), .lit (.int .u8 37), .lit (.int .u8 16), .lit (.int .u8 46), .lit (.int .u8 35), .lit (.int .u8 44), .lit (.int .u8 21), .lit (.int .u8 52), .lit (.int .u8 32), .lit (.int .u8 23), .lit (.int .u8 11), .lit (.int .u8 54), .lit (.int .u8 26), .lit (.int .u8 40), .lit (.int .u8 15), .lit (.int .u8 34), .lit (.int .u8 20), .lit (.int .u8 31), .lit (.int .u8 10), .lit (.int .u8 25), .lit (.int .u8 14), .lit (.int .u8 19), .lit (.int .u8 9), .lit (.int .u8 13), .lit (.int .u8 8), .lit (.int .u8 7), .lit (.int .u8 6)]
def laid_internal_strconv_uint64pow10 {H : Type} : DataW H := .agg [.lit (.int .u64 1), .lit (.int .u64 10), .lit (.int .u64 100), .lit (.int .u64 1000), .lit (.int .u64 10000), .lit (.int .u64 100000), .lit (.int .u64 1000000), .lit (.int .u64 10000000), .lit (.int .u64 100000000), .lit (.int .u64 1000000000), .lit (.int .u64 10000000000), .lit (.int .u64 100000000000), .lit (.int .u64 1000000000000), .lit (.int .u64 10000000000000), .lit (.int .u64 100000000000000), .lit (.int .u64 1000000000000000), .lit (.int .u64 10000000000000000), .lit (.int .u64 100000000000000000), .lit (.int .u64 1000000000000000000), .lit (.int .u64 10000000000000000000)]

/-- 'joinerylaw11.CoordRepeats': WHATEVER THE INPUT: true; the input reads as it did. -/
def coordRepeatsSpec : ChangeSpec := { name := "coordRepeats", fn := fun _ => fun
  | [d1, d2, d3] => { results := [.lit (.bool true)], args := [d1, d2, d3] }
  | _ => none }
def coordRepeatsRow : OpenClaim := { program := "ytlehlbgaboifoabgreatdoor", sum := "9e9f788a56ee6dad9ffbf224ad77b171f0df754fd9897a3ee0ac5bb4a66f87bc", func := "joinery/joinerylaw11.CoordRepeats", spec := "coordRepeats", inPlace := ["internal/abi.NoEscape"], unfollowed := true, recurses := true, named := ["internal/strconv.uint64pow10", "math/bits.deBruijn32tab", "math/bits.deBruijn64tab"], apart := false, laid := [("math/bits.deBruijn32tab", laid_math_bits_deBruijn32tab), ("math/bits.deBruijn64tab", laid_math_bits_deBruijn64tab), ("internal/strconv.uint64pow10", laid_internal_strconv_uint64pow10)] }
def CoordRepeatsSaid : Prop := coordRepeatsRow.holds Tryz.pinned (OpenSpec.ofChange coordRepeatsSpec)

/-- ITS FALSE NEIGHBOUR: 'it returns false'. Refute it at one input. -/
def coordRepeatsWrong : ChangeSpec := { name := "coordRepeats", fn := fun _ => fun
  | [d1, d2, d3] => { results := [.lit (.bool false)], args := [d1, d2, d3] }
  | _ => none }
def CoordRepeatsWrongFalsely : Prop := coordRepeatsRow.holds Tryz.pinned (OpenSpec.ofChange coordRepeatsWrong)

/-- 'joinerylaw11.CoordStray': WHATEVER THE INPUT: true; the input reads as it did. -/
def coordStraySpec : ChangeSpec := { name := "coordStray", fn := fun _ => fun
  | [d1, d2, d3] => { results := [.lit (.bool true)], args := [d1, d2, d3] }
  | _ => none }
def coordStrayRow : OpenClaim := { program := "ytlehlbgaboifoabgreatdoor", sum := "9e9f788a56ee6dad9ffbf224ad77b171f0df754fd9897a3ee0ac5bb4a66f87bc", func := "joinery/joinerylaw11.CoordStray", spec := "coordStray", inPlace := ["internal/abi.NoEscape"], unfollowed := true, recurses := true, named := ["internal/strconv.uint64pow10", "math/bits.deBruijn32tab", "math/bits.deBruijn64tab"], apart := false, laid := [("math/bits.deBruijn32tab", laid_math_bits_deBruijn32tab), ("math/bits.deBruijn64tab", laid_math_bits_deBruijn64tab), ("internal/strconv.uint64pow10", laid_internal_strconv_uint64pow10)] }
def CoordStraySaid : Prop := coordStrayRow.holds Tryz.pinned (OpenSpec.ofChange coordStraySpec)

/-- ITS FALSE NEIGHBOUR: 'it returns false'. Refute it at one input. -/
def coordStrayWrong : ChangeSpec := { name := "coordStray", fn := fun _ => fun
  | [d1, d2, d3] => { results := [.lit (.bool false)], args := [d1, d2, d3] }
  | _ => none }
def CoordStrayWrongFalsely : Prop := coordStrayRow.holds Tryz.pinned (OpenSpec.ofChange coordStrayWrong)

/-- 'joinerylaw11.CoordFrees': WHATEVER THE INPUT: true; the input reads as it did. -/
def coordFreesSpec : ChangeSpec := { name := "coordFrees", fn := fun _ => fun
  | [d] => { results := [.lit (.bool true)], args := [d] }
  | _ => none }
def coordFreesRow : OpenClaim := { program := "ytlehlbgaboifoabgreatdoor", sum := "9e9f788a56ee6dad9ffbf224ad77b171f0df754fd9897a3ee0ac5bb4a66f87bc", func := "joinery/joinerylaw11.CoordFrees", spec := "coordFrees", inPlace := ["internal/abi.NoEscape"], unfollowed := true, recurses := true, named := ["internal/strconv.uint64pow10", "math/bits.deBruijn32tab", "math/bits.deBruijn64tab"], apart := false, laid := [("math/bits.deBruijn32tab", laid_math_bits_deBruijn32tab), ("math/bits.deBruijn64tab", laid_math_bits_deBruijn64tab), ("internal/strconv.uint64pow10", laid_internal_strconv_uint64pow10)] }
def CoordFreesSaid : Prop := coordFreesRow.holds Tryz.pinned (OpenSpec.ofChange coordFreesSpec)

/-- ITS FALSE NEIGHBOUR: 'it returns false'. Refute it at one input. -/
def coordFreesWrong : ChangeSpec := { name := "coordFrees", fn := fun _ => fun
  | [d] => { results := [.lit (.bool false)], args := [d] }
  | _ => none }
def CoordFreesWrongFalsely : Prop := coordFreesRow.holds Tryz.pinned (OpenSpec.ofChange coordFreesWrong)

/-- 'joinerylaw11.CoordSlices': WHATEVER THE INPUT: true; the input reads as it did. -/
def coordSlicesSpec : ChangeSpec := { name := "coordSlices", fn := fun _ => fun
  | [d1, d2] => { results := [.lit (.bool true)], args := [d1, d2] }
  | _ => none }
def coordSlicesRow : OpenClaim := { program := "ytlehlbgaboifoabgreatdoor", sum := "9e9f788a56ee6dad9ffbf224ad77b171f0df754fd9897a3ee0ac5bb4a66f87bc", func := "joinery/joinerylaw11.CoordSlices", spec := "coordSlices", inPlace := ["internal/abi.NoEscape"], unfollowed := true, recurses := true, named := ["internal/strconv.uint64pow10", "math/bits.deBruijn32tab", "math/bits.deBruijn64tab"], apart := false, laid := [("math/bits.deBruijn32tab", laid_math_bits_deBruijn32tab), ("math/bits.deBruijn64tab", laid_math_bits_deBruijn64tab), ("internal/strconv.uint64pow10", laid_internal_strconv_uint64pow10)] }
def CoordSlicesSaid : Prop := coordSlicesRow.holds Tryz.pinned (OpenSpec.ofChange coordSlicesSpec)

/-- ITS FALSE NEIGHBOUR: 'it returns false'. Refute it at one input. -/
def coordSlicesWrong : ChangeSpec := { name := "coordSlices", fn := fun _ => fun
  | [d1, d2] => { results := [.lit (.bool false)], args := [d1, d2] }
  | _ => none }
def CoordSlicesWrongFalsely : Prop := coordSlicesRow.holds Tryz.pinned (OpenSpec.ofChange coordSlicesWrong)

/-- 'joinerylaw11.CoordErrs': WHATEVER THE INPUT: true; the input reads as it did. -/
def coordErrsSpec : ChangeSpec := { name := "coordErrs", fn := fun _ => fun
  | [d1, d2] => { results := [.lit (.bool true)], args := [d1, d2] }
  | _ => none }
def coordErrsRow : OpenClaim := { program := "ytlehlbgaboifoabgreatdoor", sum := "9e9f788a56ee6dad9ffbf224ad77b171f0df754fd9897a3ee0ac5bb4a66f87bc", func := "joinery/joinerylaw11.CoordErrs", spec := "coordErrs", inPlace := ["internal/abi.NoEscape"], unfollowed := true, recurses := true, named := ["internal/strconv.uint64pow10", "math/bits.deBruijn32tab", "math/bits.deBruijn64tab"], apart := false, laid := [("math/bits.deBruijn32tab", laid_math_bits_deBruijn32tab), ("math/bits.deBruijn64tab", laid_math_bits_deBruijn64tab), ("internal/strconv.uint64pow10", laid_internal_strconv_uint64pow10)] }
def CoordErrsSaid : Prop := coordErrsRow.holds Tryz.pinned (OpenSpec.ofChange coordErrsSpec)

/-- ITS FALSE NEIGHBOUR: 'it returns false'. Refute it at one input. -/
def coordErrsWrong : ChangeSpec := { name := "coordErrs", fn := fun _ => fun
  | [d1, d2] => { results := [.lit (.bool false)], args := [d1, d2] }
  | _ => none }
def CoordErrsWrongFalsely : Prop := coordErrsRow.holds Tryz.pinned (OpenSpec.ofChange coordErrsWrong)

/-- 'joinerylaw11.CoordLate': WHATEVER THE INPUT: true; the input reads as it did. -/
def coordLateSpec : ChangeSpec := { name := "coordLate", fn := fun _ => fun
  | [d1, d2, d3, d4, d5] => { results := [.lit (.bool true)], args := [d1, d2, d3, d4, d5] }
  | _ => none }
def coordLateRow : OpenClaim := { program := "ytlehlbgaboifoabgreatdoor", sum := "9e9f788a56ee6dad9ffbf224ad77b171f0df754fd9897a3ee0ac5bb4a66f87bc", func := "joinery/joinerylaw11.CoordLate", spec := "coordLate", inPlace := ["internal/abi.NoEscape"], unfollowed := true, recurses := true, named := ["internal/strconv.uint64pow10", "math/bits.deBruijn32tab", "math/bits.deBruijn64tab"], apart := false, laid := [("math/bits.deBruijn32tab", laid_math_bits_deBruijn32tab), ("math/bits.deBruijn64tab", laid_math_bits_deBruijn64tab), ("internal/strconv.uint64pow10", laid_internal_strconv_uint64pow10)] }
def CoordLateSaid : Prop := coordLateRow.holds Tryz.pinned (OpenSpec.ofChange coordLateSpec)

/-- ITS FALSE NEIGHBOUR: 'it returns false'. Refute it at one input. -/
def coordLateWrong : ChangeSpec := { name := "coordLate", fn := fun _ => fun
  | [d1, d2, d3, d4, d5] => { results := [.lit (.bool false)], args := [d1, d2, d3, d4, d5] }
  | _ => none }
def CoordLateWrongFalsely : Prop := coordLateRow.holds Tryz.pinned (OpenSpec.ofChange coordLateWrong)

/- THE SECOND FORM. 'bulk': how many values and letters a reading holds, each counted each time it is reached (what is shared counts as often as it is met; a slice's spare places count too). A statement '..UptoSaid' is the law's where the arguments, and the package variables that the reading takes, are together of bulk at most 1048576: NARROWER than '..Said'. Prove '..Said' where nothing that the law and all that it calls make is longer than what came in: it says more and counts as full. Else prove '..UptoSaid'. A law counts once. -/
mutual
def uptoBulk {H : Type} : DataW H → Nat
  | .lit (.string bytes) => bytes.length + 1
  | .lit _ => 1
  | .nil => 1
  | .ptr d => uptoBulk d + 1
  | .slice elems spare => uptoBulkAll elems + uptoBulkAll spare + 1
  | .agg parts => uptoBulkAll parts + 1
  | .iface _ d => uptoBulk d + 1
  | .map entries => uptoBulkEntries entries + 1
  | .held _ => 1
def uptoBulkAll {H : Type} : List (DataW H) → Nat
  | [] => 0
  | d :: r => uptoBulk d + uptoBulkAll r
def uptoBulkEntries {H : Type} : List (Lit × DataW H) → Nat
  | [] => 0
  | x :: r => uptoBulkEntry x + uptoBulkEntries r
def uptoBulkEntry {H : Type} : Lit × DataW H → Nat
  | (.string bytes, d) => bytes.length + uptoBulk d + 1
  | (_, d) => uptoBulk d + 1
 end
def uptoSmall : (H : Type) → List (DataW H) → Bool := fun _ ds => decide (uptoBulkAll ds ≤ 1048576)
def OpenSpec.upto (s : _root_.Go.ChangeSpec) : _root_.Go.OpenSpec := { _root_.Go.OpenSpec.ofChange s with cond := some uptoSmall }

/-- 'joinerylaw11.CoordRepeats', WHERE WHAT IT READS IS OF BULK AT MOST 1048576: true; the input reads as it did. -/
def coordRepeatsUptoRow : OpenClaim := { program := "ytlehlbgaboifoabgreatdoor", sum := "9e9f788a56ee6dad9ffbf224ad77b171f0df754fd9897a3ee0ac5bb4a66f87bc", func := "joinery/joinerylaw11.CoordRepeats", spec := "coordRepeats", inPlace := ["internal/abi.NoEscape"], unfollowed := true, recurses := true, named := ["internal/strconv.uint64pow10", "math/bits.deBruijn32tab", "math/bits.deBruijn64tab"], apart := false, laid := [("math/bits.deBruijn32tab", laid_math_bits_deBruijn32tab), ("math/bits.deBruijn64tab", laid_math_bits_deBruijn64tab), ("internal/strconv.uint64pow10", laid_internal_strconv_uint64pow10)], narrowed := true }
def CoordRepeatsUptoSaid : Prop := coordRepeatsUptoRow.holds Tryz.pinned (OpenSpec.upto coordRepeatsSpec)

/-- 'joinerylaw11.CoordStray', WHERE WHAT IT READS IS OF BULK AT MOST 1048576: true; the input reads as it did. -/
def coordStrayUptoRow : OpenClaim := { program := "ytlehlbgaboifoabgreatdoor", sum := "9e9f788a56ee6dad9ffbf224ad77b171f0df754fd9897a3ee0ac5bb4a66f87bc", func := "joinery/joinerylaw11.CoordStray", spec := "coordStray", inPlace := ["internal/abi.NoEscape"], unfollowed := true, recurses := true, named := ["internal/strconv.uint64pow10", "math/bits.deBruijn32tab", "math/bits.deBruijn64tab"], apart := false, laid := [("math/bits.deBruijn32tab", laid_math_bits_deBruijn32tab), ("math/bits.deBruijn64tab", laid_math_bits_deBruijn64tab), ("internal/strconv.uint64pow10", laid_internal_strconv_uint64pow10)], narrowed := true }
def CoordStrayUptoSaid : Prop := coordStrayUptoRow.holds Tryz.pinned (OpenSpec.upto coordStraySpec)

/-- 'joinerylaw11.CoordFrees', WHERE WHAT IT READS IS OF BULK AT MOST 1048576: true; the input reads as it did. -/
def coordFreesUptoRow : OpenClaim := { program := "ytlehlbgaboifoabgreatdoor", sum := "9e9f788a56ee6dad9ffbf224ad77b171f0df754fd9897a3ee0ac5bb4a66f87bc", func := "joinery/joinerylaw11.CoordFrees", spec := "coordFrees", inPlace := ["internal/abi.NoEscape"], unfollowed := true, recurses := true, named := ["internal/strconv.uint64pow10", "math/bits.deBruijn32tab", "math/bits.deBruijn64tab"], apart := false, laid := [("math/bits.deBruijn32tab", laid_math_bits_deBruijn32tab), ("math/bits.deBruijn64tab", laid_math_bits_deBruijn64tab), ("internal/strconv.uint64pow10", laid_internal_strconv_uint64pow10)], narrowed := true }
def CoordFreesUptoSaid : Prop := coordFreesUptoRow.holds Tryz.pinned (OpenSpec.upto coordFreesSpec)

/-- 'joinerylaw11.CoordSlices', WHERE WHAT IT READS IS OF BULK AT MOST 1048576: true; the input reads as it did. -/
def coordSlicesUptoRow : OpenClaim := { program := "ytlehlbgaboifoabgreatdoor", sum := "9e9f788a56ee6dad9ffbf224ad77b171f0df754fd9897a3ee0ac5bb4a66f87bc", func := "joinery/joinerylaw11.CoordSlices", spec := "coordSlices", inPlace := ["internal/abi.NoEscape"], unfollowed := true, recurses := true, named := ["internal/strconv.uint64pow10", "math/bits.deBruijn32tab", "math/bits.deBruijn64tab"], apart := false, laid := [("math/bits.deBruijn32tab", laid_math_bits_deBruijn32tab), ("math/bits.deBruijn64tab", laid_math_bits_deBruijn64tab), ("internal/strconv.uint64pow10", laid_internal_strconv_uint64pow10)], narrowed := true }
def CoordSlicesUptoSaid : Prop := coordSlicesUptoRow.holds Tryz.pinned (OpenSpec.upto coordSlicesSpec)

/-- 'joinerylaw11.CoordErrs', WHERE WHAT IT READS IS OF BULK AT MOST 1048576: true; the input reads as it did. -/
def coordErrsUptoRow : OpenClaim := { program := "ytlehlbgaboifoabgreatdoor", sum := "9e9f788a56ee6dad9ffbf224ad77b171f0df754fd9897a3ee0ac5bb4a66f87bc", func := "joinery/joinerylaw11.CoordErrs", spec := "coordErrs", inPlace := ["internal/abi.NoEscape"], unfollowed := true, recurses := true, named := ["internal/strconv.uint64pow10", "math/bits.deBruijn32tab", "math/bits.deBruijn64tab"], apart := false, laid := [("math/bits.deBruijn32tab", laid_math_bits_deBruijn32tab), ("math/bits.deBruijn64tab", laid_math_bits_deBruijn64tab), ("internal/strconv.uint64pow10", laid_internal_strconv_uint64pow10)], narrowed := true }
def CoordErrsUptoSaid : Prop := coordErrsUptoRow.holds Tryz.pinned (OpenSpec.upto coordErrsSpec)

/-- 'joinerylaw11.CoordLate', WHERE WHAT IT READS IS OF BULK AT MOST 1048576: true; the input reads as it did. -/
def coordLateUptoRow : OpenClaim := { program := "ytlehlbgaboifoabgreatdoor", sum := "9e9f788a56ee6dad9ffbf224ad77b171f0df754fd9897a3ee0ac5bb4a66f87bc", func := "joinery/joinerylaw11.CoordLate", spec := "coordLate", inPlace := ["internal/abi.NoEscape"], unfollowed := true, recurses := true, named := ["internal/strconv.uint64pow10", "math/bits.deBruijn32tab", "math/bits.deBruijn64tab"], apart := false, laid := [("math/bits.deBruijn32tab", laid_math_bits_deBruijn32tab), ("math/bits.deBruijn64tab", laid_math_bits_deBruijn64tab), ("internal/strconv.uint64pow10", laid_internal_strconv_uint64pow10)], narrowed := true }
def CoordLateUptoSaid : Prop := coordLateUptoRow.holds Tryz.pinned (OpenSpec.upto coordLateSpec)

end Rows
end Go.Proofs.YtlehlbgaboifoabGreatDoor
