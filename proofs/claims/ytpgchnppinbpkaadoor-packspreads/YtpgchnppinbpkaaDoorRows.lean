/-
  NARROWER THAN 'FOR EVERY INPUT', by the rows' own cells (each row's printed sentence says how): PackFits: laid · PackTwice: laid · PackSpreads: laid · PackAlone: laid.
  DERIVED. THE GIVEN ROWS OF THIS SEAT. 4 by the template 'for every input the law returns true; each argument reads behind the call as it read before'; 0 by the template 'total and deterministic' (their statements: YtpgchnppinbpkaaDoorTotals.lean).
  GIVEN WITH THE SEED: the statements are not yours to turn. If you find one false, say at which input.
  Laid BY PROGRAM, IN A SANDBOX (cutbox-rows.mjs): the forced cells as the released guide's own fill.sh prints them over the translation 6e35e8a01df9d251… (all of the seat's roots in one cut). By AI agents, Wed Nov 11 2026. No macro, syntax, notation, axiom, sorry.
-/
import Derived.Test.YtpgchnppinbpkaaDoorChecked
import GoSem.Claim
import GoSem.ClaimJoined
import GoSem.ClaimMapViews
import Derived.JoinedTies
import Derived.KernelRfl
namespace Go.Proofs.YtpgchnppinbpkaaDoor
/- THE CELL 'sum', in the pinned program and in every row, IS THE sha256 OF THE DUMP (.gsa) THAT YtpgchnppinbpkaaDoorProg.lean LOADS. Nothing in Lean hashes anything: it is a label: what it is worth is what the hold of that sum in a sandbox is worth. -/
noncomputable def Tryd.pinned : Pinned := { name := "ytpgchnppinbpkaadoor", sum := "6e35e8a01df9d2512b16b10acde5417b0cd1cd7d2d31dbf7006c5763a3bb528a", checked := Tryd.checked }
namespace Rows
def none {H : Type} : Left H := { results := [], args := [] }

/- WHAT THE LISTED PACKAGE-LEVEL VARIABLES READ AS WHEN THE CALL BEGINS. Each datum BY PROGRAM (the guide's laid-datum.mjs) off the statement by which the dump's own 'gosem.cut.vars' lays the variable. In a bare row this is a premise. The card (YtpgchnppinbpkaaDoorCards.lean) ties it to the program's text. -/
def laid_joinery_score_terms {H : Type} : DataW H := .agg [.agg [.lit (.int .i64 0), .lit (.int .i64 1), .lit (.int .i64 0)], .agg [.lit (.int .i64 200), .lit (.int .i64 (-1)), .lit (.int .i64 0)], .agg [.lit (.int .i64 1000), .lit (.int .i64 0), .lit (.int .i64 (-1))]]

/-- 'joinerylaw8.PackFits': WHATEVER THE INPUT: true; the input reads as it did. -/
def packFitsSpec : ChangeSpec := { name := "packFits", fn := fun _ => fun
  | [d1, d2, d3] => { results := [.lit (.bool true)], args := [d1, d2, d3] }
  | _ => none }
def packFitsRow : OpenClaim := { program := "ytpgchnppinbpkaadoor", sum := "6e35e8a01df9d2512b16b10acde5417b0cd1cd7d2d31dbf7006c5763a3bb528a", func := "joinery/joinerylaw8.PackFits", spec := "packFits", unfollowed := true, recurses := true, named := ["joinery/score.terms"], apart := false, laid := [("joinery/score.terms", laid_joinery_score_terms)] }
def PackFitsSaid : Prop := packFitsRow.holds Tryd.pinned (OpenSpec.ofChange packFitsSpec)

/-- ITS FALSE NEIGHBOUR: 'it returns false'. Refute it at one input. -/
def packFitsWrong : ChangeSpec := { name := "packFits", fn := fun _ => fun
  | [d1, d2, d3] => { results := [.lit (.bool false)], args := [d1, d2, d3] }
  | _ => none }
def PackFitsWrongFalsely : Prop := packFitsRow.holds Tryd.pinned (OpenSpec.ofChange packFitsWrong)

/-- 'joinerylaw8.PackTwice': WHATEVER THE INPUT: true; the input reads as it did. -/
def packTwiceSpec : ChangeSpec := { name := "packTwice", fn := fun _ => fun
  | [d1, d2, d3] => { results := [.lit (.bool true)], args := [d1, d2, d3] }
  | _ => none }
def packTwiceRow : OpenClaim := { program := "ytpgchnppinbpkaadoor", sum := "6e35e8a01df9d2512b16b10acde5417b0cd1cd7d2d31dbf7006c5763a3bb528a", func := "joinery/joinerylaw8.PackTwice", spec := "packTwice", unfollowed := true, recurses := true, named := ["joinery/score.terms"], apart := false, laid := [("joinery/score.terms", laid_joinery_score_terms)] }
def PackTwiceSaid : Prop := packTwiceRow.holds Tryd.pinned (OpenSpec.ofChange packTwiceSpec)

/-- ITS FALSE NEIGHBOUR: 'it returns false'. Refute it at one input. -/
def packTwiceWrong : ChangeSpec := { name := "packTwice", fn := fun _ => fun
  | [d1, d2, d3] => { results := [.lit (.bool false)], args := [d1, d2, d3] }
  | _ => none }
def PackTwiceWrongFalsely : Prop := packTwiceRow.holds Tryd.pinned (OpenSpec.ofChange packTwiceWrong)

/-- 'joinerylaw8.PackSpreads': WHATEVER THE INPUT: true; the input reads as it did. -/
def packSpreadsSpec : ChangeSpec := { name := "packSpreads", fn := fun _ => fun
  | [d1, d2, d3] => { results := [.lit (.bool true)], args := [d1, d2, d3] }
  | _ => none }
def packSpreadsRow : OpenClaim := { program := "ytpgchnppinbpkaadoor", sum := "6e35e8a01df9d2512b16b10acde5417b0cd1cd7d2d31dbf7006c5763a3bb528a", func := "joinery/joinerylaw8.PackSpreads", spec := "packSpreads", unfollowed := true, recurses := true, named := ["joinery/score.terms"], apart := false, laid := [("joinery/score.terms", laid_joinery_score_terms)] }
def PackSpreadsSaid : Prop := packSpreadsRow.holds Tryd.pinned (OpenSpec.ofChange packSpreadsSpec)

/-- ITS FALSE NEIGHBOUR: 'it returns false'. Refute it at one input. -/
def packSpreadsWrong : ChangeSpec := { name := "packSpreads", fn := fun _ => fun
  | [d1, d2, d3] => { results := [.lit (.bool false)], args := [d1, d2, d3] }
  | _ => none }
def PackSpreadsWrongFalsely : Prop := packSpreadsRow.holds Tryd.pinned (OpenSpec.ofChange packSpreadsWrong)

/-- 'joinerylaw8.PackAlone': WHATEVER THE INPUT: true; the input reads as it did. -/
def packAloneSpec : ChangeSpec := { name := "packAlone", fn := fun _ => fun
  | [d1, d2, d3] => { results := [.lit (.bool true)], args := [d1, d2, d3] }
  | _ => none }
def packAloneRow : OpenClaim := { program := "ytpgchnppinbpkaadoor", sum := "6e35e8a01df9d2512b16b10acde5417b0cd1cd7d2d31dbf7006c5763a3bb528a", func := "joinery/joinerylaw8.PackAlone", spec := "packAlone", unfollowed := true, recurses := true, named := ["joinery/score.terms"], apart := false, laid := [("joinery/score.terms", laid_joinery_score_terms)] }
def PackAloneSaid : Prop := packAloneRow.holds Tryd.pinned (OpenSpec.ofChange packAloneSpec)

/-- ITS FALSE NEIGHBOUR: 'it returns false'. Refute it at one input. -/
def packAloneWrong : ChangeSpec := { name := "packAlone", fn := fun _ => fun
  | [d1, d2, d3] => { results := [.lit (.bool false)], args := [d1, d2, d3] }
  | _ => none }
def PackAloneWrongFalsely : Prop := packAloneRow.holds Tryd.pinned (OpenSpec.ofChange packAloneWrong)

/- THE SECOND FORM. 'bulk': how many values and letters a reading holds, each counted each time it is reached (what is shared counts as often as it is met; a slice's spare places count too). A statement '..UptoSaid' is the law's where the arguments, and the package variables that the reading takes, are together of bulk at most 1048576: NARROWER than '..Said'. Prove '..Said' where nothing that the law and all that it calls make is longer than what came in: it says more and counts as full. Else prove '..UptoSaid'. A law counts once. -/
mutual
def uptoBulk {H : Type} : DataW H → Nat
  | .lit (.string bytes) => bytes.length + 1
  | .lit _ => 1
  | .nil => 1
  | .ptr d => uptoBulk d + 1
  | .slice elems spare => uptoBulkAll elems + uptoBulkAll spare + 1
  | .agg parts => uptoBulkAll parts + 1
  | .iface _ d => uptoBulk d + 1
  | .map entries => uptoBulkEntries entries + 1
  | .held _ => 1
def uptoBulkAll {H : Type} : List (DataW H) → Nat
  | [] => 0
  | d :: r => uptoBulk d + uptoBulkAll r
def uptoBulkEntries {H : Type} : List (Lit × DataW H) → Nat
  | [] => 0
  | x :: r => uptoBulkEntry x + uptoBulkEntries r
def uptoBulkEntry {H : Type} : Lit × DataW H → Nat
  | (.string bytes, d) => bytes.length + uptoBulk d + 1
  | (_, d) => uptoBulk d + 1
 end
def uptoSmall : (H : Type) → List (DataW H) → Bool := fun _ ds => decide (uptoBulkAll ds ≤ 1048576)
def OpenSpec.upto (s : _root_.Go.ChangeSpec) : _root_.Go.OpenSpec := { _root_.Go.OpenSpec.ofChange s with cond := some uptoSmall }

/-- 'joinerylaw8.PackFits', WHERE WHAT IT READS IS OF BULK AT MOST 1048576: true; the input reads as it did. -/
def packFitsUptoRow : OpenClaim := { program := "ytpgchnppinbpkaadoor", sum := "6e35e8a01df9d2512b16b10acde5417b0cd1cd7d2d31dbf7006c5763a3bb528a", func := "joinery/joinerylaw8.PackFits", spec := "packFits", unfollowed := true, recurses := true, named := ["joinery/score.terms"], apart := false, laid := [("joinery/score.terms", laid_joinery_score_terms)], narrowed := true }
def PackFitsUptoSaid : Prop := packFitsUptoRow.holds Tryd.pinned (OpenSpec.upto packFitsSpec)

/-- 'joinerylaw8.PackTwice', WHERE WHAT IT READS IS OF BULK AT MOST 1048576: true; the input reads as it did. -/
def packTwiceUptoRow : OpenClaim := { program := "ytpgchnppinbpkaadoor", sum := "6e35e8a01df9d2512b16b10acde5417b0cd1cd7d2d31dbf7006c5763a3bb528a", func := "joinery/joinerylaw8.PackTwice", spec := "packTwice", unfollowed := true, recurses := true, named := ["joinery/score.terms"], apart := false, laid := [("joinery/score.terms", laid_joinery_score_terms)], narrowed := true }
def PackTwiceUptoSaid : Prop := packTwiceUptoRow.holds Tryd.pinned (OpenSpec.upto packTwiceSpec)

/-- 'joinerylaw8.PackSpreads', WHERE WHAT IT READS IS OF BULK AT MOST 1048576: true; the input reads as it did. -/
def packSpreadsUptoRow : OpenClaim := { program := "ytpgchnppinbpkaadoor", sum := "6e35e8a01df9d2512b16b10acde5417b0cd1cd7d2d31dbf7006c5763a3bb528a", func := "joinery/joinerylaw8.PackSpreads", spec := "packSpreads", unfollowed := true, recurses := true, named := ["joinery/score.terms"], apart := false, laid := [("joinery/score.terms", laid_joinery_score_terms)], narrowed := true }
def PackSpreadsUptoSaid : Prop := packSpreadsUptoRow.holds Tryd.pinned (OpenSpec.upto packSpreadsSpec)

/-- 'joinerylaw8.PackAlone', WHERE WHAT IT READS IS OF BULK AT MOST 1048576: true; the input reads as it did. -/
def packAloneUptoRow : OpenClaim := { program := "ytpgchnppinbpkaadoor", sum := "6e35e8a01df9d2512b16b10acde5417b0cd1cd7d2d31dbf7006c5763a3bb528a", func := "joinery/joinerylaw8.PackAlone", spec := "packAlone", unfollowed := true, recurses := true, named := ["joinery/score.terms"], apart := false, laid := [("joinery/score.terms", laid_joinery_score_terms)], narrowed := true }
def PackAloneUptoSaid : Prop := packAloneUptoRow.holds Tryd.pinned (OpenSpec.upto packAloneSpec)

end Rows
end Go.Proofs.YtpgchnppinbpkaaDoor
