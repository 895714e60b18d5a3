/- What is true of each rune by itself, behind a letter, between two. -/
import Derived.Test.YtkiamgfmclodmabC
import Derived.Laws.Runes
namespace Go.Proofs.Ytkiamgfmclodmab
open Go.RowKit

/-- A letter. -/
def letR (r : Int) : Bool := (decide (97 ≤ r) && decide (r ≤ 122)) || (decide (945 ≤ r) && decide (r ≤ 969))
/-- What the statement asks of one rune. -/
def each (r : Int) : Bool :=
  (isName (Utf8.encode r) == letR r) && (isName (⟨#[97]⟩ ++ Utf8.encode r) == (letR r || digR r)) && (isName (⟨#[207, 137]⟩ ++ Utf8.encode r ++ ⟨#[49]⟩) == (letR r || digR r)) && (count (Utf8.encode r) == 1) && decide ((Utf8.encode r).size ≤ 4)

theorem each_all : ((List.range 1280).all fun k => each (k : Int)) = true := by decide +kernel
theorem each_some : ([944, 945, 969, 970, 96, 123, 48, 57, 128512, 65533].all each) = true := by decide +kernel

theorem each_of (r : Int) (h0 : 0 ≤ r) (h : r < 1280) : each r = true := by
  have := List.all_eq_true.1 each_all r.toNat (List.mem_range.2 (by omega))
  rw [Int.toNat_of_nonneg h0] at this
  exact this

end Go.Proofs.Ytkiamgfmclodmab
