/- What a walk is told of a slice of numbers that came in; cells that stay. -/
import Derived.Test.YtkiamgfmclodmabC
import Derived.Below
namespace Go.Proofs.Ytkiamgfmclodmab
open Go.RowKit

/-- What is told of a slice of numbers that came in: nil, or a row of numbers in memory. -/
def IsRow (k : IntKind) (w : World) (a : Option Addr) (len cap : Nat) (zs : List Int) : Prop :=
  (a = none ∧ len = 0 ∧ cap = 0 ∧ zs = []) ∨
  ∃ x, a = some x ∧ len ≤ cap ∧ cap ≤ maxLen ∧ zs.length = cap ∧ (∀ i, i < zs.length → w.cell? (x.add i) = some (.int k (zs.getD i 0))) ∧ ∀ n ∈ zs, (Lit.int k n).wf = true

theorem block_lt {w : World} {a : Addr} {v : Value} (h : w.cell? a = some v) : a.block < w.heap.size := by
  rcases Nat.lt_or_ge a.block w.heap.size with h' | h'
  · exact h'
  · exfalso
    simp [World.cell?, Array.getElem?_eq_none h'] at h

theorem cell_below {B : Nat} {W w1 : World} (hb : Below B W w1) {a : Addr} {v : Value} (h : W.cell? a = some v) (hB : a.block < B) : w1.cell? a = some v := by
  rw [hb.cell hB]; exact h

end Go.Proofs.Ytkiamgfmclodmab
