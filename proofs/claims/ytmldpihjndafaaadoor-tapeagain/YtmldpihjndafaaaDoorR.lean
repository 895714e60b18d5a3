/- What a walk is told of a slice of numbers that came in; cells that stay. -/
import Derived.Test.YtmldpihjndafaaaDoorRows
import Derived.WalkKit
import Derived.WalkSpells
import Derived.Laws.RangeAny
import Derived.WalkLawsBesides
import Derived.BigQuiet
import Derived.Deep.RegionWith
import Derived.Deep.LoopGhost
import Derived.Lib.OthersKept
import Derived.Below
namespace Go.Proofs.YtmldpihjndafaaaDoor
open Go.RowKit

/-- What is told of a slice of numbers that came in: nil, or a row of numbers in memory. -/
def IsRow (k : IntKind) (w : World) (a : Option Addr) (len cap : Nat) (zs : List Int) : Prop :=
  (a = none ∧ len = 0 ∧ cap = 0 ∧ zs = []) ∨
  ∃ x, a = some x ∧ len ≤ cap ∧ cap ≤ maxLen ∧ zs.length = cap ∧ (∀ i, i < zs.length → w.cell? (x.add i) = some (.int k (zs.getD i 0))) ∧ ∀ n ∈ zs, (Lit.int k n).wf = true

theorem block_lt {w : World} {a : Addr} {v : Value} (h : w.cell? a = some v) : a.block < w.heap.size := by
  rcases Nat.lt_or_ge a.block w.heap.size with h' | h'
  · exact h'
  · exfalso
    simp [World.cell?, Array.getElem?_eq_none h'] at h

theorem cell_below {B : Nat} {W w1 : World} (hb : Below B W w1) {a : Addr} {v : Value} (h : W.cell? a = some v) (hB : a.block < B) : w1.cell? a = some v := by
  rw [hb.cell hB]; exact h

/-- The same in one form: whatever place is asked for within the length, it is there. -/
def HasRow (w : World) (a : Option Addr) (len : Nat) (zs : List Int) : Prop :=
  len ≤ maxLen ∧ ∀ i, i < len → ∃ x, a = some x ∧ w.cell? (x.add i) = some (.int .i64 (zs.getD i 0))

theorem IsRow.has {w : World} {a : Option Addr} {len cap : Nat} {zs : List Int} (h : IsRow .i64 w a len cap zs) : HasRow w a len zs := by
  rcases h with ⟨rfl, rfl, rfl, rfl⟩ | ⟨x, rfl, hl, hm, hz, hc, _⟩
  · exact ⟨Nat.zero_le _, fun i hi => by omega⟩
  · exact ⟨by omega, fun i hi => ⟨x, rfl, hc i (by omega)⟩⟩

theorem HasRow.at {B : Nat} {w w1 : World} {a : Option Addr} {len : Nat} {zs : List Int} (h : HasRow w a len zs) (hb : Below B w w1) (hB : w.heap.size ≤ B) (i : Nat) (hi : i < len) : ∃ x z, a = some x ∧ w1.cell? (x.add i) = some (.int .i64 z) := by
  obtain ⟨x, hx, hc⟩ := h.2 i hi
  exact ⟨x, _, hx, cell_below hb hc (Nat.lt_of_lt_of_le (block_lt hc) hB)⟩

theorem cell_alloc {w : World} {a : Addr} {v : Value} (h : w.cell? a = some v) (o : Obj) : (w.alloc o).cell? a = some v :=
  cell_below ((Below.refl _ _).alloc (Nat.le_refl _) o) h (block_lt h)

end Go.Proofs.YtmldpihjndafaaaDoor
