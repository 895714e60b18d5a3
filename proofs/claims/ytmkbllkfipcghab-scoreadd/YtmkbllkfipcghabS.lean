/- Rows of texts: whether all of one are among another one. -/
import Derived.Test.YtmkbllkfipcghabR
import Derived.Maps.OwnSet
import Derived.OwnWalk
namespace Go.Proofs.Ytmkbllkfipcghab
open Go.RowKit Go.Maps

/-- A row of texts in memory. -/
def Strs (w : World) (a : Option Addr) (ss : List ByteArray) : Prop :=
  ss.length ≤ 1000 ∧ ∀ i, i < ss.length → ∃ x, a = some x ∧ w.cell? (x.add i) = some (.string (ss.getD i ByteArray.empty))

theorem Strs.later {w w1 : World} {a : Option Addr} {ss : List ByteArray} (h : Strs w a ss) (hb : Below w.heap.size w w1) : Strs w1 a ss :=
  ⟨h.1, fun i hi => by
    obtain ⟨x, hx, hc⟩ := h.2 i hi
    exact ⟨x, hx, cell_below hb hc (block_lt hc)⟩⟩

/-- Is a text among these? -/
def inB (l : List ByteArray) (s : ByteArray) : Bool := l.any fun t => t.toList == s.toList
/-- Are all of the one among the other ones? -/
def allB (of l : List ByteArray) : Bool := of.all (inB l)

theorem drop_at (l : List ByteArray) (k : Nat) (h : k < l.length) : l.drop k = l.getD k ByteArray.empty :: l.drop (k + 1) := by
  rw [List.drop_eq_getElem_cons h]
  simp [List.getD, List.getElem?_eq_getElem h]

theorem strs_nil (w : World) : Strs w none [] := ⟨by simp, fun i hi => by simp at hi⟩
theorem up {w W : World} (h : Below w.heap.size w W) (o : Obj) : Below w.heap.size w (W.alloc o) := h.alloc h.size o

end Go.Proofs.Ytmkbllkfipcghab
