/- Blocks of variables that are known whole. -/
import Derived.Test.YtpgchnppinbpkaaDoorS
import Derived.ArgAppend
import Derived.OneCell
namespace Go.Proofs.YtpgchnppinbpkaaDoor
open Go.RowKit

/-- This block holds these cells. -/
def Box (w : World) (B : Nat) (cs : Array Value) (t : TypeId) : Prop := w.heap[B]? = some (.cells cs t (0, 0))

section
variable {w w' : World} {B : Nat} {cs : Array Value} {t : TypeId} {x0 x1 x2 x3 x4 x5 x6 : Value}
theorem Box.new (w : World) (cs : Array Value) (t : TypeId) (hB : w.heap.size = B) : Box (w.alloc (.cells cs t)) B cs t := by subst hB; exact heap_alloc_new w _
theorem Box.lt (h : Box w B cs t) : B < w.heap.size := (Array.getElem?_eq_some_iff.1 h).1
theorem Box.later (h : Box w B cs t) (hb : Below w.heap.size w w') : Box w' B cs t := by
  have := h.lt
  unfold Box at *
  rw [hb.block B this, h]
theorem Box.up (h : Box w B cs t) (o : Obj) : Box (w.alloc o) B cs t := h.later ((Below.refl _ _).alloc (Nat.le_refl _) o)
theorem Box.drew (h : Box w B cs t) : Box w.drew B cs t := h
theorem Box.cell (h : Box w B cs t) {i : Nat} {v : Value} (hv : cs[i]? = some v) : w.cell? ⟨B, i, none⟩ = some v := by
  unfold Box at h
  simp [World.cell?, h, hv]
theorem Box.frozen (h : Box w B cs t) (j : Nat) : w.frozen? ⟨B, j, none⟩ = false := by
  unfold Box at h; simp [World.frozen?, h]
theorem Box.set (h : Box w B cs t) (i : Nat) (v : Value) : Box (w.setCell ⟨B, i, none⟩ v) B (cs.setIfInBounds i v) t := by
  unfold Box at *
  rw [heap_setCell_same w B i _ _ _ h]
theorem Box.other (h : Box w B cs t) {b : Nat} (hne : B ≠ b) (i : Nat) (z : Value) : Box (w.setCell ⟨b, i, none⟩ z) B cs t := by
  unfold Box at *
  rw [Below.heap_setCell _ _ _ _ hne, h]
theorem Box.grown {row : Option Nat} (h : Box w B cs t) (hg : w.grownBy w' row) (hne : some B ≠ row) : Box w' B cs t := by
  have := h.lt
  unfold Box at *
  rw [hg.block B this hne, h]
theorem Box.cells7 (h : Box w B #[x0, x1, x2, x3, x4, x5, x6] t) : w.cell? ⟨B, 0, none⟩ = some x0 ∧ w.cell? ⟨B, 1, none⟩ = some x1 ∧ w.cell? ⟨B, 2, none⟩ = some x2 ∧ w.cell? ⟨B, 3, none⟩ = some x3 ∧ w.cell? ⟨B, 4, none⟩ = some x4 ∧ w.cell? ⟨B, 5, none⟩ = some x5 ∧ w.cell? ⟨B, 6, none⟩ = some x6 :=
  ⟨h.cell rfl, h.cell rfl, h.cell rfl, h.cell rfl, h.cell rfl, h.cell rfl, h.cell rfl⟩
theorem Box.cells6 (h : Box w B #[x0, x1, x2, x3, x4, x5] t) : w.cell? ⟨B, 0, none⟩ = some x0 ∧ w.cell? ⟨B, 1, none⟩ = some x1 ∧ w.cell? ⟨B, 2, none⟩ = some x2 ∧ w.cell? ⟨B, 3, none⟩ = some x3 ∧ w.cell? ⟨B, 4, none⟩ = some x4 ∧ w.cell? ⟨B, 5, none⟩ = some x5 :=
  ⟨h.cell rfl, h.cell rfl, h.cell rfl, h.cell rfl, h.cell rfl, h.cell rfl⟩
theorem Box.cells2 (h : Box w B #[x0, x1] t) : w.cell? ⟨B, 0, none⟩ = some x0 ∧ w.cell? ⟨B, 1, none⟩ = some x1 := ⟨h.cell rfl, h.cell rfl⟩
end

theorem fin {w W w3 : World} (h3 : Below W.heap.size W w3) (h : Below w.heap.size w W) : Below w.heap.size w w3 := h.trans (h3.mono h.size)
theorem grown_set (w : World) (b i : Nat) (v : Value) : w.grownBy (w.setCell ⟨b, i, none⟩ v) (some b) := by
  have h := (Below.refl 0 w).setCell (p := ⟨b, i, none⟩) (Nat.zero_le _) v
  exact ⟨h.os, h.tape, h.output, h.size, fun k _ hne => Below.heap_setCell w _ v k (fun e => hne (by rw [e]))⟩
theorem grown_trans {w w1 w2 : World} {q : Option Nat} (h : w.grownBy w1 q) (h2 : w1.grownBy w2 q) : w.grownBy w2 q :=
  ⟨h2.os.trans h.os, h2.tape.trans h.tape, h2.output.trans h.output, Nat.le_trans h.size h2.size, fun k hk hne => by rw [h2.block k (Nat.lt_of_lt_of_le hk h.size) hne, h.block k hk hne]⟩
theorem below_grown {w w' : World} (h : Below w.heap.size w w') (q : Option Nat) : w.grownBy w' q := ⟨h.os, h.tape, h.output, h.size, fun k hk _ => h.block k hk⟩

end Go.Proofs.YtpgchnppinbpkaaDoor
