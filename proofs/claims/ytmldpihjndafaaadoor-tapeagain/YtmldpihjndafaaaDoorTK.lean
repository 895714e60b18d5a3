/- The words of a line: the first sign of a text; the contracts of parting and take of package line. -/
import Derived.Test.YtmldpihjndafaaaDoorR
import Derived.ArgAppend
import Derived.OneCell
namespace Go.Proofs.YtmldpihjndafaaaDoor
open Go.RowKit
set_option linter.unusedSimpArgs false
set_option linter.unusedVariables false

theorem width_pos (s : ByteArray) (pos : Nat) (h : pos < s.size) : 1 ≤ (Utf8.decode s pos).2 := by
  by_cases ha : (s[pos]'h).toNat < 128
  · rw [decode_ascii s pos h ha]
    exact Nat.le_refl _
  · exact (decode_high s pos h (by omega)).2

/-- This block holds these cells. -/
def Box (w : World) (B : Nat) (cs : Array Value) (t : TypeId) : Prop := w.heap[B]? = some (.cells cs t (0, 0))

section
variable {w w' : World} {B : Nat} {cs : Array Value} {t : TypeId} {x0 x1 x2 x3 x4 x5 x6 : Value}
theorem Box.new (w : World) (cs : Array Value) (t : TypeId) (hB : w.heap.size = B) : Box (w.alloc (.cells cs t)) B cs t := by subst hB; exact heap_alloc_new w _
theorem Box.lt (h : Box w B cs t) : B < w.heap.size := (Array.getElem?_eq_some_iff.1 h).1
theorem Box.later (h : Box w B cs t) (hb : Below w.heap.size w w') : Box w' B cs t := by
  have := h.lt
  unfold Box at *
  rw [hb.block B this, h]
theorem Box.up (h : Box w B cs t) (o : Obj) : Box (w.alloc o) B cs t := h.later ((Below.refl _ _).alloc (Nat.le_refl _) o)
theorem Box.drew (h : Box w B cs t) : Box w.drew B cs t := h
theorem Box.cell (h : Box w B cs t) {i : Nat} {v : Value} (hv : cs[i]? = some v) : w.cell? ⟨B, i, none⟩ = some v := by
  unfold Box at h
  simp [World.cell?, h, hv]
theorem Box.frozen (h : Box w B cs t) (j : Nat) : w.frozen? ⟨B, j, none⟩ = false := by
  unfold Box at h; simp [World.frozen?, h]
theorem Box.set (h : Box w B cs t) (i : Nat) (v : Value) : Box (w.setCell ⟨B, i, none⟩ v) B (cs.setIfInBounds i v) t := by
  unfold Box at *
  rw [heap_setCell_same w B i _ _ _ h]
theorem Box.other (h : Box w B cs t) {b : Nat} (hne : B ≠ b) (i : Nat) (z : Value) : Box (w.setCell ⟨b, i, none⟩ z) B cs t := by
  unfold Box at *
  rw [Below.heap_setCell _ _ _ _ hne, h]
theorem Box.grown {row : Option Nat} (h : Box w B cs t) (hg : w.grownBy w' row) (hne : some B ≠ row) : Box w' B cs t := by
  have := h.lt
  unfold Box at *
  rw [hg.block B this hne, h]
theorem Box.cells7 (h : Box w B #[x0, x1, x2, x3, x4, x5, x6] t) : w.cell? ⟨B, 0, none⟩ = some x0 ∧ w.cell? ⟨B, 1, none⟩ = some x1 ∧ w.cell? ⟨B, 2, none⟩ = some x2 ∧ w.cell? ⟨B, 3, none⟩ = some x3 ∧ w.cell? ⟨B, 4, none⟩ = some x4 ∧ w.cell? ⟨B, 5, none⟩ = some x5 ∧ w.cell? ⟨B, 6, none⟩ = some x6 :=
  ⟨h.cell rfl, h.cell rfl, h.cell rfl, h.cell rfl, h.cell rfl, h.cell rfl, h.cell rfl⟩
theorem Box.cells6 (h : Box w B #[x0, x1, x2, x3, x4, x5] t) : w.cell? ⟨B, 0, none⟩ = some x0 ∧ w.cell? ⟨B, 1, none⟩ = some x1 ∧ w.cell? ⟨B, 2, none⟩ = some x2 ∧ w.cell? ⟨B, 3, none⟩ = some x3 ∧ w.cell? ⟨B, 4, none⟩ = some x4 ∧ w.cell? ⟨B, 5, none⟩ = some x5 :=
  ⟨h.cell rfl, h.cell rfl, h.cell rfl, h.cell rfl, h.cell rfl, h.cell rfl⟩
theorem Box.cells2 (h : Box w B #[x0, x1] t) : w.cell? ⟨B, 0, none⟩ = some x0 ∧ w.cell? ⟨B, 1, none⟩ = some x1 := ⟨h.cell rfl, h.cell rfl⟩
end

theorem up {w W : World} (h : Below w.heap.size w W) (o : Obj) : Below w.heap.size w (W.alloc o) := h.alloc h.size o
theorem fin {w W w3 : World} (h3 : Below W.heap.size W w3) (h : Below w.heap.size w W) : Below w.heap.size w w3 := h.trans (h3.mono h.size)
theorem iterPos_of {w : World} {k : Nat} {s : ByteArray} {p : Nat} (h : w.heap[k]? = some (.stringIter s p)) : w.iterPos k = p := by simp [World.iterPos, h]
theorem grown_set (w : World) (b i : Nat) (v : Value) : w.grownBy (w.setCell ⟨b, i, none⟩ v) (some b) := by
  have h := (Below.refl 0 w).setCell (p := ⟨b, i, none⟩) (Nat.zero_le _) v
  exact ⟨h.os, h.tape, h.output, h.size, fun k _ hne => Below.heap_setCell w _ v k (fun e => hne (by rw [e]))⟩
theorem grown_trans {w w1 w2 : World} {q : Option Nat} (h : w.grownBy w1 q) (h2 : w1.grownBy w2 q) : w.grownBy w2 q :=
  ⟨h2.os.trans h.os, h2.tape.trans h.tape, h2.output.trans h.output, Nat.le_trans h.size h2.size, fun k hk hne => by rw [h2.block k (Nat.lt_of_lt_of_le hk h.size) hne, h.block k hk hne]⟩
theorem below_grown {w w' : World} (h : Below w.heap.size w w') (q : Option Nat) : w.grownBy w' q := ⟨h.os, h.tape, h.output, h.size, fun k hk _ => h.block k hk⟩

/-- A sign of a line. -/
def sgn (r : Int) : Bool := decide (r = 32) || decide (r = 58) || decide (r = 44) || decide (r = 43) || decide (r = 126) || decide (r = 33) || decide (r = 62) || decide (r = 64)
/-- The first sign from this byte on: where, and which. -/
def tkR (s : ByteArray) : Nat → Nat → Option (Nat × Int)
  | 0, _ => none
  | f + 1, pos => if pos < s.size then (if sgn (Utf8.decode s pos).1 then some (pos, (Utf8.decode s pos).1) else tkR s f (pos + (Utf8.decode s pos).2)) else none

theorem parting_any (r : Int) (b : Bool) (h : sgn r = b) (w : World) :
    Calls Tryd.prog 74 #[.int .i32 r] w fun e w' => e = .returned (.bool b) ∧ w' = w := by
  subst h
  unfold sgn
  by_cases h1 : r = 32
  · subst h1; go_enter Tryd.func74, Tryd.ntmps74; go_wp2; go_ret; exact ⟨rfl, rfl⟩
  by_cases h2 : r = 58
  · subst h2; go_enter Tryd.func74, Tryd.ntmps74; go_wp2; go_ret; exact ⟨rfl, rfl⟩
  by_cases h3 : r = 44
  · subst h3; go_enter Tryd.func74, Tryd.ntmps74; go_wp2; go_ret; exact ⟨rfl, rfl⟩
  by_cases h4 : r = 43
  · subst h4; go_enter Tryd.func74, Tryd.ntmps74; go_wp2; go_ret; exact ⟨rfl, rfl⟩
  by_cases h5 : r = 126
  · subst h5; go_enter Tryd.func74, Tryd.ntmps74; go_wp2; go_ret; exact ⟨rfl, rfl⟩
  by_cases h6 : r = 33
  · subst h6; go_enter Tryd.func74, Tryd.ntmps74; go_wp2; go_ret; exact ⟨rfl, rfl⟩
  by_cases h7 : r = 62
  · subst h7; go_enter Tryd.func74, Tryd.ntmps74; go_wp2; go_ret; exact ⟨rfl, rfl⟩
  by_cases h8 : r = 64
  · subst h8; go_enter Tryd.func74, Tryd.ntmps74; go_wp2; go_ret; exact ⟨rfl, rfl⟩
  have b1 : (r == 32) = false := by simp [h1]
  have b2 : (r == 58) = false := by simp [h2]
  have b3 : (r == 44) = false := by simp [h3]
  have b4 : (r == 43) = false := by simp [h4]
  have b5 : (r == 126) = false := by simp [h5]
  have b6 : (r == 33) = false := by simp [h6]
  have b7 : (r == 62) = false := by simp [h7]
  have b8 : (r == 64) = false := by simp [h8]
  simp only [h1, h2, h3, h4, h5, h6, h7, h8, decide_false, Bool.or_self]
  go_enter Tryd.func74, Tryd.ntmps74
  go_wp2
  go_ret
  exact ⟨rfl, rfl⟩

end Go.Proofs.YtmldpihjndafaaaDoor
