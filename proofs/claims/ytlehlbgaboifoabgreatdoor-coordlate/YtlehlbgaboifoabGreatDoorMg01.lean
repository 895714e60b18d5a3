/- The plain mathematics of names: a text's runes as the language reads them, what a name is, how many runes a text has. -/
import Derived.Test.YtlehlbgaboifoabGreatDoorRows
import Derived.WalkKit
import Derived.WalkSpells
import Derived.Laws.RangeAny
namespace Go.Proofs.YtlehlbgaboifoabGreatDoor
open Go.RowKit

theorem width_pos (s : ByteArray) (pos : Nat) (h : pos < s.size) : 1 ≤ (Utf8.decode s pos).2 := by
  by_cases ha : (s[pos]'h).toNat < 128
  · rw [decode_ascii s pos h ha]
    exact Nat.le_refl _
  · exact (decode_high s pos h (by omega)).2

/-- A digit. -/
def digR (r : Int) : Bool := decide (48 ≤ r) && decide (r ≤ 57)
/-- A rune that a name may have. -/
def ofR (r : Int) : Bool := (decide (97 ≤ r) && decide (r ≤ 122)) || digR r || (decide (945 ≤ r) && decide (r ≤ 969))
/-- May the rune r stand at this byte of a name? -/
def goodR (pos : Nat) (r : Int) : Bool := ofR r && !(decide (pos = 0) && digR r)

/-- Is what lies from this byte on, behind k runes, the rest of a name? -/
def nm (s : ByteArray) : Nat → Nat → Nat → Bool
  | 0, _, k => decide (0 < k)
  | f + 1, pos, k => if pos < s.size then (if decide (8 < k + 1) || !goodR pos (Utf8.decode s pos).1 then false else nm s f (pos + (Utf8.decode s pos).2) (k + 1)) else decide (0 < k)

/-- The same, as the chapter has it. -/
def rn (s : ByteArray) : Nat → Nat → Nat → Bool
  | 0, _, k => decide (1 ≤ k) && decide (k ≤ 8)
  | f + 1, pos, k => if pos < s.size then (if goodR pos (Utf8.decode s pos).1 then rn s f (pos + (Utf8.decode s pos).2) (k + 1) else false) else decide (1 ≤ k) && decide (k ≤ 8)

/-- How many runes lie from this byte on. -/
def rc (s : ByteArray) : Nat → Nat → Nat
  | 0, _ => 0
  | f + 1, pos => if pos < s.size then rc s f (pos + (Utf8.decode s pos).2) + 1 else 0

/-- Is a text a name? -/
def isName (s : ByteArray) : Bool := nm s s.size 0 0
/-- How many runes has it? -/
def count (s : ByteArray) : Nat := rc s s.size 0

theorem rn_far (s : ByteArray) : ∀ (f pos k : Nat), 8 < k → rn s f pos k = false
  | 0, _, k, h => by simp [rn]; omega
  | f + 1, pos, k, h => by
    unfold rn
    rw [rn_far s f _ (k + 1) (by omega)]
    have : decide (k ≤ 8) = false := by simp; omega
    simp [this]

theorem nm_eq (s : ByteArray) : ∀ (f pos k : Nat), k ≤ 8 → nm s f pos k = rn s f pos k
  | 0, _, k, h => by simp [nm, rn, h]; omega
  | f + 1, pos, k, h => by
    unfold nm rn
    by_cases h8 : k = 8
    · subst h8
      rw [rn_far s f _ 9 (by omega)]
      simp
    · rw [nm_eq s f _ (k + 1) (by omega)]
      have h9 : decide (8 < k + 1) = false := by simp; omega
      have e : decide (0 < k) = (decide (1 ≤ k) && decide (k ≤ 8)) := by simp [h]; omega
      rw [h9, e]
      cases goodR pos (Utf8.decode s pos).1 <;> simp

theorem rc_le (s : ByteArray) : ∀ (f pos : Nat), rc s f pos ≤ f
  | 0, _ => Nat.le_refl _
  | f + 1, pos => by unfold rc; have := rc_le s f (pos + (Utf8.decode s pos).2); split <;> omega

theorem count_le (s : ByteArray) : count s ≤ s.size := rc_le _ _ _

end Go.Proofs.YtlehlbgaboifoabGreatDoor
