/- Texts of lines, byte by byte; the contracts of word, number, vec, flag of package line's writer. -/
import Derived.Test.YtmldpihjndafaabDoorTY
import Derived.Test.YtmldpihjndafaabDoorTM
import Derived.Test.YtmldpihjndafaabDoorPn
import Derived.Lib.ItoaLen
namespace Go.Proofs.YtmldpihjndafaabDoor
open Go.RowKit
set_option linter.unusedSimpArgs false
set_option linter.unusedVariables false

/-- A sign, and a word behind it. -/
def wordT (c : UInt8) (s : ByteArray) : List UInt8 := c :: s.data.toList
/-- A sign, and a number behind it. -/
def numT (c : UInt8) (n : Nat) : List UInt8 := c :: Lib.decDigits n
def vecT (c m : Nat) : List UInt8 := numT 58 c ++ numT 44 m
def flagT (b : Bool) : List UInt8 := if b then [33] else []

theorem numT_len (c : UInt8) (n : Nat) (hn : n ≤ 9223372036854775807) : (numT c n).length ≤ 22 := by
  have := Lib.itoa_length_le (n : Int) (by omega) (by omega)
  rw [Lib.itoa_nonneg] at this
  simpa [numT] using this

theorem small_of (c : UInt8) (hc : c.toNat ≤ 127) : Small c.toNat := by
  have := c.toNat_lt
  refine ⟨?_, ?_, by omega⟩
  · simp [IntKind.wrap, IntKind.bits, IntKind.signed]; omega
  · simp [IntKind.wrap, IntKind.bits, IntKind.signed]; omega

theorem InW.later {B b : Nat} {bs : List Value} {w w' : World} (h : AtW B b bs w) (hb : Below w.heap.size w w') : AtW B b bs w' := by
  obtain ⟨hB, v, hX, hown, hne⟩ := h
  have hX' : Box w b #[.pointer (some ⟨b, 0, none⟩), v] 82 := hX
  refine ⟨hB, v, hX'.later hb, ?_, hne⟩
  refine ⟨hown.1, ?_⟩
  rcases hown.2 with h | ⟨g, cap, cur, hv, hg, hh, rest⟩
  · exact .inl h
  · exact .inr ⟨g, cap, cur, hv, hg, by rw [hb.block g (Array.getElem?_eq_some_iff.1 hh).1]; exact hh, rest⟩

theorem word_l (B b : Nat) (l : List UInt8) (c : UInt8) (r : Int) (s : ByteArray) (w : World) (hr : r = c.toNat) (hc : c.toNat ≤ 127) (h : AtW B b (Lib.byteCells l) w) (hlen : l.length + s.size + 1 ≤ 1000000000) (hBw : B ≤ w.heap.size) :
    Calls Tryd.prog 46 #[.pointer (some ⟨b, 0, none⟩), .int .i32 r, .string s] w fun e w' => e = .returned (.tuple #[]) ∧ AtW B b (Lib.byteCells (l ++ wordT c s)) w' ∧ Below B w w' ∧ Soft b w w' := by
  subst hr
  refine (word_put B b (Lib.byteCells l) c.toNat s w (small_of c hc) (.inr h) (by rw [Lib.byteCells_length]; omega) hBw).mono ?_
  rintro e w' ⟨he, hA, hb, hf⟩
  refine ⟨he, ?_, hb, hf⟩
  have : Lib.byteCells (l ++ wordT c s) = Lib.byteCells l ++ [.int .u8 c.toNat] ++ Lib.strCells s := by simp [Lib.byteCells, wordT, Lib.strCells]
  rw [this]
  exact hA

theorem itoa_any (n : Nat) (w : World) (hn : n ≤ 9223372036854775807) (hT : Lib.TabIs Tryd.prog w Tryd.powName .u64 Lib.pow10Tab) :
    Calls Tryd.prog 68 #[.int .i64 n] w fun e w' => e = .returned (.string ⟨(Lib.decDigits n).toArray⟩) ∧ Below w.heap.size w w' := by
  refine (Tryd.strconv_Itoa (n : Int) (by omega) (by omega) w hT).mono ?_
  rintro e w1 ⟨he, k, os, hw1⟩
  rw [Lib.itoa_nonneg] at he
  refine ⟨he, ?_⟩
  rw [hw1]
  exact Lib.below_grow _ w (Nat.le_refl _) k os

set_option maxRecDepth 100000 in
set_option maxHeartbeats 2000000 in
theorem number_l (B b : Nat) (l : List UInt8) (c : UInt8) (r : Int) (n : Nat) (w : World) (hn : n ≤ 9223372036854775807) (hr : r = c.toNat) (hc : c.toNat ≤ 127) (h : AtW B b (Lib.byteCells l) w) (hlen : l.length ≤ 900000000) (hBw : B ≤ w.heap.size) (hT : TabB B w) :
    Calls Tryd.prog 47 #[.pointer (some ⟨b, 0, none⟩), .int .i32 r, .int .i64 n] w fun e w' => e = .returned (.tuple #[]) ∧ AtW B b (Lib.byteCells (l ++ numT c n)) w' ∧ Below B w w' ∧ Soft b w w' := by
  have hlx : l.length + 1 ≤ 900000001 := by omega
  have hd : (⟨(Lib.decDigits n).toArray⟩ : ByteArray).size ≤ 1000 := by
    have := numT_len c n hn
    show (Lib.decDigits n).toArray.size ≤ 1000
    rw [List.size_toArray]; simp [numT] at this; omega
  have hE : wordT c ⟨(Lib.decDigits n).toArray⟩ = numT c n := by simp [wordT, numT]
  subst hr
  clear hlen
  go_enter Tryd.func47, Tryd.ntmps47
  go_wp2_with (first
    | (go_at_call 68; refine (itoa_any n _ hn hT.here).mono ?_; rintro e w1 ⟨rfl, hb1⟩)
    | (go_at_call 46; refine (word_l B b l c _ _ _ rfl hc (InW.later h hb1) (by omega) (Nat.le_trans hBw hb1.size)).mono ?_; rintro e w2 ⟨rfl, h2, hb2, hf2⟩))
  go_end0
  exact ⟨rfl, hE ▸ h2, (hb1.mono hBw).trans hb2, (Soft.of_below hb1).trans hf2⟩

set_option maxRecDepth 100000 in
theorem flag_l (B b : Nat) (l : List UInt8) (y : Bool) (w : World) (h : AtW B b (Lib.byteCells l) w) (hlen : l.length ≤ 800000000) (hBw : B ≤ w.heap.size) :
    Calls Tryd.prog 66 #[.pointer (some ⟨b, 0, none⟩), .bool y] w fun e w' => e = .returned (.tuple #[]) ∧ AtW B b (Lib.byteCells (l ++ flagT y)) w' ∧ Below B w w' ∧ Soft b w w' := by
  cases y
  · go_enter Tryd.func66, Tryd.ntmps66
    go_wp2
    go_end0
    exact ⟨rfl, by simpa [flagT] using h, Below.refl _ _, Soft.refl _ _⟩
  · go_enter Tryd.func66, Tryd.ntmps66
    go_wp2_with (first
      | (go_at_call 46; refine (word_l B b l 33 _ ⟨#[]⟩ _ (by decide) (by decide) h (by simp [ByteArray.size]; omega) hBw).mono ?_; rintro e w2 ⟨rfl, h2, hb2, hf2⟩))
    go_end0
    exact ⟨rfl, by simpa [flagT, wordT] using h2, hb2, hf2⟩

end Go.Proofs.YtmldpihjndafaabDoor
