/- Texts of lines, byte by byte; the contracts of word, number, vec, flag of package line's writer. -/
import Derived.Test.YtlehlbgaboifoabGreatDoorMg09
import Derived.Test.YtlehlbgaboifoabGreatDoorMg12
import Derived.Test.YtlehlbgaboifoabGreatDoorMg07
import Derived.Lib.ItoaLen
namespace Go.Proofs.YtlehlbgaboifoabGreatDoor
open Go.RowKit
set_option linter.unusedSimpArgs false
set_option linter.unusedVariables false

/-- A sign, and a word behind it. -/
def wordT (c : UInt8) (s : ByteArray) : List UInt8 := c :: s.data.toList
/-- A sign, and a number behind it. -/
def numT (c : UInt8) (n : Nat) : List UInt8 := c :: Lib.decDigits n
def vecT (c m : Nat) : List UInt8 := numT 58 c ++ numT 44 m
def flagT (b : Bool) : List UInt8 := if b then [33] else []

theorem numT_len (c : UInt8) (n : Nat) (hn : n ≤ 9223372036854775807) : (numT c n).length ≤ 22 := by
  have := Lib.itoa_length_le (n : Int) (by omega) (by omega)
  rw [Lib.itoa_nonneg] at this
  simpa [numT] using this

theorem small_of (c : UInt8) (hc : c.toNat ≤ 127) : Small c.toNat := by
  have := c.toNat_lt
  refine ⟨?_, ?_, by omega⟩
  · simp [IntKind.wrap, IntKind.bits, IntKind.signed]; omega
  · simp [IntKind.wrap, IntKind.bits, IntKind.signed]; omega

theorem InW.later {B b : Nat} {bs : List Value} {w w' : World} (h : AtW B b bs w) (hb : Below w.heap.size w w') : AtW B b bs w' := by
  obtain ⟨hB, v, hX, hown, hne⟩ := h
  have hX' : Box w b #[.pointer (some ⟨b, 0, none⟩), v] 229 := hX
  refine ⟨hB, v, hX'.later hb, ?_, hne⟩
  refine ⟨hown.1, ?_⟩
  rcases hown.2 with h | ⟨g, cap, cur, hv, hg, hh, rest⟩
  · exact .inl h
  · exact .inr ⟨g, cap, cur, hv, hg, by rw [hb.block g (Array.getElem?_eq_some_iff.1 hh).1]; exact hh, rest⟩

theorem word_l (B b : Nat) (l : List UInt8) (c : UInt8) (r : Int) (s : ByteArray) (w : World) (hr : r = c.toNat) (hc : c.toNat ≤ 127) (h : AtW B b (Lib.byteCells l) w) (hlen : l.length + s.size + 1 ≤ 1000000000) (hBw : B ≤ w.heap.size) :
    Calls Tryz.prog 191 #[.pointer (some ⟨b, 0, none⟩), .int .i32 r, .string s] w fun e w' => e = .returned (.tuple #[]) ∧ AtW B b (Lib.byteCells (l ++ wordT c s)) w' ∧ Below B w w' ∧ Soft b w w' := by
  subst hr
  refine (word_put B b (Lib.byteCells l) c.toNat s w (small_of c hc) (.inr h) (by rw [Lib.byteCells_length]; omega) hBw).mono ?_
  rintro e w' ⟨he, hA, hb, hf⟩
  refine ⟨he, ?_, hb, hf⟩
  have : Lib.byteCells (l ++ wordT c s) = Lib.byteCells l ++ [.int .u8 c.toNat] ++ Lib.strCells s := by simp [Lib.byteCells, wordT, Lib.strCells]
  rw [this]
  exact hA

theorem itoa_any (n : Nat) (w : World) (hn : n ≤ 9223372036854775807) (hT : Lib.TabIs Tryz.prog w Tryz.powName .u64 Lib.pow10Tab) :
    Calls Tryz.prog 221 #[.int .i64 n] w fun e w' => e = .returned (.string ⟨(Lib.decDigits n).toArray⟩) ∧ Below w.heap.size w w' := by
  refine (Tryz.strconv_Itoa (n : Int) (by omega) (by omega) w hT).mono ?_
  rintro e w1 ⟨he, k, os, hw1⟩
  rw [Lib.itoa_nonneg] at he
  refine ⟨he, ?_⟩
  rw [hw1]
  exact Lib.below_grow _ w (Nat.le_refl _) k os

set_option maxRecDepth 100000 in
set_option maxHeartbeats 2000000 in
theorem number_l (B b : Nat) (l : List UInt8) (c : UInt8) (r : Int) (n : Nat) (w : World) (hn : n ≤ 9223372036854775807) (hr : r = c.toNat) (hc : c.toNat ≤ 127) (h : AtW B b (Lib.byteCells l) w) (hlen : l.length ≤ 900000000) (hBw : B ≤ w.heap.size) (hT : TabB B w) :
    Calls Tryz.prog 192 #[.pointer (some ⟨b, 0, none⟩), .int .i32 r, .int .i64 n] w fun e w' => e = .returned (.tuple #[]) ∧ AtW B b (Lib.byteCells (l ++ numT c n)) w' ∧ Below B w w' ∧ Soft b w w' := by
  have hlx : l.length + 1 ≤ 900000001 := by omega
  have hd : (⟨(Lib.decDigits n).toArray⟩ : ByteArray).size ≤ 1000 := by
    have := numT_len c n hn
    show (Lib.decDigits n).toArray.size ≤ 1000
    rw [List.size_toArray]; simp [numT] at this; omega
  have hE : wordT c ⟨(Lib.decDigits n).toArray⟩ = numT c n := by simp [wordT, numT]
  subst hr
  clear hlen
  go_enter Tryz.func192, Tryz.ntmps192
  go_wp2_with (first
    | (go_at_call 221; refine (itoa_any n _ hn hT.here).mono ?_; rintro e w1 ⟨rfl, hb1⟩)
    | (go_at_call 191; refine (word_l B b l c _ _ _ rfl hc (InW.later h hb1) (by omega) (Nat.le_trans hBw hb1.size)).mono ?_; rintro e w2 ⟨rfl, h2, hb2, hf2⟩))
  go_end0
  exact ⟨rfl, hE ▸ h2, (hb1.mono hBw).trans hb2, (Soft.of_below hb1).trans hf2⟩

set_option maxRecDepth 100000 in
theorem flag_l (B b : Nat) (l : List UInt8) (y : Bool) (w : World) (h : AtW B b (Lib.byteCells l) w) (hlen : l.length ≤ 800000000) (hBw : B ≤ w.heap.size) :
    Calls Tryz.prog 219 #[.pointer (some ⟨b, 0, none⟩), .bool y] w fun e w' => e = .returned (.tuple #[]) ∧ AtW B b (Lib.byteCells (l ++ flagT y)) w' ∧ Below B w w' ∧ Soft b w w' := by
  cases y
  · go_enter Tryz.func219, Tryz.ntmps219
    go_wp2
    go_end0
    exact ⟨rfl, by simpa [flagT] using h, Below.refl _ _, Soft.refl _ _⟩
  · go_enter Tryz.func219, Tryz.ntmps219
    go_wp2_with (first
      | (go_at_call 191; refine (word_l B b l 33 _ ⟨#[]⟩ _ (by decide) (by decide) h (by simp [ByteArray.size]; omega) hBw).mono ?_; rintro e w2 ⟨rfl, h2, hb2, hf2⟩))
    go_end0
    exact ⟨rfl, by simpa [flagT, wordT] using h2, hb2, hf2⟩

end Go.Proofs.YtlehlbgaboifoabGreatDoor

/- The contract of vec of package line's writer. -/
namespace Go.Proofs.YtlehlbgaboifoabGreatDoor
open Go.RowKit
set_option linter.unusedSimpArgs false
set_option linter.unusedVariables false

set_option maxRecDepth 100000 in
set_option maxHeartbeats 2000000 in
theorem vec_l (B b : Nat) (l : List UInt8) (c m : Nat) (w : World) (hn : c ≤ 9223372036854775807) (hm : m ≤ 9223372036854775807) (h : AtW B b (Lib.byteCells l) w) (hlen : l.length ≤ 800000000) (hBw : B ≤ w.heap.size) (hT : TabB B w) :
    Calls Tryz.prog 217 #[.pointer (some ⟨b, 0, none⟩), .agg #[.int .i64 c, .int .i64 m]] w fun e w' => e = .returned (.tuple #[]) ∧ AtW B b (Lib.byteCells (l ++ vecT c m)) w' ∧ Below B w w' ∧ Soft b w w' := by
  have hl1 := numT_len 58 c hn
  have hV : Box (w.alloc (.cells #[.int .i64 c, .int .i64 m] 57)) w.heap.size #[.int .i64 c, .int .i64 m] 57 := Box.new w _ _ rfl
  have hb0 : Below w.heap.size w (w.alloc (.cells #[.int .i64 c, .int .i64 m] 57)) := up (Below.refl _ _) _
  have hA0 := InW.later h hb0
  have hT0 := hT.on (hb0.mono hBw)
  have hB0 : B ≤ (w.alloc (.cells #[.int .i64 c, .int .i64 m] 57)).heap.size := Nat.le_trans hBw hb0.size
  have c0 := hV.cells2
  have hVb : w.heap.size ≠ b := by have := h.lt; omega
  go_enter Tryz.func217, Tryz.ntmps217
  go_wp2_with (first
    | (go_at_call 192; refine (number_l B b (l ++ numT 58 c) 44 _ m _ hm (by decide) (by decide) h1 (by simp; omega) (Nat.le_trans hB0 hb1.size) (hT0.on hb1)).mono ?_; rintro e w2 ⟨rfl, h2, hb2, hf2⟩)
    | (go_at_call 192; refine (number_l B b l 58 _ c _ hn (by decide) (by decide) hA0 (by omega) hB0 hT0).mono ?_; rintro e w1 ⟨rfl, h1, hb1, hf1⟩; have hV1 := (hf1.box hV (by decide) hVb).cells2))
  go_end0
  exact ⟨rfl, by simpa [vecT, List.append_assoc] using h2, ((hb0.mono hBw).trans hb1).trans hb2, ((Soft.of_below hb0).trans hf1).trans hf2⟩

end Go.Proofs.YtlehlbgaboifoabGreatDoor

/- Text of a record of one number. -/
namespace Go.Proofs.YtlehlbgaboifoabGreatDoor
open Go.RowKit
set_option linter.unusedSimpArgs false
set_option linter.unusedVariables false

theorem wPeers_none (b : Nat) (w : World) : Calls Tryz.prog 193 #[.pointer (some ⟨b, 0, none⟩), .slice none 0 0] w fun e w' => e = .returned (.tuple #[]) ∧ w' = w := by
  go_enter Tryz.func193, Tryz.ntmps193
  go_wp2
  go_loopw [9] (fun i wr => i = .int .i64 0 ∧ wr = w) (fun _ _ => 0)
  case atStart => exact ⟨rfl, rfl⟩
  case round =>
    obtain ⟨rfl, rfl⟩ := hrel
    go_wp2
    go_end0
    exact ⟨rfl, rfl⟩

theorem wPlaces_none (b : Nat) (w : World) : Calls Tryz.prog 194 #[.pointer (some ⟨b, 0, none⟩), .slice none 0 0] w fun e w' => e = .returned (.tuple #[]) ∧ w' = w := by
  go_enter Tryz.func194, Tryz.ntmps194
  go_wp2
  go_loopw [8] (fun i wr => i = .int .i64 0 ∧ wr = w) (fun _ _ => 0)
  case atStart => exact ⟨rfl, rfl⟩
  case round =>
    obtain ⟨rfl, rfl⟩ := hrel
    go_wp2
    go_end0
    exact ⟨rfl, rfl⟩


set_option maxRecDepth 100000 in
set_option maxHeartbeats 4000000 in
theorem write_four (g : Nat) (w : World) (hg : g ≤ 9223372036854775807) (hT : TabB w.heap.size w) : Calls Tryz.prog 157 #[.agg #[.int .i64 4, .int .i64 g, .slice none 0 0, .slice none 0 0, .string ⟨#[]⟩, .int .i64 0, .int .i64 0, .slice none 0 0, .slice none 0 0, .bool false]] w fun e w' => e = .returned (.string ⟨((verbB 4).data.toList ++ numT 32 g).toArray⟩) ∧ Below w.heap.size w w' := by
  go_enter Tryz.func157, Tryz.ntmps157
  go_upto_region 4 with (first
    | (go_at_call 79; refine (known_all _ _).mono ?_; rintro e w1 ⟨rfl, rfl⟩))
  have hs : (w.alloc (Obj.cells #[.int .i64 4, .int .i64 g, .slice none 0 0, .slice none 0 0, .string ⟨#[]⟩, .int .i64 0, .int .i64 0, .slice none 0 0, .slice none 0 0, .bool false] 88 (0, 0))).heap.size = w.heap.size + 1 := by simp
  have bR : Box ((w.alloc (Obj.cells #[.int .i64 4, .int .i64 g, .slice none 0 0, .slice none 0 0, .string ⟨#[]⟩, .int .i64 0, .int .i64 0, .slice none 0 0, .slice none 0 0, .bool false] 88 (0, 0))).alloc (Obj.cells #[.pointer none, .slice none 0 0] 229 (0, 0))) w.heap.size #[.int .i64 4, .int .i64 g, .slice none 0 0, .slice none 0 0, .string ⟨#[]⟩, .int .i64 0, .int .i64 0, .slice none 0 0, .slice none 0 0, .bool false] 88 := (Box.new w _ _ rfl).up _
  have bW : Box ((w.alloc (Obj.cells #[.int .i64 4, .int .i64 g, .slice none 0 0, .slice none 0 0, .string ⟨#[]⟩, .int .i64 0, .int .i64 0, .slice none 0 0, .slice none 0 0, .bool false] 88 (0, 0))).alloc (Obj.cells #[.pointer none, .slice none 0 0] 229 (0, 0))) (w.heap.size + 1) #[.pointer none, .slice none 0 0] 229 := Box.new _ _ _ hs
  have hB0 : Below w.heap.size w ((w.alloc (Obj.cells #[.int .i64 4, .int .i64 g, .slice none 0 0, .slice none 0 0, .string ⟨#[]⟩, .int .i64 0, .int .i64 0, .slice none 0 0, .slice none 0 0, .bool false] 88 (0, 0))).alloc (Obj.cells #[.pointer none, .slice none 0 0] 229 (0, 0))) := ((Below.refl _ _).alloc (Nat.le_refl _) _).alloc (by omega) _
  generalize (w.alloc (Obj.cells #[.int .i64 4, .int .i64 g, .slice none 0 0, .slice none 0 0, .string ⟨#[]⟩, .int .i64 0, .int .i64 0, .slice none 0 0, .slice none 0 0, .bool false] 88 (0, 0))).alloc (Obj.cells #[.pointer none, .slice none 0 0] 229 (0, 0)) = W at *
  have hI : InW (w.heap.size + 1) (w.heap.size + 1) [] W := .inl ⟨Nat.le_refl _, .slice none 0 0, bW, (by simp [World.ownsRow]), by simp [Value.ownBlock]⟩
  have hI' : InW (w.heap.size + 1) (w.heap.size + 1) [] W.drew := hI
  have hl4 : ([] : List Value).length + (verbB 4).size ≤ 1000000000 := by decide +kernel
  have hW1 := bW.lt
  have hW2 : w.heap.size + 1 ≤ W.drew.heap.size := Nat.le_of_lt hW1
  have c0 : W.drew.cell? ⟨w.heap.size, 0, none⟩ = some (.int .i64 4) := bR.cell rfl
  have c0' : W.cell? ⟨w.heap.size, 0, none⟩ = some (.int .i64 4) := bR.cell rfl
  have hT1 : TabB w.heap.size W.drew := hT.on hB0.drew
  clear hT
  go_cut [] (fun wx => AtW (w.heap.size + 1) (w.heap.size + 1) (Lib.byteCells (verbB 4).data.toList) wx ∧ Below (w.heap.size + 1) W.drew wx)
  case first =>
    go_region_with (first
      | (go_at_call 189; refine (verbOf_any 4 (by decide) (by decide) _).mono ?_; rintro e w1 ⟨rfl, rfl⟩)
      | (go_at_call 188; refine (writeString_any (w.heap.size + 1) (w.heap.size + 1) [] _ _ hI' hl4 hW2).mono ?_; rintro e w2 ⟨rfl, h2, hb2, hf2⟩))
    all_goals
      go_wp2
      go_meet
      case rel => exact ⟨h2, hb2⟩
  case rest =>
    obtain ⟨hA, hbA⟩ := hcut
    have f0 := cell_below hbA c0 (Nat.lt_succ_self _)
    have f1 := cell_below hbA (a := ⟨w.heap.size, 1, none⟩) (v := .int .i64 g) (bR.cell rfl) (Nat.lt_succ_self _)
    have f2 := cell_below hbA (a := ⟨w.heap.size, 2, none⟩) (v := .slice none 0 0) (bR.cell rfl) (Nat.lt_succ_self _)
    have f3 := cell_below hbA (a := ⟨w.heap.size, 3, none⟩) (v := .slice none 0 0) (bR.cell rfl) (Nat.lt_succ_self _)
    have hsA : w.heap.size + 1 ≤ wc.heap.size := Nat.le_trans hW2 hbA.size
    have hTA : TabB (w.heap.size + 1) wc := (hT1.up (Nat.le_succ _)).on hbA
    have hnum := number_l (w.heap.size + 1) (w.heap.size + 1) (verbB 4).data.toList 32 32 g wc hg (by decide) (by decide) hA (by decide) hsA hTA
    clear hTA hT1
    go_wp2_with (first
      | (go_at_call 192; refine hnum.mono ?_; rintro e w3 ⟨rfl, h3, hb3, hf3⟩; have g2 := cell_below hb3 f2 (Nat.lt_succ_self _); have g3 := cell_below hb3 f3 (Nat.lt_succ_self _))
      | (go_at_call 193; refine (wPeers_none _ _).mono ?_; rintro e w4 ⟨rfl, rfl⟩)
      | (go_at_call 194; refine (wPlaces_none _ _).mono ?_; rintro e w5 ⟨rfl, rfl⟩)
      | (go_at_call 195; refine (string_at (w.heap.size + 1) (w.heap.size + 1) _ _ h3 (by simp [numT])).mono ?_; rintro e w6 ⟨rfl, hb6⟩))
    refine bodyPost_ret (by simp [results, Tryz.results157, go_sem]) rfl ⟨rfl, (hB0.drew).trans (((hbA.trans hb3).trans hb6).mono (Nat.le_succ _))⟩

theorem text_four (g : Nat) (w : World) (hg : g ≤ 9223372036854775807) (hT : TabB w.heap.size w) : Calls Tryz.prog 122 #[.agg #[.int .i64 4, .int .i64 g, .slice none 0 0, .slice none 0 0, .string ⟨#[]⟩, .int .i64 0, .int .i64 0, .slice none 0 0, .slice none 0 0, .bool false]] w fun e w' => e = .returned (.string ⟨((verbB 4).data.toList ++ numT 32 g).toArray⟩) ∧ Below w.heap.size w w' := by
  have hb0 : Below w.heap.size w (w.alloc (Obj.cells #[.int .i64 4, .int .i64 g, .slice none 0 0, .slice none 0 0, .string ⟨#[]⟩, .int .i64 0, .int .i64 0, .slice none 0 0, .slice none 0 0, .bool false] 88 (0, 0))) := up (Below.refl _ _) _
  have q := Box.new w #[.int .i64 4, .int .i64 g, .slice none 0 0, .slice none 0 0, .string ⟨#[]⟩, .int .i64 0, .int .i64 0, .slice none 0 0, .slice none 0 0, .bool false] 88 rfl
  obtain ⟨x0, x1, x2, x3, x4, x5, x6, x7, x8, x9⟩ := RecBox.cells q
  have kw := write_four g (w.alloc (Obj.cells #[.int .i64 4, .int .i64 g, .slice none 0 0, .slice none 0 0, .string ⟨#[]⟩, .int .i64 0, .int .i64 0, .slice none 0 0, .slice none 0 0, .bool false] 88 (0, 0))) hg ((hT.on hb0).up hb0.size)
  clear hT
  go_enter Tryz.func122, Tryz.ntmps122
  go_wp2_with (go_at_call 157; refine kw.mono ?_; rintro e w1 ⟨rfl, hb1⟩)
  go_ret
  exact ⟨rfl, fin hb1 hb0⟩

set_option maxRecDepth 100000 in
set_option maxHeartbeats 4000000 in
theorem write_five (g : Nat) (w : World) (hg : g ≤ 9223372036854775807) (hT : TabB w.heap.size w) : Calls Tryz.prog 157 #[.agg #[.int .i64 5, .int .i64 g, .slice none 0 0, .slice none 0 0, .string ⟨#[]⟩, .int .i64 0, .int .i64 0, .slice none 0 0, .slice none 0 0, .bool false]] w fun e w' => e = .returned (.string ⟨((verbB 5).data.toList ++ numT 32 g).toArray⟩) ∧ Below w.heap.size w w' := by
  go_enter Tryz.func157, Tryz.ntmps157
  go_upto_region 4 with (first
    | (go_at_call 79; refine (known_all _ _).mono ?_; rintro e w1 ⟨rfl, rfl⟩))
  have hs : (w.alloc (Obj.cells #[.int .i64 5, .int .i64 g, .slice none 0 0, .slice none 0 0, .string ⟨#[]⟩, .int .i64 0, .int .i64 0, .slice none 0 0, .slice none 0 0, .bool false] 88 (0, 0))).heap.size = w.heap.size + 1 := by simp
  have bR : Box ((w.alloc (Obj.cells #[.int .i64 5, .int .i64 g, .slice none 0 0, .slice none 0 0, .string ⟨#[]⟩, .int .i64 0, .int .i64 0, .slice none 0 0, .slice none 0 0, .bool false] 88 (0, 0))).alloc (Obj.cells #[.pointer none, .slice none 0 0] 229 (0, 0))) w.heap.size #[.int .i64 5, .int .i64 g, .slice none 0 0, .slice none 0 0, .string ⟨#[]⟩, .int .i64 0, .int .i64 0, .slice none 0 0, .slice none 0 0, .bool false] 88 := (Box.new w _ _ rfl).up _
  have bW : Box ((w.alloc (Obj.cells #[.int .i64 5, .int .i64 g, .slice none 0 0, .slice none 0 0, .string ⟨#[]⟩, .int .i64 0, .int .i64 0, .slice none 0 0, .slice none 0 0, .bool false] 88 (0, 0))).alloc (Obj.cells #[.pointer none, .slice none 0 0] 229 (0, 0))) (w.heap.size + 1) #[.pointer none, .slice none 0 0] 229 := Box.new _ _ _ hs
  have hB0 : Below w.heap.size w ((w.alloc (Obj.cells #[.int .i64 5, .int .i64 g, .slice none 0 0, .slice none 0 0, .string ⟨#[]⟩, .int .i64 0, .int .i64 0, .slice none 0 0, .slice none 0 0, .bool false] 88 (0, 0))).alloc (Obj.cells #[.pointer none, .slice none 0 0] 229 (0, 0))) := ((Below.refl _ _).alloc (Nat.le_refl _) _).alloc (by omega) _
  generalize (w.alloc (Obj.cells #[.int .i64 5, .int .i64 g, .slice none 0 0, .slice none 0 0, .string ⟨#[]⟩, .int .i64 0, .int .i64 0, .slice none 0 0, .slice none 0 0, .bool false] 88 (0, 0))).alloc (Obj.cells #[.pointer none, .slice none 0 0] 229 (0, 0)) = W at *
  have hI : InW (w.heap.size + 1) (w.heap.size + 1) [] W := .inl ⟨Nat.le_refl _, .slice none 0 0, bW, (by simp [World.ownsRow]), by simp [Value.ownBlock]⟩
  have hI' : InW (w.heap.size + 1) (w.heap.size + 1) [] W.drew := hI
  have hl4 : ([] : List Value).length + (verbB 5).size ≤ 1000000000 := by decide +kernel
  have hW1 := bW.lt
  have hW2 : w.heap.size + 1 ≤ W.drew.heap.size := Nat.le_of_lt hW1
  have c0 : W.drew.cell? ⟨w.heap.size, 0, none⟩ = some (.int .i64 5) := bR.cell rfl
  have c0' : W.cell? ⟨w.heap.size, 0, none⟩ = some (.int .i64 5) := bR.cell rfl
  have hT1 : TabB w.heap.size W.drew := hT.on hB0.drew
  clear hT
  go_cut [] (fun wx => AtW (w.heap.size + 1) (w.heap.size + 1) (Lib.byteCells (verbB 5).data.toList) wx ∧ Below (w.heap.size + 1) W.drew wx)
  case first =>
    go_region_with (first
      | (go_at_call 189; refine (verbOf_any 5 (by decide) (by decide) _).mono ?_; rintro e w1 ⟨rfl, rfl⟩)
      | (go_at_call 188; refine (writeString_any (w.heap.size + 1) (w.heap.size + 1) [] _ _ hI' hl4 hW2).mono ?_; rintro e w2 ⟨rfl, h2, hb2, hf2⟩))
    all_goals
      go_wp2
      go_meet
      case rel => exact ⟨h2, hb2⟩
  case rest =>
    obtain ⟨hA, hbA⟩ := hcut
    have f0 := cell_below hbA c0 (Nat.lt_succ_self _)
    have f1 := cell_below hbA (a := ⟨w.heap.size, 1, none⟩) (v := .int .i64 g) (bR.cell rfl) (Nat.lt_succ_self _)
    have f2 := cell_below hbA (a := ⟨w.heap.size, 2, none⟩) (v := .slice none 0 0) (bR.cell rfl) (Nat.lt_succ_self _)
    have f3 := cell_below hbA (a := ⟨w.heap.size, 3, none⟩) (v := .slice none 0 0) (bR.cell rfl) (Nat.lt_succ_self _)
    have hsA : w.heap.size + 1 ≤ wc.heap.size := Nat.le_trans hW2 hbA.size
    have hTA : TabB (w.heap.size + 1) wc := (hT1.up (Nat.le_succ _)).on hbA
    have hnum := number_l (w.heap.size + 1) (w.heap.size + 1) (verbB 5).data.toList 32 32 g wc hg (by decide) (by decide) hA (by decide) hsA hTA
    clear hTA hT1
    go_wp2_with (first
      | (go_at_call 192; refine hnum.mono ?_; rintro e w3 ⟨rfl, h3, hb3, hf3⟩; have g2 := cell_below hb3 f2 (Nat.lt_succ_self _); have g3 := cell_below hb3 f3 (Nat.lt_succ_self _))
      | (go_at_call 193; refine (wPeers_none _ _).mono ?_; rintro e w4 ⟨rfl, rfl⟩)
      | (go_at_call 194; refine (wPlaces_none _ _).mono ?_; rintro e w5 ⟨rfl, rfl⟩)
      | (go_at_call 195; refine (string_at (w.heap.size + 1) (w.heap.size + 1) _ _ h3 (by simp [numT])).mono ?_; rintro e w6 ⟨rfl, hb6⟩))
    refine bodyPost_ret (by simp [results, Tryz.results157, go_sem]) rfl ⟨rfl, (hB0.drew).trans (((hbA.trans hb3).trans hb6).mono (Nat.le_succ _))⟩

theorem text_five (g : Nat) (w : World) (hg : g ≤ 9223372036854775807) (hT : TabB w.heap.size w) : Calls Tryz.prog 122 #[.agg #[.int .i64 5, .int .i64 g, .slice none 0 0, .slice none 0 0, .string ⟨#[]⟩, .int .i64 0, .int .i64 0, .slice none 0 0, .slice none 0 0, .bool false]] w fun e w' => e = .returned (.string ⟨((verbB 5).data.toList ++ numT 32 g).toArray⟩) ∧ Below w.heap.size w w' := by
  have hb0 : Below w.heap.size w (w.alloc (Obj.cells #[.int .i64 5, .int .i64 g, .slice none 0 0, .slice none 0 0, .string ⟨#[]⟩, .int .i64 0, .int .i64 0, .slice none 0 0, .slice none 0 0, .bool false] 88 (0, 0))) := up (Below.refl _ _) _
  have q := Box.new w #[.int .i64 5, .int .i64 g, .slice none 0 0, .slice none 0 0, .string ⟨#[]⟩, .int .i64 0, .int .i64 0, .slice none 0 0, .slice none 0 0, .bool false] 88 rfl
  obtain ⟨x0, x1, x2, x3, x4, x5, x6, x7, x8, x9⟩ := RecBox.cells q
  have kw := write_five g (w.alloc (Obj.cells #[.int .i64 5, .int .i64 g, .slice none 0 0, .slice none 0 0, .string ⟨#[]⟩, .int .i64 0, .int .i64 0, .slice none 0 0, .slice none 0 0, .bool false] 88 (0, 0))) hg ((hT.on hb0).up hb0.size)
  clear hT
  go_enter Tryz.func122, Tryz.ntmps122
  go_wp2_with (go_at_call 157; refine kw.mono ?_; rintro e w1 ⟨rfl, hb1⟩)
  go_ret
  exact ⟨rfl, fin hb1 hb0⟩

set_option maxRecDepth 100000 in
set_option maxHeartbeats 4000000 in
theorem write_six (g : Nat) (w : World) (hg : g ≤ 9223372036854775807) (hT : TabB w.heap.size w) : Calls Tryz.prog 157 #[.agg #[.int .i64 6, .int .i64 g, .slice none 0 0, .slice none 0 0, .string ⟨#[]⟩, .int .i64 0, .int .i64 0, .slice none 0 0, .slice none 0 0, .bool false]] w fun e w' => e = .returned (.string ⟨((verbB 6).data.toList ++ numT 32 g).toArray⟩) ∧ Below w.heap.size w w' := by
  go_enter Tryz.func157, Tryz.ntmps157
  go_upto_region 4 with (first
    | (go_at_call 79; refine (known_all _ _).mono ?_; rintro e w1 ⟨rfl, rfl⟩))
  have hs : (w.alloc (Obj.cells #[.int .i64 6, .int .i64 g, .slice none 0 0, .slice none 0 0, .string ⟨#[]⟩, .int .i64 0, .int .i64 0, .slice none 0 0, .slice none 0 0, .bool false] 88 (0, 0))).heap.size = w.heap.size + 1 := by simp
  have bR : Box ((w.alloc (Obj.cells #[.int .i64 6, .int .i64 g, .slice none 0 0, .slice none 0 0, .string ⟨#[]⟩, .int .i64 0, .int .i64 0, .slice none 0 0, .slice none 0 0, .bool false] 88 (0, 0))).alloc (Obj.cells #[.pointer none, .slice none 0 0] 229 (0, 0))) w.heap.size #[.int .i64 6, .int .i64 g, .slice none 0 0, .slice none 0 0, .string ⟨#[]⟩, .int .i64 0, .int .i64 0, .slice none 0 0, .slice none 0 0, .bool false] 88 := (Box.new w _ _ rfl).up _
  have bW : Box ((w.alloc (Obj.cells #[.int .i64 6, .int .i64 g, .slice none 0 0, .slice none 0 0, .string ⟨#[]⟩, .int .i64 0, .int .i64 0, .slice none 0 0, .slice none 0 0, .bool false] 88 (0, 0))).alloc (Obj.cells #[.pointer none, .slice none 0 0] 229 (0, 0))) (w.heap.size + 1) #[.pointer none, .slice none 0 0] 229 := Box.new _ _ _ hs
  have hB0 : Below w.heap.size w ((w.alloc (Obj.cells #[.int .i64 6, .int .i64 g, .slice none 0 0, .slice none 0 0, .string ⟨#[]⟩, .int .i64 0, .int .i64 0, .slice none 0 0, .slice none 0 0, .bool false] 88 (0, 0))).alloc (Obj.cells #[.pointer none, .slice none 0 0] 229 (0, 0))) := ((Below.refl _ _).alloc (Nat.le_refl _) _).alloc (by omega) _
  generalize (w.alloc (Obj.cells #[.int .i64 6, .int .i64 g, .slice none 0 0, .slice none 0 0, .string ⟨#[]⟩, .int .i64 0, .int .i64 0, .slice none 0 0, .slice none 0 0, .bool false] 88 (0, 0))).alloc (Obj.cells #[.pointer none, .slice none 0 0] 229 (0, 0)) = W at *
  have hI : InW (w.heap.size + 1) (w.heap.size + 1) [] W := .inl ⟨Nat.le_refl _, .slice none 0 0, bW, (by simp [World.ownsRow]), by simp [Value.ownBlock]⟩
  have hI' : InW (w.heap.size + 1) (w.heap.size + 1) [] W.drew := hI
  have hl4 : ([] : List Value).length + (verbB 6).size ≤ 1000000000 := by decide +kernel
  have hW1 := bW.lt
  have hW2 : w.heap.size + 1 ≤ W.drew.heap.size := Nat.le_of_lt hW1
  have c0 : W.drew.cell? ⟨w.heap.size, 0, none⟩ = some (.int .i64 6) := bR.cell rfl
  have c0' : W.cell? ⟨w.heap.size, 0, none⟩ = some (.int .i64 6) := bR.cell rfl
  have hT1 : TabB w.heap.size W.drew := hT.on hB0.drew
  clear hT
  go_cut [] (fun wx => AtW (w.heap.size + 1) (w.heap.size + 1) (Lib.byteCells (verbB 6).data.toList) wx ∧ Below (w.heap.size + 1) W.drew wx)
  case first =>
    go_region_with (first
      | (go_at_call 189; refine (verbOf_any 6 (by decide) (by decide) _).mono ?_; rintro e w1 ⟨rfl, rfl⟩)
      | (go_at_call 188; refine (writeString_any (w.heap.size + 1) (w.heap.size + 1) [] _ _ hI' hl4 hW2).mono ?_; rintro e w2 ⟨rfl, h2, hb2, hf2⟩))
    all_goals
      go_wp2
      go_meet
      case rel => exact ⟨h2, hb2⟩
  case rest =>
    obtain ⟨hA, hbA⟩ := hcut
    have f0 := cell_below hbA c0 (Nat.lt_succ_self _)
    have f1 := cell_below hbA (a := ⟨w.heap.size, 1, none⟩) (v := .int .i64 g) (bR.cell rfl) (Nat.lt_succ_self _)
    have f2 := cell_below hbA (a := ⟨w.heap.size, 2, none⟩) (v := .slice none 0 0) (bR.cell rfl) (Nat.lt_succ_self _)
    have f3 := cell_below hbA (a := ⟨w.heap.size, 3, none⟩) (v := .slice none 0 0) (bR.cell rfl) (Nat.lt_succ_self _)
    have hsA : w.heap.size + 1 ≤ wc.heap.size := Nat.le_trans hW2 hbA.size
    have hTA : TabB (w.heap.size + 1) wc := (hT1.up (Nat.le_succ _)).on hbA
    have hnum := number_l (w.heap.size + 1) (w.heap.size + 1) (verbB 6).data.toList 32 32 g wc hg (by decide) (by decide) hA (by decide) hsA hTA
    clear hTA hT1
    go_wp2_with (first
      | (go_at_call 192; refine hnum.mono ?_; rintro e w3 ⟨rfl, h3, hb3, hf3⟩; have g2 := cell_below hb3 f2 (Nat.lt_succ_self _); have g3 := cell_below hb3 f3 (Nat.lt_succ_self _))
      | (go_at_call 193; refine (wPeers_none _ _).mono ?_; rintro e w4 ⟨rfl, rfl⟩)
      | (go_at_call 194; refine (wPlaces_none _ _).mono ?_; rintro e w5 ⟨rfl, rfl⟩)
      | (go_at_call 195; refine (string_at (w.heap.size + 1) (w.heap.size + 1) _ _ h3 (by simp [numT])).mono ?_; rintro e w6 ⟨rfl, hb6⟩))
    refine bodyPost_ret (by simp [results, Tryz.results157, go_sem]) rfl ⟨rfl, (hB0.drew).trans (((hbA.trans hb3).trans hb6).mono (Nat.le_succ _))⟩

theorem text_six (g : Nat) (w : World) (hg : g ≤ 9223372036854775807) (hT : TabB w.heap.size w) : Calls Tryz.prog 122 #[.agg #[.int .i64 6, .int .i64 g, .slice none 0 0, .slice none 0 0, .string ⟨#[]⟩, .int .i64 0, .int .i64 0, .slice none 0 0, .slice none 0 0, .bool false]] w fun e w' => e = .returned (.string ⟨((verbB 6).data.toList ++ numT 32 g).toArray⟩) ∧ Below w.heap.size w w' := by
  have hb0 : Below w.heap.size w (w.alloc (Obj.cells #[.int .i64 6, .int .i64 g, .slice none 0 0, .slice none 0 0, .string ⟨#[]⟩, .int .i64 0, .int .i64 0, .slice none 0 0, .slice none 0 0, .bool false] 88 (0, 0))) := up (Below.refl _ _) _
  have q := Box.new w #[.int .i64 6, .int .i64 g, .slice none 0 0, .slice none 0 0, .string ⟨#[]⟩, .int .i64 0, .int .i64 0, .slice none 0 0, .slice none 0 0, .bool false] 88 rfl
  obtain ⟨x0, x1, x2, x3, x4, x5, x6, x7, x8, x9⟩ := RecBox.cells q
  have kw := write_six g (w.alloc (Obj.cells #[.int .i64 6, .int .i64 g, .slice none 0 0, .slice none 0 0, .string ⟨#[]⟩, .int .i64 0, .int .i64 0, .slice none 0 0, .slice none 0 0, .bool false] 88 (0, 0))) hg ((hT.on hb0).up hb0.size)
  clear hT
  go_enter Tryz.func122, Tryz.ntmps122
  go_wp2_with (go_at_call 157; refine kw.mono ?_; rintro e w1 ⟨rfl, hb1⟩)
  go_ret
  exact ⟨rfl, fin hb1 hb0⟩

end Go.Proofs.YtlehlbgaboifoabGreatDoor

/- The contracts of words, peers, places, node of package line's writer. -/
namespace Go.Proofs.YtlehlbgaboifoabGreatDoor
open Go.RowKit
set_option linter.unusedSimpArgs false
set_option linter.unusedVariables false

/-- Names, a sign ahead of each. -/
def namesT (c : UInt8) (ss : List ByteArray) : List UInt8 := ss.flatMap (wordT c)
/-- Numbers, a sign ahead of each, the first one's this one, the others' a comma. -/
def peersT : UInt8 → List Nat → List UInt8
  | _, [] => []
  | c, n :: l => numT c n ++ peersT 44 l
/-- A place. -/
def placeT (p : PlaceB) : List UInt8 := wordT 32 p.pod ++ wordT 62 p.node ++ vecT p.cpu p.mem ++ flagT p.alone
def placesT (l : List PlaceB) : List UInt8 := l.flatMap placeT
/-- A node. -/
def nodeT (n : NodeB) : List UInt8 := wordT 32 n.name ++ vecT n.cpu n.mem ++ namesT 43 n.marks ++ namesT 126 n.taints ++ flagT n.closed

/-- A row of numbers. -/
def Nats (w : World) (a : Option Addr) (ps : List Nat) : Prop := ∀ i, i < ps.length → ∃ x, a = some x ∧ w.cell? (x.add i) = some (.int .i64 (ps.getD i 0))
/-- A place in memory. -/
def lPlaceAt (w : World) (g o : Nat) (p : PlaceB) : Prop :=
  w.cell? ⟨g, o, none⟩ = some (.string p.pod) ∧ w.cell? ⟨g, o + 1, none⟩ = some (.string p.node) ∧ w.cell? ⟨g, o + 2, none⟩ = some (.int .i64 p.cpu) ∧ w.cell? ⟨g, o + 3, none⟩ = some (.int .i64 p.mem) ∧ w.cell? ⟨g, o + 4, none⟩ = some (.bool p.alone)
/-- A row of places. -/
def lPls (w : World) (a : Option Addr) (qs : List PlaceB) : Prop := ∀ i p, qs[i]? = some p → ∃ g o, a = some ⟨g, o, none⟩ ∧ lPlaceAt w g (o + i * 5) p
/-- A row that lies below block B. -/
def Low (B : Nat) (a : Option Addr) : Prop := ∀ x, a = some x → x.block < B

theorem add_low {B : Nat} {x : Addr} (h : x.block < B) (i : Nat) : (x.add i).block < B := by
  unfold Addr.add
  split <;> exact h
theorem Strs.on {B : Nat} {w w' : World} {a : Option Addr} {ss : List ByteArray} (h : Strs w a ss) (hl : Low B a) (hb : Below B w w') : Strs w' a ss :=
  ⟨h.1, fun i hi => by
    obtain ⟨x, hx, hc⟩ := h.2 i hi
    exact ⟨x, hx, cell_below hb hc (add_low (hl x hx) i)⟩⟩
theorem Nats.on {B : Nat} {w w' : World} {a : Option Addr} {ps : List Nat} (h : Nats w a ps) (hl : Low B a) (hb : Below B w w') : Nats w' a ps := fun i hi => by
  obtain ⟨x, hx, hc⟩ := h i hi
  exact ⟨x, hx, cell_below hb hc (add_low (hl x hx) i)⟩
theorem lPlaceAt.on {B : Nat} {w w' : World} {g o : Nat} {p : PlaceB} (h : lPlaceAt w g o p) (hl : g < B) (hb : Below B w w') : lPlaceAt w' g o p :=
  ⟨cell_below hb h.1 hl, cell_below hb h.2.1 hl, cell_below hb h.2.2.1 hl, cell_below hb h.2.2.2.1 hl, cell_below hb h.2.2.2.2 hl⟩
theorem lPls.on {B : Nat} {w w' : World} {a : Option Addr} {qs : List PlaceB} (h : lPls w a qs) (hl : Low B a) (hb : Below B w w') : lPls w' a qs := fun i p hp => by
  obtain ⟨g, o, ha, hc⟩ := h i p hp
  exact ⟨g, o, ha, hc.on (hl _ ha) hb⟩

theorem take_snoc {α : Type} (l : List α) (k : Nat) (x : α) (h : l[k]? = some x) : l.take (k + 1) = l.take k ++ [x] := by
  have hk : k < l.length := (List.getElem?_eq_some_iff.1 h).1
  rw [List.take_succ_eq_append_getElem hk]
  congr 2
  exact (List.getElem?_eq_some_iff.1 h).2

theorem getD_some {α : Type} (l : List α) (k : Nat) (d : α) (h : k < l.length) : l[k]? = some (l.getD k d) := by
  simp [List.getD, List.getElem?_eq_getElem h]

theorem flat_take {α : Type} (f : α → List UInt8) (l : List α) (k : Nat) (x : α) (h : l[k]? = some x) : (l.take (k + 1)).flatMap f = (l.take k).flatMap f ++ f x := by
  rw [take_snoc l k x h, List.flatMap_append]
  simp

theorem flat_len {α : Type} (f : α → List UInt8) (l : List α) (m : Nat) (h : ∀ x ∈ l, (f x).length ≤ m) : (l.flatMap f).length ≤ l.length * m := by
  induction l with
  | nil => simp
  | cons x l ih =>
    have h1 := h x (by simp)
    have h2 := ih fun y hy => h y (by simp [hy])
    simp only [List.flatMap_cons, List.length_append, List.length_cons, Nat.add_mul, Nat.one_mul]
    omega

theorem wordT_len (c : UInt8) (s : ByteArray) : (wordT c s).length = s.size + 1 := by
  show (s.data.toList).length + 1 = _
  rw [Array.length_toList]
  rfl

set_option maxRecDepth 100000 in
set_option maxHeartbeats 2000000 in
theorem words_l (B b : Nat) (l : List UInt8) (c : UInt8) (a : Option Addr) (n cp : Nat) (ss : List ByteArray) (w : World) (hc : c.toNat ≤ 127) (h : AtW B b (Lib.byteCells l) w) (hS : Strs w a ss) (hn : ss.length = n) (hlo : Low B a) (hz : ∀ s ∈ ss, s.size ≤ 10000) (hlen : l.length ≤ 100000000) (hBw : B ≤ w.heap.size) :
    Calls Tryz.prog 218 #[.pointer (some ⟨b, 0, none⟩), .int .i32 c.toNat, .slice a n cp] w fun e w' => e = .returned (.tuple #[]) ∧ AtW B b (Lib.byteCells (l ++ namesT c ss)) w' ∧ Below B w w' ∧ Soft b w w' := by
  subst hn
  have hl := hS.1
  go_enter Tryz.func218, Tryz.ntmps218
  go_wp2
  go_loopw [10] (fun i wr => ∃ k : Nat, k ≤ ss.length ∧ i = .int .i64 k ∧ AtW B b (Lib.byteCells (l ++ namesT c (ss.take k))) wr ∧ Below B w wr ∧ Soft b w wr) (fun i _ => ss.length - (intOf i).toNat)
  case atStart => exact ⟨0, Nat.zero_le _, rfl, (by simpa [namesT] using h), Below.refl _ _, Soft.refl _ _⟩
  case round =>
    obtain ⟨k, hk, rfl, hA, hb, hf⟩ := hrel
    by_cases hlt : k < ss.length
    · obtain ⟨x, rfl, hcx⟩ := (hS.on hlo hb).2 k hlt
      have hget := getD_some ss k ByteArray.empty hlt
      obtain ⟨s, hs⟩ : ∃ s, ss.getD k ByteArray.empty = s := ⟨_, rfl⟩
      rw [hs] at hcx hget
      have hst : Hid (namesT c (ss.take (k + 1)) = namesT c (ss.take k) ++ wordT c s) := flat_take _ _ _ _ hget
      have hsz : s.size ≤ 10000 := hz s (List.mem_of_getElem? hget)
      have hL : (l ++ namesT c (ss.take k)).length + s.size + 1 ≤ 1000000000 := by
        have h1 := flat_len (wordT c) (ss.take k) 10001 (fun y hy => by rw [wordT_len]; have := hz y (List.mem_of_mem_take hy); omega)
        have h2 : (ss.take k).length ≤ 1000 := by rw [List.length_take]; omega
        rw [List.length_append]
        show l.length + ((ss.take k).flatMap (wordT c)).length + s.size + 1 ≤ _
        omega
      have kw := word_l B b _ c c.toNat s wr rfl hc hA hL (Nat.le_trans hBw hb.size)
      clear hget hs hS hz hL hsz
      go_wp2_with (go_at_call 191; refine kw.mono ?_; rintro e w2 ⟨rfl, h2, hb2, hf2⟩)
      go_roundw
      case rel => exact ⟨k + 1, hlt, by go_num, (by rw [hst.out, ← List.append_assoc]; exact h2), hb.trans hb2, hf.trans hf2⟩
      case measure => simp [intOf]; omega
    · have e1 : k = ss.length := by omega
      rw [e1, List.take_length] at hA
      subst e1
      clear hS hz
      go_wp2
      go_end0
      exact ⟨rfl, hA, hb, hf⟩

theorem peers_take (c : UInt8) (ps : List Nat) (k x : Nat) (h : ps[k]? = some x) : peersT c (ps.take (k + 1)) = peersT c (ps.take k) ++ numT (if k = 0 then c else 44) x := by
  induction ps generalizing c k with
  | nil => simp at h
  | cons n l ih =>
    cases k with
    | zero =>
      have : n = x := by simpa using h
      subst this
      simp [peersT]
    | succ k =>
      have h' : l[k]? = some x := by simpa using h
      simp only [List.take_succ_cons, peersT]
      rw [ih 44 k h', List.append_assoc]
      congr 2
      split <;> rfl

theorem peersT_len : ∀ (l : List Nat) (c : UInt8), (∀ x ∈ l, x ≤ 9223372036854775807) → (peersT c l).length ≤ l.length * 22
  | [], _, _ => by simp [peersT]
  | n :: l, c, h => by
    have h1 := numT_len c n (h n (by simp))
    have h2 := peersT_len l 44 fun x hx => h x (by simp [hx])
    simp only [peersT, List.length_append, List.length_cons]
    omega

set_option maxRecDepth 100000 in
set_option maxHeartbeats 2000000 in
theorem wPeers_l (B b : Nat) (l : List UInt8) (a : Option Addr) (n cp : Nat) (ps : List Nat) (w : World) (h : AtW B b (Lib.byteCells l) w) (hS : Nats w a ps) (hn : ps.length = n) (hn1 : n ≤ 1000) (hlo : Low B a) (hz : ∀ x ∈ ps, x ≤ 9223372036854775807) (hlen : l.length ≤ 100000000) (hBw : B ≤ w.heap.size) (hT : TabB B w) :
    Calls Tryz.prog 193 #[.pointer (some ⟨b, 0, none⟩), .slice a n cp] w fun e w' => e = .returned (.tuple #[]) ∧ AtW B b (Lib.byteCells (l ++ peersT 32 ps)) w' ∧ Below B w w' ∧ Soft b w w' := by
  subst hn
  go_enter Tryz.func193, Tryz.ntmps193
  go_wp2
  go_loopw [4, 9] (fun s i wr => ∃ k : Nat, k ≤ ps.length ∧ i = .int .i64 k ∧ s = .int .i32 (if k = 0 then 32 else 44) ∧ AtW B b (Lib.byteCells (l ++ peersT 32 (ps.take k))) wr ∧ Below B w wr ∧ Soft b w wr) (fun _ i _ => ps.length - (intOf i).toNat)
  case atStart => exact ⟨0, Nat.zero_le _, rfl, rfl, (by simpa [peersT] using h), Below.refl _ _, Soft.refl _ _⟩
  case round =>
    obtain ⟨k, hk, rfl, rfl, hA, hb, hf⟩ := hrel
    by_cases hlt : k < ps.length
    · obtain ⟨x, rfl, hcx⟩ := hS.on hlo hb k hlt
      have hget := getD_some ps k 0 hlt
      obtain ⟨s, hs⟩ : ∃ s, ps.getD k 0 = s := ⟨_, rfl⟩
      rw [hs] at hcx hget
      have hst : Hid (peersT 32 (ps.take (k + 1)) = peersT 32 (ps.take k) ++ numT (if k = 0 then 32 else 44) s) := peers_take _ _ _ _ hget
      have hsz := hz s (List.mem_of_getElem? hget)
      have hL : (l ++ peersT 32 (ps.take k)).length ≤ 900000000 := by
        have h1 := peersT_len (ps.take k) 32 (fun y hy => hz y (List.mem_of_mem_take hy))
        have h2 : (ps.take k).length ≤ 1000 := by rw [List.length_take]; omega
        rw [List.length_append]
        omega
      obtain ⟨c, hcc⟩ : ∃ c : UInt8, (if k = 0 then (32 : UInt8) else 44) = c := ⟨_, rfl⟩
      have hc7 : c.toNat ≤ 127 := by rw [← hcc]; split <;> decide
      have hci : (if k = 0 then (32 : Int) else 44) = c.toNat := by rw [← hcc]; split <;> decide
      rw [hcc] at hst
      rw [hci]
      have kw := number_l B b _ c c.toNat s wr hsz rfl hc7 hA hL (Nat.le_trans hBw hb.size) (hT.on hb)
      clear hget hs hS hz hL hsz hci hcc
      go_wp2_with (go_at_call 192; refine kw.mono ?_; rintro e w2 ⟨rfl, h2, hb2, hf2⟩)
      go_roundw
      case rel => exact ⟨k + 1, hlt, by go_num, rfl, (by rw [hst.out, ← List.append_assoc]; exact h2), hb.trans hb2, hf.trans hf2⟩
      case measure => simp [intOf]; omega
    · have e1 : k = ps.length := by omega
      rw [e1, List.take_length] at hA
      subst e1
      obtain ⟨s4, hs4⟩ : ∃ s4, (if ps.length = 0 then (32 : Int) else 44) = s4 := ⟨_, rfl⟩
      rw [hs4]
      clear hS hz hs4
      go_wp2
      go_end0
      exact ⟨rfl, hA, hb, hf⟩

end Go.Proofs.YtlehlbgaboifoabGreatDoor

/- The contracts of places, node of package line's writer. -/
namespace Go.Proofs.YtlehlbgaboifoabGreatDoor
open Go.RowKit
set_option linter.unusedSimpArgs false
set_option linter.unusedVariables false

/-- A place that is not too much. -/
def FewP (p : PlaceB) : Prop := p.pod.size ≤ 10000 ∧ p.node.size ≤ 10000 ∧ p.cpu ≤ 9223372036854775807 ∧ p.mem ≤ 9223372036854775807

theorem vecT_len (c m : Nat) (hc : c ≤ 9223372036854775807) (hm : m ≤ 9223372036854775807) : (vecT c m).length ≤ 44 := by
  have h1 := numT_len 58 c hc
  have h2 := numT_len 44 m hm
  simp only [vecT, List.length_append]
  omega
theorem flagT_len (y : Bool) : (flagT y).length ≤ 1 := by cases y <;> simp [flagT]

theorem placeT_len (p : PlaceB) (h : FewP p) : (placeT p).length ≤ 20050 := by
  have h1 := vecT_len p.cpu p.mem h.2.2.1 h.2.2.2
  have h2 := flagT_len p.alone
  have h3 := h.1
  have h4 := h.2.1
  simp only [placeT, List.length_append, wordT_len]
  omega

theorem Box.cells5' {w : World} {B : Nat} {t : TypeId} {x0 x1 x2 x3 x4 : Value} (h : Box w B #[x0, x1, x2, x3, x4] t) : w.cell? ⟨B, 0, none⟩ = some x0 ∧ w.cell? ⟨B, 1, none⟩ = some x1 ∧ w.cell? ⟨B, 2, none⟩ = some x2 ∧ w.cell? ⟨B, 3, none⟩ = some x3 ∧ w.cell? ⟨B, 4, none⟩ = some x4 := ⟨h.cell rfl, h.cell rfl, h.cell rfl, h.cell rfl, h.cell rfl⟩

set_option maxRecDepth 100000 in
set_option maxHeartbeats 4000000 in
theorem places_l (B b : Nat) (l : List UInt8) (a : Option Addr) (n cp : Nat) (qs : List PlaceB) (w : World) (h : AtW B b (Lib.byteCells l) w) (hS : lPls w a qs) (hn : qs.length = n) (hn1 : n ≤ 1000) (hlo : Low B a) (hz : ∀ p ∈ qs, FewP p) (hlen : l.length ≤ 100000000) (hBw : B ≤ w.heap.size) (hT : TabB B w) :
    Calls Tryz.prog 194 #[.pointer (some ⟨b, 0, none⟩), .slice a n cp] w fun e w' => e = .returned (.tuple #[]) ∧ AtW B b (Lib.byteCells (l ++ placesT qs)) w' ∧ Below B w w' ∧ Soft b w w' := by
  subst hn
  go_enter Tryz.func194, Tryz.ntmps194
  go_wp2
  go_loopw [8] (fun i wr => ∃ k : Nat, k ≤ qs.length ∧ i = .int .i64 k ∧ AtW B b (Lib.byteCells (l ++ placesT (qs.take k))) wr ∧ Below B w wr ∧ Soft b w wr) (fun i _ => qs.length - (intOf i).toNat)
  case atStart => exact ⟨0, Nat.zero_le _, rfl, (by simpa [placesT] using h), Below.refl _ _, Soft.refl _ _⟩
  case round =>
    obtain ⟨k, hk, rfl, hA, hb, hf⟩ := hrel
    by_cases hlt : k < qs.length
    · have hget : qs[k]? = some qs[k] := List.getElem?_eq_getElem hlt
      obtain ⟨p, hp⟩ : ∃ p, qs[k] = p := ⟨_, rfl⟩
      rw [hp] at hget
      obtain ⟨g, o, rfl, hc0, hc1, hc2, hc3, hc4⟩ := (hS.on hlo hb) k p hget
      have hst : Hid (placesT (qs.take (k + 1)) = placesT (qs.take k) ++ placeT p) := flat_take _ _ _ _ hget
      have hfp := hz p (List.mem_of_getElem? hget)
      have hL : (l ++ placesT (qs.take k)).length ≤ 200000000 := by
        have h1 := flat_len placeT (qs.take k) 20050 (fun y hy => placeT_len y (hz y (List.mem_of_mem_take hy)))
        have h2 : (qs.take k).length ≤ 1000 := by rw [List.length_take]; omega
        rw [List.length_append]
        show l.length + ((qs.take k).flatMap placeT).length ≤ _
        omega
      obtain ⟨pod, node, cpu, mem, al⟩ := p
      obtain ⟨f1, f2, f3, f4⟩ := hfp
      simp only at f1 f2 f3 f4 hc0 hc1 hc2 hc3 hc4
      obtain ⟨lk, hlk⟩ : ∃ lk, l ++ placesT (qs.take k) = lk := ⟨_, rfl⟩
      rw [hlk] at hA hL
      have hBr := Nat.le_trans hBw hb.size
      have hTr := hT.on hb
      have q := Box.new wr #[.string pod, .string node, .int .i64 cpu, .int .i64 mem, .bool al] 192 rfl
      have hA1 := InW.later hA (up (Below.refl wr.heap.size wr) (.cells #[.string pod, .string node, .int .i64 cpu, .int .i64 mem, .bool al] 192))
      have hb1 : Below B wr (wr.alloc (.cells #[.string pod, .string node, .int .i64 cpu, .int .i64 mem, .bool al] 192)) := (up (Below.refl _ _) _).mono hBr
      have hf1 : Soft b wr (wr.alloc (.cells #[.string pod, .string node, .int .i64 cpu, .int .i64 mem, .bool al] 192)) := Soft.of_below (up (Below.refl _ _) _)
      have hTa := hTr.on hb1
      have hqb : wr.heap.size ≠ b := by have := hA.lt; omega
      have v1 := vecT_len cpu mem f3 f4
      have hst' : Hid (l ++ placesT (qs.take (k + 1)) = (((lk ++ wordT 32 pod) ++ wordT 62 node) ++ vecT cpu mem) ++ flagT al) := by
        show _ = _
        rw [hst.out, ← hlk]
        simp [placeT, List.append_assoc]
      have w1l := wordT_len 32 pod
      have w2l := wordT_len 62 node
      clear hget hp hS hz hst hlk hA hT
      go_upto_region 3 with fail
      generalize wr.alloc (.cells #[.string pod, .string node, .int .i64 cpu, .int .i64 mem, .bool al] 192) = W at *
      have hBW := Nat.le_trans hBr hb1.size
      obtain ⟨x0, x1, x2, x3, x4⟩ := q.cells5'
      have k1 := word_l B b lk 32 32 pod W (by decide) (by decide) hA1 (by omega) hBW
      clear hc0 hc1 hc2 hc3 hc4
      go_upto_region 4 with (go_at_call 191; refine k1.mono ?_; rintro e w2 ⟨rfl, hA2, hb2, hf2⟩)
      have q2 := hf2.box q (by decide) hqb
      have hB2 := Nat.le_trans hBW hb2.size
      clear x0 x1 x2 x3 x4 k1
      obtain ⟨x0, x1, x2, x3, x4⟩ := q2.cells5'
      have k2 := word_l B b (lk ++ wordT 32 pod) 62 62 node w2 (by decide) (by decide) hA2 (by rw [List.length_append]; omega) hB2
      go_upto_region 5 with (go_at_call 191; refine k2.mono ?_; rintro e w3 ⟨rfl, hA3, hb3, hf3⟩)
      have q3 := hf3.box q2 (by decide) hqb
      have hB3 := Nat.le_trans hB2 hb3.size
      clear x0 x1 x2 x3 x4 k2
      obtain ⟨x0, x1, x2, x3, x4⟩ := q3.cells5'
      have k3 := vec_l B b (lk ++ wordT 32 pod ++ wordT 62 node) cpu mem w3 f3 f4 hA3 (by rw [List.length_append, List.length_append]; omega) hB3 ((hTa.on hb2).on hb3)
      go_upto_region 6 with (go_at_call 217; refine k3.mono ?_; rintro e w4 ⟨rfl, hA4, hb4, hf4⟩)
      have q4 := hf4.box q3 (by decide) hqb
      have hB4 := Nat.le_trans hB3 hb4.size
      clear x0 x1 x2 x3 x4 k3
      obtain ⟨x0, x1, x2, x3, x4⟩ := q4.cells5'
      have k4 := flag_l B b (lk ++ wordT 32 pod ++ wordT 62 node ++ vecT cpu mem) al w4 hA4 (by rw [List.length_append, List.length_append, List.length_append]; omega) hB4
      go_wp2_with (go_at_call 219; refine k4.mono ?_; rintro e w5 ⟨rfl, hA5, hb5, hf5⟩)
      go_roundw
      case rel => exact ⟨k + 1, hlt, by go_num, (by rw [hst'.out]; exact hA5), ((((hb.trans hb1).trans hb2).trans hb3).trans hb4).trans hb5, ((((hf.trans hf1).trans hf2).trans hf3).trans hf4).trans hf5⟩
      case measure => simp [intOf]; omega
    · have e1 : k = qs.length := by omega
      rw [e1, List.take_length] at hA
      subst e1
      clear hS hz
      go_wp2
      go_end0
      exact ⟨rfl, hA, hb, hf⟩

set_option maxRecDepth 100000 in
set_option maxHeartbeats 4000000 in
theorem node_l (B b : Nat) (l : List UInt8) (nm : ByteArray) (cpu mem : Nat) (a1 a2 : Option Addr) (n1 c1 n2 c2 : Nat) (xs ys : List ByteArray) (cl : Bool) (w : World) (h : AtW B b (Lib.byteCells l) w) (h1 : Strs w a1 xs) (h2 : Strs w a2 ys) (e1 : xs.length = n1) (e2 : ys.length = n2) (l1 : Low B a1) (l2 : Low B a2)
    (z1 : ∀ s ∈ xs, s.size ≤ 10000) (z2 : ∀ s ∈ ys, s.size ≤ 10000) (zn : nm.size ≤ 10000) (zc : cpu ≤ 9223372036854775807) (zm : mem ≤ 9223372036854775807) (hlen : l.length ≤ 10000) (hBw : B ≤ w.heap.size) (hT : TabB B w) :
    Calls Tryz.prog 190 #[.pointer (some ⟨b, 0, none⟩), .agg #[.string nm, .int .i64 cpu, .int .i64 mem, .slice a1 n1 c1, .slice a2 n2 c2, .bool cl]] w fun e w' => e = .returned (.tuple #[]) ∧ AtW B b (Lib.byteCells (l ++ nodeT ⟨nm, cpu, mem, xs, ys, cl⟩)) w' ∧ Below B w w' ∧ Soft b w w' := by
  have q := Box.new w #[.string nm, .int .i64 cpu, .int .i64 mem, .slice a1 n1 c1, .slice a2 n2 c2, .bool cl] 86 rfl
  have hb1 : Below B w (w.alloc (.cells #[.string nm, .int .i64 cpu, .int .i64 mem, .slice a1 n1 c1, .slice a2 n2 c2, .bool cl] 86)) := (up (Below.refl _ _) _).mono hBw
  have hf1 : Soft b w (w.alloc (.cells #[.string nm, .int .i64 cpu, .int .i64 mem, .slice a1 n1 c1, .slice a2 n2 c2, .bool cl] 86)) := Soft.of_below (up (Below.refl _ _) _)
  have hA1 := InW.later h (up (Below.refl w.heap.size w) (.cells #[.string nm, .int .i64 cpu, .int .i64 mem, .slice a1 n1 c1, .slice a2 n2 c2, .bool cl] 86))
  have hqb : w.heap.size ≠ b := by have := h.lt; omega
  have hTa := hT.on hb1
  have v1 := vecT_len cpu mem zc zm
  have w1l := wordT_len 32 nm
  have hx1 := h1.1
  have hx2 := h2.1
  have m1 : (namesT 43 xs).length ≤ xs.length * 10001 := flat_len (wordT 43) xs 10001 (fun y hy => by rw [wordT_len]; have := z1 y hy; omega)
  have m2 : (namesT 126 ys).length ≤ ys.length * 10001 := flat_len (wordT 126) ys 10001 (fun y hy => by rw [wordT_len]; have := z2 y hy; omega)
  have s1 := h1.on l1 hb1
  have s2 := h2.on l2 hb1
  have e1' : Hid (xs.length = n1) := e1
  have e2' : Hid (ys.length = n2) := e2
  have hst : Hid (l ++ nodeT ⟨nm, cpu, mem, xs, ys, cl⟩ = l ++ wordT 32 nm ++ vecT cpu mem ++ namesT 43 xs ++ namesT 126 ys ++ flagT cl) := by
    show _ = _
    simp [nodeT, List.append_assoc]
  rw [hst.out]
  clear e1 e2 h hT
  go_enter Tryz.func190, Tryz.ntmps190
  go_upto_region 1 with fail
  generalize w.alloc (.cells #[.string nm, .int .i64 cpu, .int .i64 mem, .slice a1 n1 c1, .slice a2 n2 c2, .bool cl] 86) = W at *
  have hBW := Nat.le_trans hBw hb1.size
  obtain ⟨x0, x1, x2, x3, x4, x5⟩ := q.cells6
  have k1 := word_l B b l 32 32 nm W (by decide) (by decide) hA1 (by omega) hBW
  go_upto_region 2 with (go_at_call 191; refine k1.mono ?_; rintro e w2 ⟨rfl, hA2, hb2, hf2⟩)
  have q2 := hf2.box q (by decide) hqb
  have hB2 := Nat.le_trans hBW hb2.size
  clear x0 x1 x2 x3 x4 x5 k1
  obtain ⟨x0, x1, x2, x3, x4, x5⟩ := q2.cells6
  have k2 := vec_l B b (l ++ wordT 32 nm) cpu mem w2 zc zm hA2 (by rw [List.length_append]; omega) hB2 (hTa.on hb2)
  go_upto_region 3 with (go_at_call 217; refine k2.mono ?_; rintro e w3 ⟨rfl, hA3, hb3, hf3⟩)
  have q3 := hf3.box q2 (by decide) hqb
  have hB3 := Nat.le_trans hB2 hb3.size
  clear x0 x1 x2 x3 x4 x5 k2
  obtain ⟨x0, x1, x2, x3, x4, x5⟩ := q3.cells6
  have k3 := words_l B b (l ++ wordT 32 nm ++ vecT cpu mem) 43 a1 n1 c1 xs w3 (by decide) hA3 ((s1.on l1 hb2).on l1 hb3) e1'.out l1 z1 (by rw [List.length_append, List.length_append]; omega) hB3
  go_upto_region 4 with (go_at_call 218; refine k3.mono ?_; rintro e w4 ⟨rfl, hA4, hb4, hf4⟩)
  have q4 := hf4.box q3 (by decide) hqb
  have hB4 := Nat.le_trans hB3 hb4.size
  clear x0 x1 x2 x3 x4 x5 k3
  obtain ⟨x0, x1, x2, x3, x4, x5⟩ := q4.cells6
  have k4 := words_l B b (l ++ wordT 32 nm ++ vecT cpu mem ++ namesT 43 xs) 126 a2 n2 c2 ys w4 (by decide) hA4 (((s2.on l2 hb2).on l2 hb3).on l2 hb4) e2'.out l2 z2 (by rw [List.length_append, List.length_append, List.length_append]; omega) hB4
  go_upto_region 5 with (go_at_call 218; refine k4.mono ?_; rintro e w5 ⟨rfl, hA5, hb5, hf5⟩)
  have q5 := hf5.box q4 (by decide) hqb
  have hB5 := Nat.le_trans hB4 hb5.size
  clear x0 x1 x2 x3 x4 x5 k4
  obtain ⟨x0, x1, x2, x3, x4, x5⟩ := q5.cells6
  have k5 := flag_l B b (l ++ wordT 32 nm ++ vecT cpu mem ++ namesT 43 xs ++ namesT 126 ys) cl w5 hA5 (by rw [List.length_append, List.length_append, List.length_append, List.length_append]; omega) hB5
  go_wp2_with (go_at_call 219; refine k5.mono ?_; rintro e w6 ⟨rfl, hA6, hb6, hf6⟩)
  go_end0
  exact ⟨rfl, hA6, ((((hb1.trans hb2).trans hb3).trans hb4).trans hb5).trans hb6, ((((hf1.trans hf2).trans hf3).trans hf4).trans hf5).trans hf6⟩

end Go.Proofs.YtlehlbgaboifoabGreatDoor
