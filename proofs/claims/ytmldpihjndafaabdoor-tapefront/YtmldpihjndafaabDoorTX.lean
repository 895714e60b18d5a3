/- The contracts of AppendRune and WriteRune for signs, and of word of package line's writer. -/
import Derived.Test.YtmldpihjndafaabDoorTW
import Derived.Maps.AppendAt
namespace Go.Proofs.YtmldpihjndafaabDoor
open Go.RowKit
set_option linter.unusedSimpArgs false
set_option linter.unusedVariables false

/-- A rune of one byte. -/
def Small (r : Int) : Prop := IntKind.u32.wrap r = r ∧ IntKind.u8.wrap r = r ∧ r ≤ 127

set_option maxRecDepth 100000 in
set_option maxHeartbeats 2000000 in
theorem appendRune_small (B n : Nat) (v : Value) (xs : List Value) (r : Int) (w : World) (hr : Small r) (hown : w.ownsRow B 5 1 v n xs) (hn : n ≤ 1000000000) (hBw : B ≤ w.heap.size) :
    Calls Tryd.prog 80 #[v, .int .i32 r] w fun e w' => ∃ v', e = .returned v' ∧ w'.ownsRow B 5 1 v' (n + 1) (xs ++ [.int .u8 r]) ∧ (w.alloc (.cells #[.int .u8 r] 5)).grownBy w' v.ownBlock := by
  obtain ⟨i0, hi, hz0, hz1, hz2⟩ := info_parts infoByte
  obtain ⟨h1, h2, h3⟩ := hr
  obtain ⟨a, c, rfl⟩ := slice_of_own hown
  go_enter Tryd.func80, Tryd.ntmps80
  go_wp2_with (first
    | (at_builtin; refine wpList_append_own _ rfl _ _ 54 rfl B 5 i0 (.int .u8 0) 1 1 Tryd.underlying54 hi hz0 hz1 hz2 rfl (by decide) _ _ _ rfl (hown.alloc _) ⟨_, 0, none⟩ 1 1 [.int .u8 r] rfl rfl (cell_one_new _ _ _) (fun u hu => by simp at hu; subst hu; rfl) (by unfold maxLen; omega) (by omega) (by simp; omega) ?_
       intro v2 w2 hown2 hg2 hnil
       obtain ⟨ao, cap, rfl⟩ := slice_of_own hown2))
  go_ret
  exact ⟨_, rfl, hown2, hg2⟩

set_option maxRecDepth 100000 in
set_option maxHeartbeats 2000000 in
theorem writeRune_small (B b : Nat) (bs : List Value) (r : Int) (w : World) (hr : Small r) (h : InW B b bs w) (hlen : bs.length ≤ 1000000000) (hBw : B ≤ w.heap.size) :
    Calls Tryd.prog 67 #[.pointer (some ⟨b, 0, none⟩), .int .i32 r] w fun e w' => (∃ v, e = .returned v) ∧ AtW B b (bs ++ [.int .u8 r]) w' ∧ Below B w w' ∧ Soft b w w' := by
  go_enter Tryd.func67, Tryd.ntmps67
  go_wp2_with (first
    | (go_at_call 80; refine (appendRune_small B bs.length _ bs r _ hr hown hlen (by have := hb1.size; omega)).mono ?_
       rintro e w2 ⟨v2, rfl, hown2, hg2⟩
       have hX2 := (hX.up (.cells #[.int .u8 r] 5)).grown hg2 (fun e => hne e.symm)
       obtain ⟨d0, d1⟩ := hX2.cells2
       have f1 := hX2.frozen 1
       obtain ⟨ao, cap, rfl⟩ := slice_of_own hown2)
    | (go_at_call 63; refine (copyCheck_any B b bs _ h).mono ?_
       rintro e w1 ⟨rfl, ⟨hB, v, hX', hown, hne⟩, hb1, hf1⟩
       obtain ⟨ao1, cap1, rfl⟩ := slice_of_own hown
       have hX : Box w1 b #[.pointer (some ⟨b, 0, none⟩), .slice ao1 bs.length cap1] 82 := hX'
       obtain ⟨c0, c1⟩ := hX.cells2))
  go_ret2
  refine ⟨⟨_, rfl⟩, ?_, ((hb1.alloc (by have := hb1.size; omega) _).grown hg2 (by have := hb1.size; simp; omega) (fun k hk => (hown.lt k hk).1)).setCell (p := ⟨b, 1, none⟩) hB _, ((hf1.trans (Soft.of_below (up (Below.refl _ _) _))).trans (Soft.grown hg2 (hown.alloc _))).trans (Soft.set b 1 _ _)⟩
  exact Lib.BuilderAt.put (T := 82) (e := 5) hB hX2 (bs' := bs ++ [.int .u8 r]) (by simpa using hown2) (by decide)

set_option maxRecDepth 100000 in
set_option maxHeartbeats 2000000 in
theorem word_put (B b : Nat) (bs : List Value) (r : Int) (s : ByteArray) (w : World) (hr : Small r) (h : InW B b bs w) (hlen : bs.length + s.size + 1 ≤ 1000000000) (hBw : B ≤ w.heap.size) :
    Calls Tryd.prog 46 #[.pointer (some ⟨b, 0, none⟩), .int .i32 r, .string s] w fun e w' => e = .returned (.tuple #[]) ∧ AtW B b (bs ++ [.int .u8 r] ++ Lib.strCells s) w' ∧ Below B w w' ∧ Soft b w w' := by
  go_enter Tryd.func46, Tryd.ntmps46
  go_wp2_with (first
    | (go_at_call 43; refine (writeString_any B b (bs ++ [.int .u8 r]) s _ (.inr h1) (by simp; omega) (by have := hb1.size; omega)).mono ?_
       rintro e w2 ⟨rfl, h2, hb2, hf2⟩)
    | (go_at_call 67; refine (writeRune_small B b bs r _ hr h (by omega) hBw).mono ?_
       rintro e w1 ⟨⟨v, rfl⟩, h1, hb1, hf1⟩))
  go_end0
  exact ⟨rfl, h2, hb1.trans hb2, hf1.trans hf2⟩

end Go.Proofs.YtmldpihjndafaabDoor
