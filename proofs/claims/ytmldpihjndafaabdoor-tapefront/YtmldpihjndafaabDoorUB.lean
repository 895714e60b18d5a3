/- The contract of vec of package line's writer. -/
import Derived.Test.YtmldpihjndafaabDoorUA
namespace Go.Proofs.YtmldpihjndafaabDoor
open Go.RowKit
set_option linter.unusedSimpArgs false
set_option linter.unusedVariables false

set_option maxRecDepth 100000 in
set_option maxHeartbeats 2000000 in
theorem vec_l (B b : Nat) (l : List UInt8) (c m : Nat) (w : World) (hn : c ≤ 9223372036854775807) (hm : m ≤ 9223372036854775807) (h : AtW B b (Lib.byteCells l) w) (hlen : l.length ≤ 800000000) (hBw : B ≤ w.heap.size) (hT : TabB B w) :
    Calls Tryd.prog 64 #[.pointer (some ⟨b, 0, none⟩), .agg #[.int .i64 c, .int .i64 m]] w fun e w' => e = .returned (.tuple #[]) ∧ AtW B b (Lib.byteCells (l ++ vecT c m)) w' ∧ Below B w w' ∧ Soft b w w' := by
  have hl1 := numT_len 58 c hn
  have hV : Box (w.alloc (.cells #[.int .i64 c, .int .i64 m] 30)) w.heap.size #[.int .i64 c, .int .i64 m] 30 := Box.new w _ _ rfl
  have hb0 : Below w.heap.size w (w.alloc (.cells #[.int .i64 c, .int .i64 m] 30)) := up (Below.refl _ _) _
  have hA0 := InW.later h hb0
  have hT0 := hT.on (hb0.mono hBw)
  have hB0 : B ≤ (w.alloc (.cells #[.int .i64 c, .int .i64 m] 30)).heap.size := Nat.le_trans hBw hb0.size
  have c0 := hV.cells2
  have hVb : w.heap.size ≠ b := by have := h.lt; omega
  go_enter Tryd.func64, Tryd.ntmps64
  go_wp2_with (first
    | (go_at_call 47; refine (number_l B b (l ++ numT 58 c) 44 _ m _ hm (by decide) (by decide) h1 (by simp; omega) (Nat.le_trans hB0 hb1.size) (hT0.on hb1)).mono ?_; rintro e w2 ⟨rfl, h2, hb2, hf2⟩)
    | (go_at_call 47; refine (number_l B b l 58 _ c _ hn (by decide) (by decide) hA0 (by omega) hB0 hT0).mono ?_; rintro e w1 ⟨rfl, h1, hb1, hf1⟩; have hV1 := (hf1.box hV (by decide) hVb).cells2))
  go_end0
  exact ⟨rfl, by simpa [vecT, List.append_assoc] using h2, ((hb0.mono hBw).trans hb1).trans hb2, ((Soft.of_below hb0).trans hf1).trans hf2⟩

end Go.Proofs.YtmldpihjndafaabDoor
