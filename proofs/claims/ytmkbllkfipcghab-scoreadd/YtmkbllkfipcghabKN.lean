/- The contract of the statements' own known. -/
import Derived.Test.YtmkbllkfipcghabBE
namespace Go.Proofs.Ytmkbllkfipcghab
open Go.RowKit

theorem best_none (w : World) : Calls Try.prog 11 #[.slice none 0 0, .slice none 0 0] w fun e w' => e = .returned (.int .i64 (-1)) ∧ Below w.heap.size w w' :=
  best_any none none 0 0 0 [] [] (-1) w (strs_nil w) ⟨Nat.zero_le _, fun i hi => by omega⟩ rfl rfl

theorem left_first (w : World) : Calls Try.prog 9 #[.agg #[.int .i64 4, .int .i64 2], .agg #[.int .i64 1, .int .i64 0], .agg #[.int .i64 1, .int .i64 1]] w fun e w' => e = .returned (.int .i64 100) ∧ Below w.heap.size w w' :=
  left_any 4 2 1 0 1 1 100 (by unfold Good; omega) (by decide) w

set_option maxHeartbeats 1000000 in
theorem known_any (w : World) : Calls Try.prog 5 #[] w fun e w' => e = .returned (.bool true) ∧ Below w.heap.size w w' := by
  go_enter Try.func5, Try.ntmps5
  go_wp2_with (first
    | (go_at_call 11; refine (best_none _).mono ?_; rintro e w1 ⟨rfl, hb1⟩)
    | (go_at_call 9; refine (left_first _).mono ?_; rintro e w2 ⟨rfl, hb2⟩))
  go_ret
  exact ⟨rfl, fin hb2 hb1⟩

end Go.Proofs.Ytmkbllkfipcghab
