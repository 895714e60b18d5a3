/- The contract of the statements' own Edge: a number that may be. -/
import Derived.Test.YtdgeigkdplbdbaaN
import Derived.Test.YtdgeigkdplbdbaaWi
namespace Go.Proofs.Ytdgeigkdplbdbaa
open Go.RowKit

set_option maxRecDepth 100000 in
set_option maxHeartbeats 2000000 in
theorem edge_on (n : Int) (w0 W : World) (hb : Below w0.heap.size w0 W) :
    Calls Try.prog 13 #[.int .i64 n] W fun e w' => ∃ z, e = .returned (.int .i64 z) ∧ z ≤ 9223372036854775807 ∧ Below w0.heap.size w0 w' := by
  obtain ⟨j, hj⟩ : ∃ j, n % 8 = j := ⟨_, rfl⟩
  obtain ⟨k, hk⟩ : ∃ k, wrap64 (n.tdiv 8) % 1000 = k := ⟨_, rfl⟩
  have k0 : 0 ≤ k := by omega
  have k1 : k < 1000 := by omega
  go_enter Try.func13, Try.ntmps13
  go_wp2_with (first
    | (go_at_call_of 21 (Value.int .i64 1000); refine (within1_any _ _ _ (by decide) (by decide) hk _).mono ?_; rintro e w2 ⟨rfl, rfl⟩)
    | (go_at_call_of 21 (Value.int .i64 n); refine (within1_any _ _ _ (by decide) (by decide) hj _).mono ?_; rintro e w2 ⟨rfl, rfl⟩; rcases eight j (by omega) (by omega) with rfl | rfl | rfl | rfl | rfl | rfl | rfl | rfl))
  all_goals
    go_ret
    exact ⟨_, rfl, by omega, hb.alloc hb.size _⟩

end Go.Proofs.Ytdgeigkdplbdbaa
