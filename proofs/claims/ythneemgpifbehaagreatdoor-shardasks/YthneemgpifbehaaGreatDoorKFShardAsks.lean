/- The closed facts of the row of ShardAsks, each by itself. -/
import Derived.Test.YthneemgpifbehaaGreatDoorRows
import Derived.Test.YthneemgpifbehaaGreatDoorChecked
import Derived.ProofKit
import Derived.LaidMore
import Derived.OpenShut
import Derived.SevenTiedAt
import Derived.JoinedOf
namespace Go.Proofs.YthneemgpifbehaaGreatDoor
set_option maxRecDepth 100000
set_option maxHeartbeats 4000000
theorem closed_shardAsks : joinedFacts Tryz.prog 7 Tryz.f7 Rows.shardAsksSpec Rows.shardAsksRow = true := by
  unfold joinedFacts
  simp only [Bool.and_eq_true]
  repeat' (refine And.intro ?_ ?_)
  all_goals (as_aux_lemma => kernel_rfl)
end Go.Proofs.YthneemgpifbehaaGreatDoor
