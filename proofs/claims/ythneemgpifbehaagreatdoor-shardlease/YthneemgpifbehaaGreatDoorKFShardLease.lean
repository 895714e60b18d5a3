/- The closed facts of the row of ShardLease, each by itself. -/
import Derived.Test.YthneemgpifbehaaGreatDoorRows
import Derived.Test.YthneemgpifbehaaGreatDoorChecked
import Derived.ProofKit
import Derived.LaidMore
import Derived.OpenShut
import Derived.SevenTiedAt
import Derived.JoinedOf
namespace Go.Proofs.YthneemgpifbehaaGreatDoor
set_option maxRecDepth 100000
set_option maxHeartbeats 4000000
theorem closed_shardLease : joinedFacts Tryz.prog 6 Tryz.f6 Rows.shardLeaseSpec Rows.shardLeaseRow = true := by
  unfold joinedFacts
  simp only [Bool.and_eq_true]
  repeat' (refine And.intro ?_ ?_)
  all_goals (as_aux_lemma => kernel_rfl)
end Go.Proofs.YthneemgpifbehaaGreatDoor
