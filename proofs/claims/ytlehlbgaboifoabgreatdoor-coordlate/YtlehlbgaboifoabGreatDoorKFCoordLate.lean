/- The closed facts of the row of CoordLate, each by itself. -/
import Derived.Test.YtlehlbgaboifoabGreatDoorRows
import Derived.Test.YtlehlbgaboifoabGreatDoorChecked
import Derived.ProofKit
import Derived.LaidMore
import Derived.OpenShut
import Derived.SevenTiedAt
import Derived.JoinedOf
namespace Go.Proofs.YtlehlbgaboifoabGreatDoor
set_option maxRecDepth 100000
set_option maxHeartbeats 4000000
theorem closed_coordLate : joinedFacts Tryz.prog 8 Tryz.f8 Rows.coordLateSpec Rows.coordLateRow = true := by
  unfold joinedFacts
  simp only [Bool.and_eq_true]
  repeat' (refine And.intro ?_ ?_)
  all_goals (as_aux_lemma => kernel_rfl)
end Go.Proofs.YtlehlbgaboifoabGreatDoor
