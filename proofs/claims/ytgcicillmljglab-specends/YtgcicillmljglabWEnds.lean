/- The walk of SpecEnds. -/
import Derived.Test.YtgcicillmljglabK
namespace Go.Proofs.Ytgcicillmljglab
open Go.RowKit

theorem pod_p (shard cpu mem S : Int) : podE ⟨#[112]⟩ shard cpu mem [] [] S = askE true (decide (1 ≤ shard) && decide (shard ≤ S) && sizeB cpu mem) true true := by
  have : isName ⟨#[112]⟩ = true := by decide +kernel
  unfold podE
  rw [this]
  rfl

theorem pod_p0 (shard cpu mem S : Int) (h : 1 ≤ shard ∧ shard ≤ S ∧ 0 ≤ cpu ∧ 0 ≤ mem ∧ cpu ≤ 1099511627776 ∧ mem ≤ 1099511627776) : podE ⟨#[112]⟩ shard cpu mem [] [] S = 0 := by
  rw [pod_p]
  have : (decide (1 ≤ shard) && decide (shard ≤ S) && sizeB cpu mem) = true := by unfold sizeB; simp; omega
  rw [this]
  rfl

theorem pod_p2 (shard cpu mem S : Int) (h : ¬ (1 ≤ shard ∧ shard ≤ S ∧ 0 ≤ cpu ∧ 0 ≤ mem ∧ cpu ≤ 1099511627776 ∧ mem ≤ 1099511627776)) : podE ⟨#[112]⟩ shard cpu mem [] [] S = 2 := by
  rw [pod_p]
  have : (decide (1 ≤ shard) && decide (shard ≤ S) && sizeB cpu mem) = false := by unfold sizeB; rw [Bool.eq_false_iff]; intro e; simp at e; omega
  rw [this]
  rfl

theorem node_n (cpu mem : Int) : nodeE ⟨#[110]⟩ cpu mem [] [] = askE true (sizeB cpu mem) true true := by
  have : isName ⟨#[110]⟩ = true := by decide +kernel
  unfold nodeE
  rw [this]
  rfl

set_option maxRecDepth 100000 in
set_option maxHeartbeats 4000000 in
theorem specEnds_walk (n1 n2 : Int) (w : World) :
    Calls Try.prog 3 #[.int .i64 n1, .int .i64 n2] w fun e w' => e = .returned (.bool true) ∧ Below w.heap.size w w' := by
  obtain ⟨k, hk⟩ : ∃ k, n2 % 4 = k := ⟨_, rfl⟩
  obtain ⟨j, hj⟩ : ∃ j, n1 % 5 = j := ⟨_, rfl⟩
  have h0 := Below.refl w.heap.size w
  have k0 : 0 ≤ k := by omega
  have k1 : k < 4 := by omega
  rcases (by omega : j = 0 ∨ j = 1 ∨ j = 2 ∨ j = 3 ∨ j = 4) with rfl | rfl | rfl | rfl | rfl
  all_goals
    go_enter Try.func3, Try.ntmps3
    go_wp2_with (first
      | (go_at_call 6; refine (known_on _ _ (by assumption)).mono ?_; rintro e w1 ⟨rfl, hb1⟩)
      | (go_at_call 7; refine (within_any _ _ _ (by decide) (by decide) (by assumption) _).mono ?_; rintro e w1 ⟨rfl, rfl⟩)
      | (go_at_call 9
         first
         | (refine (pod_bare _ _ _ _ _ _ 0 w _ (by with_reducible repeat first | assumption | refine up ?_ _) (pod_p0 _ _ _ _ (by omega))).mono ?_; rintro e w3 ⟨rfl, hb3, hb4⟩; have hc3 := fun o => hb4.cell (p := ⟨w1.heap.size + 1, o, none⟩) (by simp))
         | (refine (pod_bare _ _ _ _ _ _ 2 w _ (by with_reducible repeat first | assumption | refine up ?_ _) (pod_p2 _ _ _ _ (by omega))).mono ?_; rintro e w3 ⟨rfl, hb3, hb4⟩))
      | (go_at_call 8
         first
         | (refine (node_bare _ _ _ _ 0 w _ (by with_reducible repeat first | assumption | refine up ?_ _) (by rw [node_n]; decide)).mono ?_; rintro e w3 ⟨rfl, hb3, hb4⟩; have hc3 := fun o => hb4.cell (p := ⟨w1.heap.size + 1 + 1 + 1, o, none⟩) (by simp))
         | (refine (node_bare _ _ _ _ 2 w _ (by with_reducible repeat first | assumption | refine up ?_ _) (by rw [node_n]; decide)).mono ?_; rintro e w3 ⟨rfl, hb3, hb4⟩)))
    go_ret
    exact ⟨rfl, by assumption⟩

end Go.Proofs.Ytgcicillmljglab
