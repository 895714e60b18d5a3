/- The contract of the statements' helper Edge. -/
import Derived.Test.YtpeficmlgiilcaaE
namespace Go.Proofs.Ytpeficmlgiilcaa
open Go.RowKit

/-- What Edge answers. -/
def edgeS (n : Int) : Int :=
  if n % 8 = 0 then wrap64 (n.tdiv 8) % 1000
  else if n % 8 = 1 then wrap64 (n.tdiv 8) % 1000
  else if n % 8 = 2 then 9223372036854775807 - wrap64 (n.tdiv 8) % 1000
  else if n % 8 = 3 then 4611686018427387903 + wrap64 (n.tdiv 8) % 1000
  else if n % 8 = 4 then 4611686018427387903 - wrap64 (n.tdiv 8) % 1000
  else if n % 8 = 5 then - (wrap64 (n.tdiv 8) % 1000)
  else if n % 8 = 6 then 1099511627776 - wrap64 (n.tdiv 8) % 1000
  else -9223372036854775808 + wrap64 (n.tdiv 8) % 1000

theorem edgeS_le (n : Int) : edgeS n ≤ 9223372036854775807 := by
  have h1 : 0 ≤ wrap64 (n.tdiv 8) % 1000 := Int.emod_nonneg _ (by decide)
  have h2 : wrap64 (n.tdiv 8) % 1000 < 1000 := Int.emod_lt_of_pos _ (by decide)
  unfold edgeS
  omega

set_option maxHeartbeats 1600000 in
theorem c10_at (n k j r : Int) (h0 : (wrap64 (n.tdiv 8)) % 1000 = k) (h1 : n % 8 = j)
    (h : (j = 0 ∧ r = k) ∨ (j = 1 ∧ r = k) ∨ (j = 2 ∧ r = 9223372036854775807 - k) ∨ (j = 3 ∧ r = 4611686018427387903 + k) ∨ (j = 4 ∧ r = 4611686018427387903 - k) ∨ (j = 5 ∧ r = - k) ∨ (j = 6 ∧ r = 1099511627776 - k) ∨ (j = 7 ∧ r = -9223372036854775808 + k)) (w : World) :
    Calls Try.prog 10 #[.int .i64 n] w fun e w' => e = .returned (.int .i64 r) ∧ Below w.heap.size w w' := by
  rcases h with ⟨rfl, rfl⟩ | ⟨rfl, rfl⟩ | ⟨rfl, rfl⟩ | ⟨rfl, rfl⟩ | ⟨rfl, rfl⟩ | ⟨rfl, rfl⟩ | ⟨rfl, rfl⟩ | ⟨rfl, rfl⟩
  all_goals
    go_enter Try.func10, Try.ntmps10
    go_wp2_with (first
      | (go_at_call 19; refine (c19 _ _ _ (by decide) (by decide) (by assumption) _).mono ?_; rintro e w1 ⟨rfl, rfl⟩))
    go_ret
    exact ⟨rfl, (Below.refl _ _).alloc (Nat.le_refl _) _⟩

theorem edge_cases (k j r : Int) (h0 : 0 ≤ j) (h1 : j < 8)
    (h : (if j = 0 then k else if j = 1 then k else if j = 2 then 9223372036854775807 - k else if j = 3 then 4611686018427387903 + k else if j = 4 then 4611686018427387903 - k else if j = 5 then - k else if j = 6 then 1099511627776 - k else -9223372036854775808 + k) = r) :
    (j = 0 ∧ r = k) ∨ (j = 1 ∧ r = k) ∨ (j = 2 ∧ r = 9223372036854775807 - k) ∨ (j = 3 ∧ r = 4611686018427387903 + k) ∨ (j = 4 ∧ r = 4611686018427387903 - k) ∨ (j = 5 ∧ r = - k) ∨ (j = 6 ∧ r = 1099511627776 - k) ∨ (j = 7 ∧ r = -9223372036854775808 + k) := by
  have hj : j = 0 ∨ j = 1 ∨ j = 2 ∨ j = 3 ∨ j = 4 ∨ j = 5 ∨ j = 6 ∨ j = 7 := by omega
  rcases hj with rfl | rfl | rfl | rfl | rfl | rfl | rfl | rfl <;> simp at h ⊢ <;> omega

theorem c10 (n r : Int) (h : edgeS n = r) (w : World) :
    Calls Try.prog 10 #[.int .i64 n] w fun e w' => e = .returned (.int .i64 r) ∧ Below w.heap.size w w' :=
  c10_at n _ _ r rfl rfl (edge_cases _ _ r (Int.emod_nonneg _ (by decide)) (Int.emod_lt_of_pos _ (by decide)) h) w

end Go.Proofs.Ytpeficmlgiilcaa
