/- The names that the statements make by a number, and what is true of each two of them. -/
import Derived.Test.YtgcicillmljglaaK
namespace Go.Proofs.Ytgcicillmljglaa
open Go.RowKit

/-- 'within': the rest by n, from 0 on. -/
theorem within2_any (x n k : Int) (hn : 0 < n) (hm : n ≤ 9223372036854775807) (hk : x % n = k) (w : World) :
    Calls Try.prog 39 #[.int .i64 x, .int .i64 n] w fun e w' => e = .returned (.int .i64 k) ∧ w' = w := by
  have hn0 : ¬ n = 0 := by omega
  by_cases h : x.tmod n < 0
  · have hb : -n < x.tmod n := Int.lt_tmod_of_pos x hn
    have hw : wrap64 (x.tmod n + n) = k := by
      have e1 : x % n = x.tmod n + n := by
        have h1 := Int.emod_add_mul_ediv x n
        have h2 := Int.tmod_add_mul_tdiv x n
        have h3 : 0 ≤ x % n := Int.emod_nonneg x (by omega)
        have h4 : x % n < n := Int.emod_lt_of_pos x hn
        have h5 : (x.tmod n + n) % n = x % n := by
          rw [show x % n = (x.tmod n + n * x.tdiv n) % n by rw [h2], Int.add_emod_right, Int.add_mul_emod_self_left]
        rw [← h5]
        exact Int.emod_eq_of_lt (by omega) (by omega)
      unfold wrap64
      omega
    clear hk hm hn
    go_enter Try.func39, Try.ntmps39
    go_wp2
    go_ret
    exact ⟨by rw [← hw]; rfl, rfl⟩
  · have e1 : x.tmod n = k := by
      have h2 := Int.tmod_add_mul_tdiv x n
      have h4 : x.tmod n < n := Int.tmod_lt_of_pos x hn
      have h5 : (x.tmod n) % n = x % n := by
        rw [show x % n = (x.tmod n + n * x.tdiv n) % n by rw [h2], Int.add_mul_emod_self_left]
      rw [← hk, ← h5]
      exact (Int.emod_eq_of_lt (by omega) h4).symm
    have h' : 0 ≤ x.tmod n := by omega
    clear hk hm hn h
    rw [e1] at h'
    go_enter Try.func39, Try.ntmps39
    go_wp2
    go_ret
    exact ⟨rfl, rfl⟩

/-- The eight names. -/
def names : List ByteArray := [⟨#[97]⟩, ⟨#[98]⟩, ⟨#[206, 177]⟩, ⟨#[207, 137, 57]⟩, ⟨#[110, 49]⟩, ⟨#[110, 50]⟩, ⟨#[206, 178, 206, 179, 206, 180, 206, 181, 206, 182, 206, 183, 206, 184, 206, 185]⟩, ⟨#[122, 122]⟩]
/-- The name of a number. -/
def nameAt (n : Int) : ByteArray := names.getD (n % 8).toNat ByteArray.empty

theorem eight (k : Int) (h0 : 0 ≤ k) (h : k < 8) : k = 0 ∨ k = 1 ∨ k = 2 ∨ k = 3 ∨ k = 4 ∨ k = 5 ∨ k = 6 ∨ k = 7 := by omega

theorem nameAt_mem (n : Int) : nameAt n ∈ names := by
  unfold nameAt
  rcases eight (n % 8) (by omega) (by omega) with h | h | h | h | h | h | h | h <;> rw [h] <;> simp [names]

set_option maxRecDepth 100000 in
set_option maxHeartbeats 1000000 in
theorem lName_on (n : Int) (w0 w : World) (hb : Below w0.heap.size w0 w) :
    Calls Try.prog 31 #[.int .i64 n] w fun e w' => e = .returned (.string (nameAt n)) ∧ Below w0.heap.size w0 w' := by
  obtain ⟨k, hk⟩ : ∃ k, n % 8 = k := ⟨_, rfl⟩
  unfold nameAt
  rw [hk]
  go_enter Try.func31, Try.ntmps31
  go_wp2_with (go_at_call 39; refine (within2_any _ _ _ (by decide) (by decide) (by assumption) _).mono ?_; rintro e w2 ⟨rfl, rfl⟩; rcases eight k (by omega) (by omega) with rfl | rfl | rfl | rfl | rfl | rfl | rfl | rfl)
  all_goals
    go_ret
    exact ⟨rfl, hb.alloc hb.size _⟩

theorem lName_is (n : Int) (s : ByteArray) (w0 w : World) (hb : Below w0.heap.size w0 w) (h : nameAt n = s) :
    Calls Try.prog 31 #[.int .i64 n] w fun e w' => e = .returned (.string s) ∧ Below w0.heap.size w0 w' := by
  subst h
  exact lName_on n w0 w hb

end Go.Proofs.Ytgcicillmljglaa
