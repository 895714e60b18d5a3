/- The names that the statements make by a number, and what is true of each two of them. -/
import Derived.Test.YtcmgpbdciifdmaaWi
namespace Go.Proofs.Ytcmgpbdciifdmaa
open Go.RowKit

/-- The eight names. -/
def names : List ByteArray := [⟨#[97]⟩, ⟨#[98]⟩, ⟨#[206, 177]⟩, ⟨#[207, 137, 57]⟩, ⟨#[110, 49]⟩, ⟨#[110, 50]⟩, ⟨#[206, 178, 206, 179, 206, 180, 206, 181, 206, 182, 206, 183, 206, 184, 206, 185]⟩, ⟨#[122, 122]⟩]
/-- The name of a number. -/
def nameAt (n : Int) : ByteArray := names.getD (n % 8).toNat ByteArray.empty

theorem eight (k : Int) (h0 : 0 ≤ k) (h : k < 8) : k = 0 ∨ k = 1 ∨ k = 2 ∨ k = 3 ∨ k = 4 ∨ k = 5 ∨ k = 6 ∨ k = 7 := by omega

theorem nameAt_mem (n : Int) : nameAt n ∈ names := by
  unfold nameAt
  rcases eight (n % 8) (by omega) (by omega) with h | h | h | h | h | h | h | h <;> rw [h] <;> simp [names]

set_option maxRecDepth 100000 in
set_option maxHeartbeats 1000000 in
theorem lName_on (n : Int) (w0 w : World) (hb : Below w0.heap.size w0 w) :
    Calls Try.prog 16 #[.int .i64 n] w fun e w' => e = .returned (.string (nameAt n)) ∧ Below w0.heap.size w0 w' := by
  obtain ⟨k, hk⟩ : ∃ k, n % 8 = k := ⟨_, rfl⟩
  unfold nameAt
  rw [hk]
  go_enter Try.func16, Try.ntmps16
  go_wp2_with (go_at_call 40; refine (within2_any _ _ _ (by decide) (by decide) (by assumption) _).mono ?_; rintro e w2 ⟨rfl, rfl⟩; rcases eight k (by omega) (by omega) with rfl | rfl | rfl | rfl | rfl | rfl | rfl | rfl)
  all_goals
    go_ret
    exact ⟨rfl, hb.alloc hb.size _⟩

theorem lName_is (n : Int) (s : ByteArray) (w0 w : World) (hb : Below w0.heap.size w0 w) (h : nameAt n = s) :
    Calls Try.prog 16 #[.int .i64 n] w fun e w' => e = .returned (.string s) ∧ Below w0.heap.size w0 w' := by
  subst h
  exact lName_on n w0 w hb

end Go.Proofs.Ytcmgpbdciifdmaa
