/- The rest of a division, as package joinerylaw4 has it. -/
import Derived.Test.YthneemgpifbehaaGreatDoorMg02
namespace Go.Proofs.YthneemgpifbehaaGreatDoor
open Go.RowKit

/-- 'within': the rest by n, from 0 on. -/
theorem within4_any (x n k : Int) (hn : 0 < n) (hm : n ≤ 9223372036854775807) (hk : x % n = k) (w : World) :
    Calls Tryz.prog 67 #[.int .i64 x, .int .i64 n] w fun e w' => e = .returned (.int .i64 k) ∧ w' = w := by
  have hn0 : ¬ n = 0 := by omega
  by_cases h : x.tmod n < 0
  · have hb : -n < x.tmod n := Int.lt_tmod_of_pos x hn
    have hw : wrap64 (x.tmod n + n) = k := by
      have e1 : x % n = x.tmod n + n := by
        have h1 := Int.emod_add_mul_ediv x n
        have h2 := Int.tmod_add_mul_tdiv x n
        have h3 : 0 ≤ x % n := Int.emod_nonneg x (by omega)
        have h4 : x % n < n := Int.emod_lt_of_pos x hn
        have h5 : (x.tmod n + n) % n = x % n := by
          rw [show x % n = (x.tmod n + n * x.tdiv n) % n by rw [h2], Int.add_emod_right, Int.add_mul_emod_self_left]
        rw [← h5]
        exact Int.emod_eq_of_lt (by omega) (by omega)
      unfold wrap64
      omega
    clear hk hm hn
    go_enter Tryz.func67, Tryz.ntmps67
    go_wp2
    go_ret
    exact ⟨by rw [← hw]; rfl, rfl⟩
  · have e1 : x.tmod n = k := by
      have h2 := Int.tmod_add_mul_tdiv x n
      have h4 : x.tmod n < n := Int.tmod_lt_of_pos x hn
      have h5 : (x.tmod n) % n = x % n := by
        rw [show x % n = (x.tmod n + n * x.tdiv n) % n by rw [h2], Int.add_mul_emod_self_left]
      rw [← hk, ← h5]
      exact (Int.emod_eq_of_lt (by omega) h4).symm
    have h' : 0 ≤ x.tmod n := by omega
    clear hk hm hn h
    rw [e1] at h'
    go_enter Tryz.func67, Tryz.ntmps67
    go_wp2
    go_ret
    exact ⟨rfl, rfl⟩



end Go.Proofs.YthneemgpifbehaaGreatDoor
