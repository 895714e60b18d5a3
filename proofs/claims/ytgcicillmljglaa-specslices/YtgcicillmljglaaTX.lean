/- The contracts of what the statements make by numbers: a text, a number at an edge, a node. -/
import Derived.Test.YtgcicillmljglaaL
import Derived.Test.YtgcicillmljglaaRP
namespace Go.Proofs.Ytgcicillmljglaa
open Go.RowKit Go.Maps

theorem sixteen (k : Int) (h0 : 0 ≤ k) (h : k < 16) : k = 0 ∨ k = 1 ∨ k = 2 ∨ k = 3 ∨ k = 4 ∨ k = 5 ∨ k = 6 ∨ k = 7 ∨ k = 8 ∨ k = 9 ∨ k = 10 ∨ k = 11 ∨ k = 12 ∨ k = 13 ∨ k = 14 ∨ k = 15 := by omega

theorem app_le (s p : ByteArray) (k : Nat) (h : s.size ≤ 2 * k) (hp : p.size ≤ 2) : (s ++ p).size ≤ 2 * (k + 1) := by rw [ByteArray.size_append]; omega

set_option maxRecDepth 100000 in
set_option maxHeartbeats 4000000 in
theorem text_on (a : Option Addr) (len cap : Nat) (zs : List Int) (w0 W : World) (hrow : HasRow w0 a len zs) (hb : Below w0.heap.size w0 W) :
    Calls Try.prog 15 #[.slice a len cap] W fun e w' => ∃ s, e = .returned (.string s) ∧ s.size ≤ 24 ∧ Below w0.heap.size w0 w' := by
  have l0 : len ≤ 9223372036854775807 := hrow.1
  go_enter Try.func15, Try.ntmps15
  go_wp2
  go_loopw [3, 4] (fun v i wr => ∃ (k : Nat) (s : ByteArray), k ≤ 12 ∧ i = .int .i64 k ∧ v = .string s ∧ s.size ≤ 2 * k ∧ Below w0.heap.size w0 wr) (fun _ i _ => 12 - (intOf i).toNat)
  case atStart => exact ⟨0, _, Nat.zero_le _, rfl, rfl, by decide, hb⟩
  case round =>
    clear hb
    obtain ⟨k, s, hk, rfl, rfl, hsz, hbw⟩ := hrel
    by_cases hlt : k < len ∧ k < 12
    · obtain ⟨hlen, h12⟩ := hlt
      obtain ⟨x, z, rfl, hcz⟩ := hrow.at hbw (Nat.le_refl _) k hlen
      have hcz2 := fun o => cell_alloc hcz o
      clear hrow
      obtain ⟨q, hq⟩ : ∃ q, z % 16 = q := ⟨_, rfl⟩
      rcases sixteen q (by omega) (by omega) with rfl | rfl | rfl | rfl | rfl | rfl | rfl | rfl | rfl | rfl | rfl | rfl | rfl | rfl | rfl | rfl
      all_goals
        go_wp2_with (go_at_call 39; refine (within2_any _ _ _ (by decide) (by decide) (by assumption) _).mono ?_; rintro e w2 ⟨rfl, rfl⟩)
        go_roundw
        case rel => exact ⟨k + 1, _, h12, by go_num, rfl, app_le _ _ _ hsz (by decide), hbw.alloc hbw.size _⟩
        case measure => simp [intOf]; omega
    · rcases (by omega : len ≤ k ∨ (k < len ∧ 12 ≤ k)) with hx | ⟨hx, hx'⟩
      all_goals
        clear hlt hrow
        go_wp2
        go_ret
        exact ⟨_, rfl, by omega, hbw⟩

/-- 'within': the rest by n, from 0 on. -/
theorem within1_any (x n k : Int) (hn : 0 < n) (hm : n ≤ 9223372036854775807) (hk : x % n = k) (w : World) :
    Calls Try.prog 40 #[.int .i64 x, .int .i64 n] w fun e w' => e = .returned (.int .i64 k) ∧ w' = w := by
  have hn0 : ¬ n = 0 := by omega
  by_cases h : x.tmod n < 0
  · have hb : -n < x.tmod n := Int.lt_tmod_of_pos x hn
    have hw : wrap64 (x.tmod n + n) = k := by
      have e1 : x % n = x.tmod n + n := by
        have h1 := Int.emod_add_mul_ediv x n
        have h2 := Int.tmod_add_mul_tdiv x n
        have h3 : 0 ≤ x % n := Int.emod_nonneg x (by omega)
        have h4 : x % n < n := Int.emod_lt_of_pos x hn
        have h5 : (x.tmod n + n) % n = x % n := by
          rw [show x % n = (x.tmod n + n * x.tdiv n) % n by rw [h2], Int.add_emod_right, Int.add_mul_emod_self_left]
        rw [← h5]
        exact Int.emod_eq_of_lt (by omega) (by omega)
      unfold wrap64
      omega
    clear hk hm hn
    go_enter Try.func40, Try.ntmps40
    go_wp2
    go_ret
    exact ⟨by rw [← hw]; rfl, rfl⟩
  · have e1 : x.tmod n = k := by
      have h2 := Int.tmod_add_mul_tdiv x n
      have h4 : x.tmod n < n := Int.tmod_lt_of_pos x hn
      have h5 : (x.tmod n) % n = x % n := by
        rw [show x % n = (x.tmod n + n * x.tdiv n) % n by rw [h2], Int.add_mul_emod_self_left]
      rw [← hk, ← h5]
      exact (Int.emod_eq_of_lt (by omega) h4).symm
    have h' : 0 ≤ x.tmod n := by omega
    clear hk hm hn h
    rw [e1] at h'
    go_enter Try.func40, Try.ntmps40
    go_wp2
    go_ret
    exact ⟨rfl, rfl⟩


theorem eight' (k : Int) (h0 : 0 ≤ k) (h : k < 8) : k = 0 ∨ k = 1 ∨ k = 2 ∨ k = 3 ∨ k = 4 ∨ k = 5 ∨ k = 6 ∨ k = 7 := by omega

set_option maxRecDepth 100000 in
set_option maxHeartbeats 2000000 in
theorem edge_on (n : Int) (w0 W : World) (hb : Below w0.heap.size w0 W) :
    Calls Try.prog 16 #[.int .i64 n] W fun e w' => ∃ z, e = .returned (.int .i64 z) ∧ Below w0.heap.size w0 w' := by
  obtain ⟨j, hj⟩ : ∃ j, n % 8 = j := ⟨_, rfl⟩
  go_enter Try.func16, Try.ntmps16
  go_wp2_with (first
    | (go_at_call_of 40 (Value.int .i64 1000); refine (within1_any _ _ _ (by decide) (by decide) rfl _).mono ?_; rintro e w2 ⟨rfl, rfl⟩)
    | (go_at_call_of 40 (Value.int .i64 n); refine (within1_any _ _ _ (by decide) (by decide) hj _).mono ?_; rintro e w2 ⟨rfl, rfl⟩; rcases eight' j (by omega) (by omega) with rfl | rfl | rfl | rfl | rfl | rfl | rfl | rfl))
  all_goals
    go_ret
    exact ⟨_, rfl, hb.alloc hb.size _⟩

theorem bit_rest (n : Int) (k : Nat) (h : k < 4) : bit n k = bit (n % 16) k := by
  unfold bit
  rcases (by omega : k = 0 ∨ k = 1 ∨ k = 2 ∨ k = 3) with rfl | rfl | rfl | rfl <;> exact decide_eq_decide.2 (by simp only [Int.pow_zero, Int.ediv_one, Int.reducePow]; omega)
theorem marks_rest (n : Int) : marksTo n 4 = marksTo (n % 16) 4 := by
  simp only [marksTo, bit_rest n 0 (by omega), bit_rest n 1 (by omega), bit_rest n 2 (by omega), bit_rest n 3 (by omega)]
theorem sets16 : ((List.range 16).all fun i => setB (marksTo (i : Int) 4) && (marksTo (i : Int) 4).all fun s => decide (s.size ≤ 1000)) = true := by decide +kernel
theorem marks_set (n : Int) : setB (marksTo n 4) = true ∧ ∀ s ∈ marksTo n 4, s.size ≤ 1000 := by
  have h := List.all_eq_true.1 sets16 (n % 16).toNat (List.mem_range.2 (by omega))
  rw [Int.toNat_of_nonneg (by omega), Bool.and_eq_true] at h
  rw [marks_rest n]
  exact ⟨h.1, fun s hs => by simpa using List.all_eq_true.1 h.2 s hs⟩

end Go.Proofs.Ytgcicillmljglaa
