/- The walk of MarkEach: it returns true. -/
import Derived.Test.YtkiamgfmclodmabEachM
namespace Go.Proofs.Ytkiamgfmclodmab
open Go.RowKit

theorem each_parts (r : Int) (h : each r = true) : isName (Utf8.encode r) = letR r ∧ isName (⟨#[97]⟩ ++ Utf8.encode r) = (letR r || digR r) ∧ isName (⟨#[207, 137]⟩ ++ Utf8.encode r ++ ⟨#[49]⟩) = (letR r || digR r) ∧ (count (Utf8.encode r) : Int) = 1 ∧ (Utf8.encode r).size ≤ 4 := by
  unfold each at h
  simp only [Bool.and_eq_true, beq_iff_eq, decide_eq_true_eq] at h
  obtain ⟨⟨⟨⟨h1, h2⟩, h3⟩, h4⟩, h5⟩ := h
  exact ⟨h1, h2, h3, by omega, h5⟩

theorem seven (r : Int) (l d : Bool) (hl : letR r = l) (hd : digR r = d) : (r < 48 ∧ l = false ∧ d = false) ∨ (48 ≤ r ∧ r ≤ 57 ∧ l = false ∧ d = true) ∨ (57 < r ∧ r < 97 ∧ l = false ∧ d = false) ∨ (97 ≤ r ∧ r ≤ 122 ∧ l = true ∧ d = false) ∨ (122 < r ∧ r < 945 ∧ l = false ∧ d = false) ∨ (945 ≤ r ∧ r ≤ 969 ∧ l = true ∧ d = false) ∨ (969 < r ∧ l = false ∧ d = false) := by
  have hl' : l = true ↔ (97 ≤ r ∧ r ≤ 122) ∨ (945 ≤ r ∧ r ≤ 969) := by subst hl; simp [letR]
  have hd' : d = true ↔ (48 ≤ r ∧ r ≤ 57) := by subst hd; simp [digR]
  clear hl hd
  cases l <;> cases d <;> simp at hl' hd' ⊢ <;> omega

set_option maxRecDepth 100000 in
set_option maxHeartbeats 4000000 in
theorem markEach_one (n m r k : Int) (l d : Bool) (hr : n % 1280 = r) (hk : m % 3 = k) (hk0 : (k == 0) = false) (hl : letR r = l) (hd : digR r = d) (h : each r = true) (w : World) :
    Calls Try.prog 4 #[.int .i64 n, .int .i64 m] w fun e w' => e = .returned (.bool true) ∧ Below w.heap.size w w' := by
  obtain ⟨h1, h2, h3, h4, h5⟩ := each_parts r h
  have hb0 : Below w.heap.size w w := Below.refl _ _
  have m1 : (Utf8.encode r).size ≤ maxLen := by unfold maxLen; omega
  have r0 : 0 ≤ r := by omega
  have r1 : r < 1280 := by omega
  rw [hl] at h1
  rw [hl, hd] at h2 h3
  obtain ⟨s, hs⟩ : ∃ s, Utf8.encode r = s := ⟨_, rfl⟩
  rw [hs] at h1 h2 h3 h4 h5 m1
  have hcv : ∀ w, (convert 21 9 (.int .i32 r)).run Try.prog w = .ok (.string s) w := fun w => by
    rw [run_convert_int_string w 21 9 .i32 r (by kernel_rfl) (by kernel_rfl), hs]
  have h7 := seven r l d hl hd
  clear hs h hl hd
  rcases h7 with ⟨c, rfl, rfl⟩ | ⟨c, c', rfl, rfl⟩ | ⟨c, c', rfl, rfl⟩ | ⟨c, c', rfl, rfl⟩ | ⟨c, c', rfl, rfl⟩ | ⟨c, c', rfl, rfl⟩ | ⟨c, rfl, rfl⟩
  all_goals
    simp only [Bool.or_true, Bool.or_false, Bool.or_self] at h2 h3
    go_enter Try.func4, Try.ntmps4
    go_wp2_with (first
      | (go_at_call 7; refine (known_on _ _ (by assumption)).mono ?_; rintro e w1 ⟨rfl, hb1⟩)
      | (go_at_call 8; refine (within_any _ _ _ (by decide) (by decide) (by assumption) _).mono ?_; rintro e w2 ⟨rfl, rfl⟩)
      | (go_at_call 9; refine (name_on _ _ _ _ (by assumption) (by assumption)).mono ?_; rintro e w1 ⟨rfl, hb1⟩)
      | (go_at_call 10; refine (runes_on _ _ _ _ (by assumption) (by assumption) (by assumption)).mono ?_; rintro e w1 ⟨rfl, hb1⟩))
    go_ret
    exact ⟨by first | rfl | (simp; omega), by assumption⟩

theorem ten (k : Int) (h0 : 0 ≤ k) (h : k < 10) : k = 0 ∨ k = 1 ∨ k = 2 ∨ k = 3 ∨ k = 4 ∨ k = 5 ∨ k = 6 ∨ k = 7 ∨ k = 8 ∨ k = 9 := by omega

/-- The ten runes. -/
def tenR : List Int := [944, 945, 969, 970, 96, 123, 48, 57, 128512, 65533]

set_option maxRecDepth 100000 in
set_option maxHeartbeats 4000000 in
theorem markEach_two (n m t q r : Int) (l d : Bool) (ht : n % 1280 = t) (hm : m % 3 = 0) (hq : n % 10 = q) (hr : tenR.getD q.toNat 0 = r) (hl : letR r = l) (hd : digR r = d) (h : each r = true) (w : World) :
    Calls Try.prog 4 #[.int .i64 n, .int .i64 m] w fun e w' => e = .returned (.bool true) ∧ Below w.heap.size w w' := by
  obtain ⟨h1, h2, h3, h4, h5⟩ := each_parts r h
  have hb0 : Below w.heap.size w w := Below.refl _ _
  have m1 : (Utf8.encode r).size ≤ maxLen := by unfold maxLen; omega
  have t0 : 0 ≤ t := by omega
  have t1 : t < 1280 := by omega
  rw [hl] at h1
  rw [hl, hd] at h2 h3
  obtain ⟨s, hs⟩ : ∃ s, Utf8.encode r = s := ⟨_, rfl⟩
  rw [hs] at h1 h2 h3 h4 h5 m1
  have hcv : ∀ w, (convert 21 9 (.int .i32 r)).run Try.prog w = .ok (.string s) w := fun w => by
    rw [run_convert_int_string w 21 9 .i32 r (by kernel_rfl) (by kernel_rfl), hs]
  clear hs h
  rcases ten q (by omega) (by omega) with rfl | rfl | rfl | rfl | rfl | rfl | rfl | rfl | rfl | rfl
  all_goals
    simp [tenR] at hr
    subst hr
    simp [letR] at hl
    simp [digR] at hd
    subst hl
    subst hd
    simp only [Bool.or_true, Bool.or_false, Bool.or_self] at h2 h3
    go_enter Try.func4, Try.ntmps4
    go_wp2_with (first
      | (go_at_call 7; refine (known_on _ _ (by assumption)).mono ?_; rintro e w1 ⟨rfl, hb1⟩)
      | (go_at_call 8; refine (within_any _ _ _ (by decide) (by decide) (by assumption) _).mono ?_; rintro e w2 ⟨rfl, rfl⟩)
      | (go_at_call 9; refine (name_on _ _ _ _ (by first | assumption | exact hb1.alloc hb1.size _) (by assumption)).mono ?_; rintro e w1 ⟨rfl, hb1⟩)
      | (go_at_call 10; refine (runes_on _ _ _ _ (by assumption) (by assumption) (by assumption)).mono ?_; rintro e w1 ⟨rfl, hb1⟩))
    go_ret
    exact ⟨rfl, by assumption⟩

theorem markEach_walk (a b : Int) (_h0 : (Lit.int .i64 a).wf = true) (_h1 : (Lit.int .i64 b).wf = true) (w : World) :
    Calls Try.prog 4 #[.int .i64 a, .int .i64 b] w fun e w' => e = .returned (.bool true) ∧ Below w.heap.size w w' := by
  by_cases h : b % 3 = 0
  · refine markEach_two a b _ _ _ _ _ rfl h rfl rfl rfl rfl ?_ w
    refine List.all_eq_true.1 each_some _ ?_
    rcases ten (a % 10) (by omega) (by omega) with h | h | h | h | h | h | h | h | h | h <;> rw [h] <;> simp [tenR]
  · exact markEach_one a b _ _ _ _ rfl rfl (by simpa using h) rfl rfl (each_of _ (by omega) (by omega)) w

end Go.Proofs.Ytkiamgfmclodmab
