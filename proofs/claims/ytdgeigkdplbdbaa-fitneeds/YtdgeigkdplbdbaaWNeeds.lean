/- The walk of FitNeeds. -/
import Derived.Test.YtdgeigkdplbdbaaK
namespace Go.Proofs.Ytdgeigkdplbdbaa
open Go.RowKit Go.Maps

theorem room_small (u v x y c m : Int) (h : 0 ≤ u ∧ u ≤ 1000 ∧ 0 ≤ v ∧ v ≤ 1000 ∧ 0 ≤ x ∧ x ≤ 1000 ∧ 0 ≤ y ∧ y ≤ 1000) : roomB u v x y c m = decide (x + u ≤ c ∧ y + v ≤ m) := by
  unfold roomB
  rw [decide_eq_decide]
  omega

set_option maxRecDepth 100000 in
set_option maxHeartbeats 4000000 in
theorem fitNeeds_walk (a b c d e f : Int) (w : World) :
    Calls Try.prog 6 #[.int .i64 a, .int .i64 b, .int .i64 c, .int .i64 d, .int .i64 e, .int .i64 f] w fun e w' => e = .returned (.bool true) ∧ Below w.heap.size w w' := by
  obtain ⟨a1, ha⟩ : ∃ k, a % 8 = k := ⟨_, rfl⟩
  obtain ⟨b1, hb⟩ : ∃ k, b % 8 = k := ⟨_, rfl⟩
  obtain ⟨c1, hc⟩ : ∃ k, c % 12 = k := ⟨_, rfl⟩
  obtain ⟨d1, hd⟩ : ∃ k, d % 12 = k := ⟨_, rfl⟩
  obtain ⟨e1, he⟩ : ∃ k, e % 8 = k := ⟨_, rfl⟩
  obtain ⟨f1, hf⟩ : ∃ k, f % 8 = k := ⟨_, rfl⟩
  have a0 : 0 ≤ a1 ∧ a1 < 8 := by omega
  have b0 : 0 ≤ b1 ∧ b1 < 8 := by omega
  have c0 : 0 ≤ c1 ∧ c1 < 12 := by omega
  have d0 : 0 ≤ d1 ∧ d1 < 12 := by omega
  have e0 : 0 ≤ e1 ∧ e1 < 8 := by omega
  have f0 : 0 ≤ f1 ∧ f1 < 8 := by omega
  obtain ⟨r, hr⟩ : ∃ r, whyN false true true (roomB e1 f1 a1 b1 c1 d1) false [] = r := ⟨_, rfl⟩
  have k1 := fun W => why_bare ⟨#[112]⟩ ⟨#[110]⟩ 0 a1 b1 c1 d1 e1 f1 false false none 0 0 [] r W rfl (places_nil W) (by omega) (by omega) hr
  rw [room_small _ _ _ _ _ _ (by omega)] at hr
  by_cases h1 : c1 < a1 + e1
  · obtain rfl : r = 4 := by rw [← hr]; unfold whyN; rw [show decide (a1 + e1 ≤ c1 ∧ b1 + f1 ≤ d1) = false by simp; omega]; rfl
    clear hr
    go_enter Try.func6, Try.ntmps6
    go_wp2_with (first
      | (go_at_call 9; refine (known_on _ _ (Below.refl _ _)).mono ?_; rintro e w1 ⟨rfl, hb1⟩)
      | (go_at_call 12; refine (within5_any _ _ _ (by decide) (by decide) (by assumption) _).mono ?_; rintro e w2 ⟨rfl, rfl⟩)
      | (go_at_call 14; refine (k1 _).mono ?_; rintro e w3 ⟨rfl, hb3⟩))
    go_ret
    exact ⟨rfl, (up (up (up hb1 _) _) _).trans (hb3.mono (up (up (up hb1 _) _) _).size)⟩
  · by_cases h2 : d1 < b1 + f1
    · obtain rfl : r = 4 := by rw [← hr]; unfold whyN; rw [show decide (a1 + e1 ≤ c1 ∧ b1 + f1 ≤ d1) = false by simp; omega]; rfl
      clear hr
      go_enter Try.func6, Try.ntmps6
      go_wp2_with (first
        | (go_at_call 9; refine (known_on _ _ (Below.refl _ _)).mono ?_; rintro e w1 ⟨rfl, hb1⟩)
        | (go_at_call 12; refine (within5_any _ _ _ (by decide) (by decide) (by assumption) _).mono ?_; rintro e w2 ⟨rfl, rfl⟩)
        | (go_at_call 14; refine (k1 _).mono ?_; rintro e w3 ⟨rfl, hb3⟩))
      go_ret
      exact ⟨rfl, (up (up (up hb1 _) _) _).trans (hb3.mono (up (up (up hb1 _) _) _).size)⟩
    · obtain rfl : r = 0 := by rw [← hr]; unfold whyN; rw [show decide (a1 + e1 ≤ c1 ∧ b1 + f1 ≤ d1) = true by simp; omega]; rfl
      clear hr
      go_enter Try.func6, Try.ntmps6
      go_wp2_with (first
        | (go_at_call 9; refine (known_on _ _ (Below.refl _ _)).mono ?_; rintro e w1 ⟨rfl, hb1⟩)
        | (go_at_call 12; refine (within5_any _ _ _ (by decide) (by decide) (by assumption) _).mono ?_; rintro e w2 ⟨rfl, rfl⟩)
        | (go_at_call 14; refine (k1 _).mono ?_; rintro e w3 ⟨rfl, hb3⟩))
      go_ret
      exact ⟨rfl, (up (up (up hb1 _) _) _).trans (hb3.mono (up (up (up hb1 _) _) _).size)⟩

end Go.Proofs.Ytdgeigkdplbdbaa
