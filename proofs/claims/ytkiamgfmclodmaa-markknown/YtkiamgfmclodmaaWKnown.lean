/- The walk of MarkKnown: it returns true. -/
import Derived.Test.YtkiamgfmclodmaaC
namespace Go.Proofs.Ytkiamgfmclodmaa
open Go.RowKit

theorem known_cases (k : Int) (h0 : 0 ≤ k) (h : k < 24) : k = 0 ∨ k = 1 ∨ k = 2 ∨ k = 3 ∨ k = 4 ∨ k = 5 ∨ k = 6 ∨ k = 7 ∨ k = 8 ∨ k = 9 ∨ k = 10 ∨ k = 11 ∨ k = 12 ∨ k = 13 ∨ k = 14 ∨ k = 15 ∨ k = 16 ∨ k = 17 ∨ k = 18 ∨ k = 19 ∨ k = 20 ∨ k = 21 ∨ k = 22 ∨ k = 23 := by omega

theorem kn0 : isName ⟨#[97]⟩ = true := by decide +kernel
theorem kn1 : isName ⟨#[122, 57]⟩ = true := by decide +kernel
theorem kn2 : isName ⟨#[206, 177, 206, 178, 206, 179, 206, 180, 206, 181, 206, 182, 206, 183, 206, 184]⟩ = true := by decide +kernel
theorem kn3 : isName ⟨#[97, 98, 99, 100, 101, 102, 103, 104]⟩ = true := by decide +kernel
theorem kn4 : isName ⟨#[97, 48, 98, 49, 99, 50, 100, 51]⟩ = true := by decide +kernel
theorem kn5 : isName ⟨#[207, 137]⟩ = true := by decide +kernel
theorem kn6 : isName ⟨#[207, 130]⟩ = true := by decide +kernel
theorem kn7 : isName ⟨#[206, 177, 206, 178, 206, 179, 206, 180, 206, 181, 206, 182, 206, 183, 206, 184, 206, 185]⟩ = false := by decide +kernel
theorem kn8 : isName ⟨#[97, 98, 99, 100, 101, 102, 103, 104, 105]⟩ = false := by decide +kernel
theorem kn9 : isName ⟨#[57, 97]⟩ = false := by decide +kernel
theorem kn10 : isName ⟨#[48]⟩ = false := by decide +kernel
theorem kn11 : isName ⟨#[65]⟩ = false := by decide +kernel
theorem kn12 : isName ⟨#[206, 145]⟩ = false := by decide +kernel
theorem kn13 : isName ⟨#[206, 172]⟩ = false := by decide +kernel
theorem kn14 : isName ⟨#[207, 138]⟩ = false := by decide +kernel
theorem kn15 : isName ⟨#[97, 32, 98]⟩ = false := by decide +kernel
theorem kn16 : isName ⟨#[97, 45, 98]⟩ = false := by decide +kernel
theorem kn17 : isName ⟨#[206]⟩ = false := by decide +kernel
theorem kn18 : isName ⟨#[97, 177]⟩ = false := by decide +kernel
theorem kn19 : isName ⟨#[97, 239, 191, 189]⟩ = false := by decide +kernel
theorem kn20 : isName ⟨#[]⟩ = false := by decide +kernel
theorem kn21 : isName ⟨#[195, 169]⟩ = false := by decide +kernel
theorem kn22 : isName ⟨#[206, 176]⟩ = false := by decide +kernel
theorem kn23 : isName ⟨#[207, 144]⟩ = false := by decide +kernel

set_option maxRecDepth 100000 in
set_option maxHeartbeats 4000000 in
theorem markKnown_walk (a : Int) (_h : (Lit.int .i64 a).wf = true) (w : World) :
    Calls Try.prog 4 #[.int .i64 a] w fun e w' => e = .returned (.bool true) ∧ Below w.heap.size w w' := by
  obtain ⟨k, hk⟩ : ∃ k, a % 24 = k := ⟨_, rfl⟩
  have hb0 : Below w.heap.size w w := Below.refl _ _
  go_enter Try.func4, Try.ntmps4
  go_wp2_with (first
    | (go_at_call 9; refine (known_on _ _ (by assumption)).mono ?_; rintro e w1 ⟨rfl, hb1⟩)
    | (go_at_call 11; refine (within_any _ _ _ (by decide) (by decide) (by assumption) _).mono ?_; rintro e w2 ⟨rfl, rfl⟩; rcases known_cases k (by omega) (by omega) with rfl | rfl | rfl | rfl | rfl | rfl | rfl | rfl | rfl | rfl | rfl | rfl | rfl | rfl | rfl | rfl | rfl | rfl | rfl | rfl | rfl | rfl | rfl | rfl)
    | (go_at_call 12; refine (name_on _ _ _ _ (hb1.alloc hb1.size _) (by with_reducible first | exact kn0 | exact kn1 | exact kn2 | exact kn3 | exact kn4 | exact kn5 | exact kn6 | exact kn7 | exact kn8 | exact kn9 | exact kn10 | exact kn11 | exact kn12 | exact kn13 | exact kn14 | exact kn15 | exact kn16 | exact kn17 | exact kn18 | exact kn19 | exact kn20 | exact kn21 | exact kn22 | exact kn23)).mono ?_; rintro e w1 ⟨rfl, hb1⟩))
  all_goals
    go_ret
    exact ⟨rfl, by assumption⟩

end Go.Proofs.Ytkiamgfmclodmaa
