/- The contracts of checkGang and Check of package line, of records of one number alone. -/
import Derived.Test.YtmldpihjndafaabDoorTO
namespace Go.Proofs.YtmldpihjndafaabDoor
open Go.RowKit
set_option linter.unusedSimpArgs false
set_option linter.unusedVariables false

/-- What is wrong with a gang's number. -/
def gangE (g : Int) : Int := if g < 1 ∨ 999999 < g then 2 else 0

set_option maxRecDepth 100000 in
set_option maxHeartbeats 2000000 in
theorem checkGang_four (g : Int) (w : World) : Calls Tryd.prog 29 #[.agg #[.int .i64 4, .int .i64 g, .slice none 0 0, .slice none 0 0, .string ⟨#[]⟩, .int .i64 0, .int .i64 0, .slice none 0 0, .slice none 0 0, .bool false]] w fun e w' => e = .returned (.int .i64 (gangE g)) ∧ Below w.heap.size w w' := by
  unfold gangE
  by_cases h1 : g < 1
  · rw [if_pos (.inl h1)]
    have d1 : decide (g < 1) = true := by simp [h1]
    go_enter Tryd.func29, Tryd.ntmps29
    go_wp2
    go_ret
    exact ⟨rfl, up (Below.refl _ _) _⟩
  · have d1 : decide (g < 1) = false := by simp [h1]
    by_cases h2 : 999999 < g
    · rw [if_pos (.inr h2)]
      have d2 : decide (999999 < g) = true := by simp [h2]
      go_enter Tryd.func29, Tryd.ntmps29
      go_wp2
      go_ret
      exact ⟨rfl, up (Below.refl _ _) _⟩
    · rw [if_neg (by omega)]
      have d2 : decide (999999 < g) = false := by simp [h2]
      go_enter Tryd.func29, Tryd.ntmps29
      go_wp2_with (first
        | (go_at_call 36; refine (peered_is 4 false (by decide) _).mono ?_; rintro e w1 ⟨rfl, rfl⟩))
      go_ret
      exact ⟨rfl, up (Below.refl _ _) _⟩
set_option maxRecDepth 100000 in
set_option maxHeartbeats 2000000 in
theorem check_four (g : Int) (w : World) : Calls Tryd.prog 15 #[.agg #[.int .i64 4, .int .i64 g, .slice none 0 0, .slice none 0 0, .string ⟨#[]⟩, .int .i64 0, .int .i64 0, .slice none 0 0, .slice none 0 0, .bool false]] w fun e w' => e = .returned (.int .i64 (gangE g)) ∧ Below w.heap.size w w' := by
  go_enter Tryd.func15, Tryd.ntmps15
  go_wp2_with (first
    | (go_at_call 25; refine (known_all _ _).mono ?_; rintro e w1 ⟨rfl, rfl⟩)
    | (go_at_call 26; refine (bare_four _ _).mono ?_; rintro e w2 ⟨rfl, hb2⟩
       have q := (Box.new w #[.int .i64 4, .int .i64 g, .slice none 0 0, .slice none 0 0, .string ⟨#[]⟩, .int .i64 0, .int .i64 0, .slice none 0 0, .slice none 0 0, .bool false] 35 rfl).later hb2
       have hW := fin hb2 (up (Below.refl w.heap.size w) _)
       obtain ⟨x0, x1, x2, x3, x4, x5, x6, x7, x8, x9⟩ := RecBox.cells q)
    | (go_at_call 29; refine (checkGang_four _ _).mono ?_; rintro e w3 ⟨rfl, hb3⟩))
  go_ret
  exact ⟨rfl, fin hb3 hW⟩

set_option maxRecDepth 100000 in
set_option maxHeartbeats 2000000 in
theorem checkGang_five (g : Int) (w : World) : Calls Tryd.prog 29 #[.agg #[.int .i64 5, .int .i64 g, .slice none 0 0, .slice none 0 0, .string ⟨#[]⟩, .int .i64 0, .int .i64 0, .slice none 0 0, .slice none 0 0, .bool false]] w fun e w' => e = .returned (.int .i64 (gangE g)) ∧ Below w.heap.size w w' := by
  unfold gangE
  by_cases h1 : g < 1
  · rw [if_pos (.inl h1)]
    have d1 : decide (g < 1) = true := by simp [h1]
    go_enter Tryd.func29, Tryd.ntmps29
    go_wp2
    go_ret
    exact ⟨rfl, up (Below.refl _ _) _⟩
  · have d1 : decide (g < 1) = false := by simp [h1]
    by_cases h2 : 999999 < g
    · rw [if_pos (.inr h2)]
      have d2 : decide (999999 < g) = true := by simp [h2]
      go_enter Tryd.func29, Tryd.ntmps29
      go_wp2
      go_ret
      exact ⟨rfl, up (Below.refl _ _) _⟩
    · rw [if_neg (by omega)]
      have d2 : decide (999999 < g) = false := by simp [h2]
      go_enter Tryd.func29, Tryd.ntmps29
      go_wp2_with (first
        | (go_at_call 36; refine (peered_is 5 false (by decide) _).mono ?_; rintro e w1 ⟨rfl, rfl⟩))
      go_ret
      exact ⟨rfl, up (Below.refl _ _) _⟩
set_option maxRecDepth 100000 in
set_option maxHeartbeats 2000000 in
theorem check_five (g : Int) (w : World) : Calls Tryd.prog 15 #[.agg #[.int .i64 5, .int .i64 g, .slice none 0 0, .slice none 0 0, .string ⟨#[]⟩, .int .i64 0, .int .i64 0, .slice none 0 0, .slice none 0 0, .bool false]] w fun e w' => e = .returned (.int .i64 (gangE g)) ∧ Below w.heap.size w w' := by
  go_enter Tryd.func15, Tryd.ntmps15
  go_wp2_with (first
    | (go_at_call 25; refine (known_all _ _).mono ?_; rintro e w1 ⟨rfl, rfl⟩)
    | (go_at_call 26; refine (bare_five _ _).mono ?_; rintro e w2 ⟨rfl, hb2⟩
       have q := (Box.new w #[.int .i64 5, .int .i64 g, .slice none 0 0, .slice none 0 0, .string ⟨#[]⟩, .int .i64 0, .int .i64 0, .slice none 0 0, .slice none 0 0, .bool false] 35 rfl).later hb2
       have hW := fin hb2 (up (Below.refl w.heap.size w) _)
       obtain ⟨x0, x1, x2, x3, x4, x5, x6, x7, x8, x9⟩ := RecBox.cells q)
    | (go_at_call 29; refine (checkGang_five _ _).mono ?_; rintro e w3 ⟨rfl, hb3⟩))
  go_ret
  exact ⟨rfl, fin hb3 hW⟩

set_option maxRecDepth 100000 in
set_option maxHeartbeats 2000000 in
theorem checkGang_six (g : Int) (w : World) : Calls Tryd.prog 29 #[.agg #[.int .i64 6, .int .i64 g, .slice none 0 0, .slice none 0 0, .string ⟨#[]⟩, .int .i64 0, .int .i64 0, .slice none 0 0, .slice none 0 0, .bool false]] w fun e w' => e = .returned (.int .i64 (gangE g)) ∧ Below w.heap.size w w' := by
  unfold gangE
  by_cases h1 : g < 1
  · rw [if_pos (.inl h1)]
    have d1 : decide (g < 1) = true := by simp [h1]
    go_enter Tryd.func29, Tryd.ntmps29
    go_wp2
    go_ret
    exact ⟨rfl, up (Below.refl _ _) _⟩
  · have d1 : decide (g < 1) = false := by simp [h1]
    by_cases h2 : 999999 < g
    · rw [if_pos (.inr h2)]
      have d2 : decide (999999 < g) = true := by simp [h2]
      go_enter Tryd.func29, Tryd.ntmps29
      go_wp2
      go_ret
      exact ⟨rfl, up (Below.refl _ _) _⟩
    · rw [if_neg (by omega)]
      have d2 : decide (999999 < g) = false := by simp [h2]
      go_enter Tryd.func29, Tryd.ntmps29
      go_wp2_with (first
        | (go_at_call 36; refine (peered_is 6 false (by decide) _).mono ?_; rintro e w1 ⟨rfl, rfl⟩))
      go_ret
      exact ⟨rfl, up (Below.refl _ _) _⟩
set_option maxRecDepth 100000 in
set_option maxHeartbeats 2000000 in
theorem check_six (g : Int) (w : World) : Calls Tryd.prog 15 #[.agg #[.int .i64 6, .int .i64 g, .slice none 0 0, .slice none 0 0, .string ⟨#[]⟩, .int .i64 0, .int .i64 0, .slice none 0 0, .slice none 0 0, .bool false]] w fun e w' => e = .returned (.int .i64 (gangE g)) ∧ Below w.heap.size w w' := by
  go_enter Tryd.func15, Tryd.ntmps15
  go_wp2_with (first
    | (go_at_call 25; refine (known_all _ _).mono ?_; rintro e w1 ⟨rfl, rfl⟩)
    | (go_at_call 26; refine (bare_six _ _).mono ?_; rintro e w2 ⟨rfl, hb2⟩
       have q := (Box.new w #[.int .i64 6, .int .i64 g, .slice none 0 0, .slice none 0 0, .string ⟨#[]⟩, .int .i64 0, .int .i64 0, .slice none 0 0, .slice none 0 0, .bool false] 35 rfl).later hb2
       have hW := fin hb2 (up (Below.refl w.heap.size w) _)
       obtain ⟨x0, x1, x2, x3, x4, x5, x6, x7, x8, x9⟩ := RecBox.cells q)
    | (go_at_call 29; refine (checkGang_six _ _).mono ?_; rintro e w3 ⟨rfl, hb3⟩))
  go_ret
  exact ⟨rfl, fin hb3 hW⟩

end Go.Proofs.YtmldpihjndafaabDoor
