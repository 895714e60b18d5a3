/- The contracts of the second text of package vec's functions (the references). -/
import Derived.Test.YtpeficmlgiilcaaE
namespace Go.Proofs.Ytpeficmlgiilcaa
open Go.RowKit

theorem c18 (b : Bool) (x y : Int) (h : decide (0 ≤ x ∧ 0 ≤ y) = b) (w : World) :
    Calls Try.prog 18 #[.agg #[.int .i64 x, .int .i64 y]] w fun e w' => e = .returned (.bool b) ∧ w' = w.alloc (V x y) := by
  by_cases h0 : 0 ≤ x <;> by_cases h1 : 0 ≤ y <;> simp [h0, h1] at h <;> subst h
  all_goals
    go_enter Try.func18, Try.ntmps18
    go_wp2
    go_ret
    exact ⟨rfl, rfl⟩

theorem c16 (b : Bool) (x y u v : Int) (h : decide (x ≤ u ∧ y ≤ v) = b) (w : World) :
    Calls Try.prog 16 #[.agg #[.int .i64 x, .int .i64 y], .agg #[.int .i64 u, .int .i64 v]] w fun e w' => e = .returned (.bool b) ∧ w' = (w.alloc (V x y)).alloc (V u v) := by
  by_cases h0 : x ≤ u <;> by_cases h1 : y ≤ v <;> simp [h0, h1] at h <;> subst h
  all_goals
    go_enter Try.func16, Try.ntmps16
    go_wp2
    go_ret
    exact ⟨rfl, rfl⟩

theorem c12_arg1 (x y u v : Int) (ha : decide (0 ≤ x ∧ 0 ≤ y) = false) (w : World) :
    Calls Try.prog 12 #[.agg #[.int .i64 x, .int .i64 y], .agg #[.int .i64 u, .int .i64 v]] w fun e w' => e = .returned (.tuple #[.agg #[.int .i64 0, .int .i64 0], .int .i64 2]) ∧ Below w.heap.size w w' := by
  go_enter Try.func12, Try.ntmps12
  go_wp2_with (first
    | (go_at_call 18; refine (c18 false _ _ (by assumption) _).mono ?_; rintro e w1 ⟨rfl, rfl⟩))
  refine bodyPost_ret (by simp [results, Try.results12, go_sem]) rfl ⟨rfl, ?_⟩
  repeat (first | with_reducible exact Below.refl _ _ | with_reducible apply Below.drew | with_reducible refine Below.alloc ?_ (by simp <;> omega) _)

theorem c12_arg2 (x y u v : Int) (ha : decide (0 ≤ x ∧ 0 ≤ y) = true) (hb : decide (0 ≤ u ∧ 0 ≤ v) = false) (w : World) :
    Calls Try.prog 12 #[.agg #[.int .i64 x, .int .i64 y], .agg #[.int .i64 u, .int .i64 v]] w fun e w' => e = .returned (.tuple #[.agg #[.int .i64 0, .int .i64 0], .int .i64 2]) ∧ Below w.heap.size w w' := by
  go_enter Try.func12, Try.ntmps12
  go_wp2_with (first
    | (go_at_call 18; refine (c18 _ _ _ (by assumption) _).mono ?_; rintro e w1 ⟨rfl, rfl⟩))
  refine bodyPost_ret (by simp [results, Try.results12, go_sem]) rfl ⟨rfl, ?_⟩
  repeat (first | with_reducible exact Below.refl _ _ | with_reducible apply Below.drew | with_reducible refine Below.alloc ?_ (by simp <;> omega) _)

theorem c12_ok (x y u v : Int) (ha : decide (0 ≤ x ∧ 0 ≤ y) = true) (hb : decide (0 ≤ u ∧ 0 ≤ v) = true)
    (hf : ¬ wrap64 (9223372036854775807 - u) < x) (hg : ¬ wrap64 (9223372036854775807 - v) < y) (w : World) :
    Calls Try.prog 12 #[.agg #[.int .i64 x, .int .i64 y], .agg #[.int .i64 u, .int .i64 v]] w fun e w' => e = .returned (.tuple #[.agg #[.int .i64 (wrap64 (x + u)), .int .i64 (wrap64 (y + v))], .int .i64 0]) ∧ Below w.heap.size w w' := by
  go_enter Try.func12, Try.ntmps12
  go_wp2_with (first
    | (go_at_call 18; refine (c18 true _ _ (by assumption) _).mono ?_; rintro e w1 ⟨rfl, rfl⟩))
  refine bodyPost_ret (by simp [results, Try.results12, go_sem]) rfl ⟨rfl, ?_⟩
  repeat (first | with_reducible exact Below.refl _ _ | with_reducible apply Below.drew | with_reducible refine Below.alloc ?_ (by simp <;> omega) _)

theorem c12_room1 (x y u v : Int) (ha : decide (0 ≤ x ∧ 0 ≤ y) = true) (hb : decide (0 ≤ u ∧ 0 ≤ v) = true)
    (hf : wrap64 (9223372036854775807 - u) < x) (w : World) :
    Calls Try.prog 12 #[.agg #[.int .i64 x, .int .i64 y], .agg #[.int .i64 u, .int .i64 v]] w fun e w' => e = .returned (.tuple #[.agg #[.int .i64 0, .int .i64 0], .int .i64 6]) ∧ Below w.heap.size w w' := by
  go_enter Try.func12, Try.ntmps12
  go_wp2_with (first
    | (go_at_call 18; refine (c18 true _ _ (by assumption) _).mono ?_; rintro e w1 ⟨rfl, rfl⟩))
  refine bodyPost_ret (by simp [results, Try.results12, go_sem]) rfl ⟨rfl, ?_⟩
  repeat (first | with_reducible exact Below.refl _ _ | with_reducible apply Below.drew | with_reducible refine Below.alloc ?_ (by simp <;> omega) _)

theorem c12_room2 (x y u v : Int) (ha : decide (0 ≤ x ∧ 0 ≤ y) = true) (hb : decide (0 ≤ u ∧ 0 ≤ v) = true)
    (hf : ¬ wrap64 (9223372036854775807 - u) < x) (hg : wrap64 (9223372036854775807 - v) < y) (w : World) :
    Calls Try.prog 12 #[.agg #[.int .i64 x, .int .i64 y], .agg #[.int .i64 u, .int .i64 v]] w fun e w' => e = .returned (.tuple #[.agg #[.int .i64 0, .int .i64 0], .int .i64 6]) ∧ Below w.heap.size w w' := by
  go_enter Try.func12, Try.ntmps12
  go_wp2_with (first
    | (go_at_call 18; refine (c18 true _ _ (by assumption) _).mono ?_; rintro e w1 ⟨rfl, rfl⟩))
  refine bodyPost_ret (by simp [results, Try.results12, go_sem]) rfl ⟨rfl, ?_⟩
  repeat (first | with_reducible exact Below.refl _ _ | with_reducible apply Below.drew | with_reducible refine Below.alloc ?_ (by simp <;> omega) _)

theorem c14_arg1 (x y u v : Int) (ha : decide (0 ≤ x ∧ 0 ≤ y) = false) (w : World) :
    Calls Try.prog 14 #[.agg #[.int .i64 x, .int .i64 y], .agg #[.int .i64 u, .int .i64 v]] w fun e w' => e = .returned (.tuple #[.agg #[.int .i64 0, .int .i64 0], .int .i64 2]) ∧ Below w.heap.size w w' := by
  go_enter Try.func14, Try.ntmps14
  go_wp2_with (first
    | (go_at_call 18; refine (c18 false _ _ (by assumption) _).mono ?_; rintro e w1 ⟨rfl, rfl⟩))
  refine bodyPost_ret (by simp [results, Try.results14, go_sem]) rfl ⟨rfl, ?_⟩
  repeat (first | with_reducible exact Below.refl _ _ | with_reducible apply Below.drew | with_reducible refine Below.alloc ?_ (by simp <;> omega) _)

theorem c14_arg2 (x y u v : Int) (ha : decide (0 ≤ x ∧ 0 ≤ y) = true) (hb : decide (0 ≤ u ∧ 0 ≤ v) = false) (w : World) :
    Calls Try.prog 14 #[.agg #[.int .i64 x, .int .i64 y], .agg #[.int .i64 u, .int .i64 v]] w fun e w' => e = .returned (.tuple #[.agg #[.int .i64 0, .int .i64 0], .int .i64 2]) ∧ Below w.heap.size w w' := by
  go_enter Try.func14, Try.ntmps14
  go_wp2_with (first
    | (go_at_call 18; refine (c18 _ _ _ (by assumption) _).mono ?_; rintro e w1 ⟨rfl, rfl⟩))
  refine bodyPost_ret (by simp [results, Try.results14, go_sem]) rfl ⟨rfl, ?_⟩
  repeat (first | with_reducible exact Below.refl _ _ | with_reducible apply Below.drew | with_reducible refine Below.alloc ?_ (by simp <;> omega) _)

theorem c14_ok (x y u v : Int) (ha : decide (0 ≤ x ∧ 0 ≤ y) = true) (hb : decide (0 ≤ u ∧ 0 ≤ v) = true) (hf : decide (u ≤ x ∧ v ≤ y) = true) (w : World) :
    Calls Try.prog 14 #[.agg #[.int .i64 x, .int .i64 y], .agg #[.int .i64 u, .int .i64 v]] w fun e w' => e = .returned (.tuple #[.agg #[.int .i64 (wrap64 (x - u)), .int .i64 (wrap64 (y - v))], .int .i64 0]) ∧ Below w.heap.size w w' := by
  go_enter Try.func14, Try.ntmps14
  go_wp2_with (first
    | (go_at_call 18; refine (c18 true _ _ (by assumption) _).mono ?_; rintro e w1 ⟨rfl, rfl⟩)
    | (go_at_call 16; refine (c16 true _ _ _ _ (by assumption) _).mono ?_; rintro e w1 ⟨rfl, rfl⟩))
  refine bodyPost_ret (by simp [results, Try.results14, go_sem]) rfl ⟨rfl, ?_⟩
  repeat (first | with_reducible exact Below.refl _ _ | with_reducible apply Below.drew | with_reducible refine Below.alloc ?_ (by simp <;> omega) _)

theorem c14_room (x y u v : Int) (ha : decide (0 ≤ x ∧ 0 ≤ y) = true) (hb : decide (0 ≤ u ∧ 0 ≤ v) = true) (hf : decide (u ≤ x ∧ v ≤ y) = false) (w : World) :
    Calls Try.prog 14 #[.agg #[.int .i64 x, .int .i64 y], .agg #[.int .i64 u, .int .i64 v]] w fun e w' => e = .returned (.tuple #[.agg #[.int .i64 0, .int .i64 0], .int .i64 6]) ∧ Below w.heap.size w w' := by
  go_enter Try.func14, Try.ntmps14
  go_wp2_with (first
    | (go_at_call 18; refine (c18 true _ _ (by assumption) _).mono ?_; rintro e w1 ⟨rfl, rfl⟩)
    | (go_at_call 16; refine (c16 false _ _ _ _ (by assumption) _).mono ?_; rintro e w1 ⟨rfl, rfl⟩))
  refine bodyPost_ret (by simp [results, Try.results14, go_sem]) rfl ⟨rfl, ?_⟩
  repeat (first | with_reducible exact Below.refl _ _ | with_reducible apply Below.drew | with_reducible refine Below.alloc ?_ (by simp <;> omega) _)

theorem c12 (x y u v r s e : Int) (hu : u ≤ 9223372036854775807) (hv : v ≤ 9223372036854775807) (h : addS x y u v = (r, s, e)) (w : World) :
    Calls Try.prog 12 #[.agg #[.int .i64 x, .int .i64 y], .agg #[.int .i64 u, .int .i64 v]] w fun en w' => en = .returned (.tuple #[.agg #[.int .i64 r, .int .i64 s], .int .i64 e]) ∧ Below w.heap.size w w' := by
  unfold addS at h
  by_cases ha : 0 ≤ x ∧ 0 ≤ y
  · by_cases hb : 0 ≤ u ∧ 0 ≤ v
    · rw [if_pos (by omega)] at h
      have e1 : wrap64 (9223372036854775807 - u) = 9223372036854775807 - u := by unfold wrap64; omega
      have e2 : wrap64 (9223372036854775807 - v) = 9223372036854775807 - v := by unfold wrap64; omega
      by_cases hf : x + u ≤ 9223372036854775807 ∧ y + v ≤ 9223372036854775807
      · rw [if_pos hf] at h
        simp only [Prod.mk.injEq] at h
        obtain ⟨rfl, rfl, rfl⟩ := h
        have k := c12_ok x y u v (by simp; omega) (by simp; omega) (by rw [e1]; omega) (by rw [e2]; omega) w
        rw [show wrap64 (x + u) = x + u by unfold wrap64; omega, show wrap64 (y + v) = y + v by unfold wrap64; omega] at k
        exact k
      · rw [if_neg hf] at h
        simp only [Prod.mk.injEq] at h
        obtain ⟨rfl, rfl, rfl⟩ := h
        by_cases hg : 9223372036854775807 - u < x
        · exact c12_room1 x y u v (by simp; omega) (by simp; omega) (by rw [e1]; omega) w
        · exact c12_room2 x y u v (by simp; omega) (by simp; omega) (by rw [e1]; omega) (by rw [e2]; omega) w
    · rw [if_neg (by omega)] at h
      simp only [Prod.mk.injEq] at h
      obtain ⟨rfl, rfl, rfl⟩ := h
      exact c12_arg2 x y u v (by simp; omega) (by simp; omega) w
  · rw [if_neg (by omega)] at h
    simp only [Prod.mk.injEq] at h
    obtain ⟨rfl, rfl, rfl⟩ := h
    exact c12_arg1 x y u v (by simp; omega) w

theorem c14 (x y u v r s e : Int) (hx : x ≤ 9223372036854775807) (hy : y ≤ 9223372036854775807) (h : subS x y u v = (r, s, e)) (w : World) :
    Calls Try.prog 14 #[.agg #[.int .i64 x, .int .i64 y], .agg #[.int .i64 u, .int .i64 v]] w fun en w' => en = .returned (.tuple #[.agg #[.int .i64 r, .int .i64 s], .int .i64 e]) ∧ Below w.heap.size w w' := by
  unfold subS at h
  by_cases ha : 0 ≤ x ∧ 0 ≤ y
  · by_cases hb : 0 ≤ u ∧ 0 ≤ v
    · rw [if_pos (by omega)] at h
      by_cases hf : u ≤ x ∧ v ≤ y
      · rw [if_pos hf] at h
        simp only [Prod.mk.injEq] at h
        obtain ⟨rfl, rfl, rfl⟩ := h
        have k := c14_ok x y u v (by simp; omega) (by simp; omega) (by simp; omega) w
        rw [show wrap64 (x - u) = x - u by unfold wrap64; omega, show wrap64 (y - v) = y - v by unfold wrap64; omega] at k
        exact k
      · rw [if_neg hf] at h
        simp only [Prod.mk.injEq] at h
        obtain ⟨rfl, rfl, rfl⟩ := h
        exact c14_room x y u v (by simp; omega) (by simp; omega) (by simp; omega) w
    · rw [if_neg (by omega)] at h
      simp only [Prod.mk.injEq] at h
      obtain ⟨rfl, rfl, rfl⟩ := h
      exact c14_arg2 x y u v (by simp; omega) (by simp; omega) w
  · rw [if_neg (by omega)] at h
    simp only [Prod.mk.injEq] at h
    obtain ⟨rfl, rfl, rfl⟩ := h
    exact c14_arg1 x y u v (by simp; omega) w

end Go.Proofs.Ytpeficmlgiilcaa
