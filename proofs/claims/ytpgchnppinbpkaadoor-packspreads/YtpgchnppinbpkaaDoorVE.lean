/- The contracts of Add and Sub of package vec. -/
import Derived.Test.YtpgchnppinbpkaaDoorVD
namespace Go.Proofs.YtpgchnppinbpkaaDoor
open Go.RowKit

theorem raised_x (x y : Int) (w : World) :
    Calls Tryd.prog 73 #[.agg #[.int .i64 x, .int .i64 y]] w fun e w' => e = .returned (.agg #[.int .i64 (max x 0), .int .i64 (max y 0)]) ∧
      w' = (w.alloc (V x y)).alloc (V (max x 0) (max y 0)) := by
  have hx : max x 0 = if x < 0 then 0 else x := by omega
  have hy : max y 0 = if y < 0 then 0 else y := by omega
  rw [hx, hy]
  clear hx hy
  by_cases h1 : x < 0 <;> by_cases h2 : y < 0 <;> simp only [h1, h2, if_true, if_false]
  all_goals
    go_enter Tryd.func73, Tryd.ntmps73
    go_wp2
    refine bodyPost_ret (by simp [results, Tryd.results73, go_sem]) rfl ⟨rfl, rfl⟩

theorem greater_x (x y u v : Int) (w : World) :
    Calls Tryd.prog 60 #[.agg #[.int .i64 x, .int .i64 y], .agg #[.int .i64 u, .int .i64 v]] w fun e w' => e = .returned (.agg #[.bool (decide (u < x)), .bool (decide (v < y))]) ∧
      w' = ((w.alloc (V x y)).alloc (V u v)).alloc (.cells #[.bool (decide (u < x)), .bool (decide (v < y))] 108) := by
  go_enter Tryd.func60, Tryd.ntmps60
  go_wp2
  refine bodyPost_ret (by simp [results, Tryd.results60, go_sem]) rfl ⟨rfl, rfl⟩

theorem above_x (x y : Int) (w : World) :
    Calls Tryd.prog 77 #[.agg #[.int .i64 x, .int .i64 y]] w fun e w' => e = .returned (.agg #[.int .i64 (wrap64 (9223372036854775807 - x)), .int .i64 (wrap64 (9223372036854775807 - y))]) ∧
      w' = (w.alloc (V x y)).alloc (V (wrap64 (9223372036854775807 - x)) (wrap64 (9223372036854775807 - y))) := by
  go_enter Tryd.func77, Tryd.ntmps77
  go_wp2
  refine bodyPost_ret (by simp [results, Tryd.results77, go_sem]) rfl ⟨rfl, rfl⟩

theorem right_x (b : Bool) (x y : Int) (h : decide (0 ≤ x ∧ 0 ≤ y) = b) (w : World) :
    Calls Tryd.prog 57 #[.agg #[.int .i64 x, .int .i64 y]] w fun e w' => e = .returned (.bool b) ∧ w' = (((w.alloc (V x y)).alloc (V x y)).alloc (V (max x 0) (max y 0))).drew := by
  have he := eqVec
  have h' : (x == max x 0 && y == max y 0) = b := by rw [right_eq, h]
  clear h
  go_enter Tryd.func57, Tryd.ntmps57
  go_wp2
  go_region_with (go_at_call 73; refine (raised_x _ _ _).mono ?_; rintro e w1 ⟨rfl, rfl⟩)
  all_goals
    go_wp2
    go_ret
    exact ⟨rfl, rfl⟩

theorem fits_x (b : Bool) (x y u v : Int) (h : decide (x ≤ u ∧ y ≤ v) = b) (w : World) :
    Calls Tryd.prog 35 #[.agg #[.int .i64 x, .int .i64 y], .agg #[.int .i64 u, .int .i64 v]] w fun e w' => e = .returned (.bool b) ∧
      w' = ((((w.alloc (V x y)).alloc (V u v)).alloc (V x y)).alloc (V u v)).alloc (.cells #[.bool (decide (u < x)), .bool (decide (v < y))] 108) := by
  have he := eqBB
  have h' : (!decide (u < x) && !decide (v < y)) = b := by rw [fits_eq, h]
  clear h
  go_enter Tryd.func35, Tryd.ntmps35
  go_wp2_with (go_at_call 60; refine (greater_x _ _ _ _ _).mono ?_; rintro e w1 ⟨rfl, rfl⟩)
  go_ret
  exact ⟨rfl, rfl⟩

set_option maxHeartbeats 800000 in
theorem add_ok (x y u v : Int) (ha : decide (0 ≤ x ∧ 0 ≤ y) = true) (hb : decide (0 ≤ u ∧ 0 ≤ v) = true)
    (hf : decide (u ≤ wrap64 (9223372036854775807 - x) ∧ v ≤ wrap64 (9223372036854775807 - y)) = true) (w : World) :
    Calls Tryd.prog 65 #[.agg #[.int .i64 x, .int .i64 y], .agg #[.int .i64 u, .int .i64 v]] w fun e w' => e = .returned (.tuple #[.agg #[.int .i64 (wrap64 (x + u)), .int .i64 (wrap64 (y + v))], .int .i64 0]) ∧ Below w.heap.size w w' := by
  go_enter Tryd.func65, Tryd.ntmps65
  go_wp2_with (first
    | (go_at_call 57; refine (right_x true _ _ (by assumption) _).mono ?_; rintro e w1 ⟨rfl, rfl⟩))
  go_region_with (first
    | (go_at_call 77; refine (above_x _ _ _).mono ?_; rintro e w1 ⟨rfl, rfl⟩)
    | (go_at_call 35; refine (fits_x true _ _ _ _ (by assumption) _).mono ?_; rintro e w1 ⟨rfl, rfl⟩))
  all_goals
    go_wp2
    refine bodyPost_ret (by simp [results, Tryd.results65, go_sem]) rfl ⟨rfl, ?_⟩
    repeat (first | with_reducible exact Below.refl _ _ | with_reducible apply Below.drew | with_reducible refine Below.alloc ?_ (by simp <;> omega) _)

set_option maxHeartbeats 800000 in
theorem sub_ok (x y u v : Int) (ha : decide (0 ≤ x ∧ 0 ≤ y) = true) (hb : decide (0 ≤ u ∧ 0 ≤ v) = true)
    (hf : decide (u ≤ x ∧ v ≤ y) = true) (w : World) :
    Calls Tryd.prog 33 #[.agg #[.int .i64 x, .int .i64 y], .agg #[.int .i64 u, .int .i64 v]] w fun e w' => e = .returned (.tuple #[.agg #[.int .i64 (wrap64 (x - u)), .int .i64 (wrap64 (y - v))], .int .i64 0]) ∧ Below w.heap.size w w' := by
  go_enter Tryd.func33, Tryd.ntmps33
  go_wp2_with (first
    | (go_at_call 57; refine (right_x true _ _ (by assumption) _).mono ?_; rintro e w1 ⟨rfl, rfl⟩)
    | (go_at_call 35; refine (fits_x true _ _ _ _ (by assumption) _).mono ?_; rintro e w1 ⟨rfl, rfl⟩))
  all_goals
    refine bodyPost_ret (by simp [results, Tryd.results33, go_sem]) rfl ⟨rfl, ?_⟩
    repeat (first | with_reducible exact Below.refl _ _ | with_reducible apply Below.drew | with_reducible refine Below.alloc ?_ (by simp <;> omega) _)

set_option maxHeartbeats 800000 in
theorem add_no (x y u v : Int) (ha : decide (0 ≤ x ∧ 0 ≤ y) = true) (hb : decide (0 ≤ u ∧ 0 ≤ v) = true)
    (hf : decide (u ≤ wrap64 (9223372036854775807 - x) ∧ v ≤ wrap64 (9223372036854775807 - y)) = false) (w : World) :
    Calls Tryd.prog 65 #[.agg #[.int .i64 x, .int .i64 y], .agg #[.int .i64 u, .int .i64 v]] w fun e w' => e = .returned (.tuple #[.agg #[.int .i64 0, .int .i64 0], .int .i64 6]) ∧ Below w.heap.size w w' := by
  go_enter Tryd.func65, Tryd.ntmps65
  go_wp2_with (first
    | (go_at_call 57; refine (right_x true _ _ (by assumption) _).mono ?_; rintro e w1 ⟨rfl, rfl⟩))
  go_region_with (first
    | (go_at_call 77; refine (above_x _ _ _).mono ?_; rintro e w1 ⟨rfl, rfl⟩)
    | (go_at_call 35; refine (fits_x false _ _ _ _ (by assumption) _).mono ?_; rintro e w1 ⟨rfl, rfl⟩))
  all_goals
    go_wp2
    refine bodyPost_ret (by simp [results, Tryd.results65, go_sem]) rfl ⟨rfl, ?_⟩
    repeat (first | with_reducible exact Below.refl _ _ | with_reducible apply Below.drew | with_reducible refine Below.alloc ?_ (by simp <;> omega) _)

/-- What Add answers of two that are right. -/
def addV (x y u v : Int) : Value := if x + u ≤ 9223372036854775807 ∧ y + v ≤ 9223372036854775807 then .tuple #[.agg #[.int .i64 (x + u), .int .i64 (y + v)], .int .i64 0] else .tuple #[.agg #[.int .i64 0, .int .i64 0], .int .i64 6]

theorem add_any (x y u v : Int) (ha : 0 ≤ x ∧ 0 ≤ y) (hb : 0 ≤ u ∧ 0 ≤ v) (hx : x ≤ 9223372036854775807 ∧ y ≤ 9223372036854775807) (w : World) :
    Calls Tryd.prog 65 #[.agg #[.int .i64 x, .int .i64 y], .agg #[.int .i64 u, .int .i64 v]] w fun e w' => e = .returned (addV x y u v) ∧ Below w.heap.size w w' := by
  have e1 : wrap64 (9223372036854775807 - x) = 9223372036854775807 - x := by unfold wrap64; omega
  have e2 : wrap64 (9223372036854775807 - y) = 9223372036854775807 - y := by unfold wrap64; omega
  unfold addV
  by_cases h : x + u ≤ 9223372036854775807 ∧ y + v ≤ 9223372036854775807
  · rw [if_pos h]
    have e3 : wrap64 (x + u) = x + u := by unfold wrap64; omega
    have e4 : wrap64 (y + v) = y + v := by unfold wrap64; omega
    have := add_ok x y u v (by simpa using ha) (by simpa using hb) (by rw [e1, e2]; simp; omega) w
    rwa [e3, e4] at this
  · rw [if_neg h]
    exact add_no x y u v (by simpa using ha) (by simpa using hb) (by rw [e1, e2]; simp; omega) w

theorem sub_any (x y u v : Int) (ha : 0 ≤ x ∧ 0 ≤ y) (hb : 0 ≤ u ∧ 0 ≤ v) (hx : x ≤ 9223372036854775807 ∧ y ≤ 9223372036854775807) (hf : u ≤ x ∧ v ≤ y) (w : World) :
    Calls Tryd.prog 33 #[.agg #[.int .i64 x, .int .i64 y], .agg #[.int .i64 u, .int .i64 v]] w fun e w' => e = .returned (.tuple #[.agg #[.int .i64 (x - u), .int .i64 (y - v)], .int .i64 0]) ∧ Below w.heap.size w w' := by
  have e3 : wrap64 (x - u) = x - u := by unfold wrap64; omega
  have e4 : wrap64 (y - v) = y - v := by unfold wrap64; omega
  have := sub_ok x y u v (by simpa using ha) (by simpa using hb) (by simpa using hf) w
  rwa [e3, e4] at this

end Go.Proofs.YtpgchnppinbpkaaDoor
