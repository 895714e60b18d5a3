/- The contracts of package vec: Right, Fits, Add; and of the chapter's own. -/
import Derived.Test.YtmkbllkfipcghabS
import Derived.Deep.RegionHeld3
namespace Go.Proofs.Ytmkbllkfipcghab
open Go.RowKit

theorem eqBB (p q : Bool) (w : World) : (Op.equalIn 10000 45 (.agg #[.bool p, .bool q]) (.agg #[.bool false, .bool false])).run Try.prog w = .ok (!p && !q) w := by
  cases p <;> cases q <;> kernel_rfl

theorem eqVec (x y u v : Int) (w : World) : (Op.equalIn 10000 24 (.agg #[.int .i64 x, .int .i64 y]) (.agg #[.int .i64 u, .int .i64 v])).run Try.prog w = .ok (x == u && y == v) w := by
  rw [run_equalIn_struct w 9999 24 _ _ (by kernel_rfl) (by kernel_rfl)]
  have p0 : ∀ (a b : Value) w, (part 3 #[a, b] 0).run Try.prog w = .ok a w := fun _ _ _ => by kernel_rfl
  have p1 : ∀ (a b : Value) w, (part 3 #[a, b] 1).run Try.prog w = .ok b w := fun _ _ _ => by kernel_rfl
  have q : ∀ (a b : Int) w, (Op.equalIn 9999 3 (.int .i64 a) (.int .i64 b)).run Try.prog w = .ok (a == b) w := fun a b w => run_equalIn_int w 9998 3 .i64 .i64 a b Try.underlying3
  by_cases h1 : x = u <;> by_cases h2 : y = v <;> simp [Program.fieldsOf, Try.underlying24, Op.eqFields, Sem.run_bind, p0, p1, q, h1, h2, Result.andThen]

theorem right_eq (x y : Int) : (x == max x 0 && y == max y 0) = decide (0 ≤ x ∧ 0 ≤ y) := by
  rw [Bool.eq_iff_iff]; simp; omega

theorem fits_eq (x y u v : Int) : (!decide (u < x) && !decide (v < y)) = decide (x ≤ u ∧ y ≤ v) := by
  rw [Bool.eq_iff_iff]; simp

/-- The block of one pair of numbers. -/
abbrev V (x y : Int) : Obj := .cells #[.int .i64 x, .int .i64 y] 24

theorem raised_any (x y : Int) (w : World) :
    Calls Try.prog 21 #[.agg #[.int .i64 x, .int .i64 y]] w fun e w' => e = .returned (.agg #[.int .i64 (max x 0), .int .i64 (max y 0)]) ∧
      w' = (w.alloc (V x y)).alloc (V (max x 0) (max y 0)) := by
  have hx : max x 0 = if x < 0 then 0 else x := by omega
  have hy : max y 0 = if y < 0 then 0 else y := by omega
  rw [hx, hy]
  clear hx hy
  by_cases h1 : x < 0 <;> by_cases h2 : y < 0 <;> simp only [h1, h2, if_true, if_false]
  all_goals
    go_enter Try.func21, Try.ntmps21
    go_wp2
    refine bodyPost_ret (by simp [results, Try.results21, go_sem]) rfl ⟨rfl, rfl⟩

theorem greater_any (x y u v : Int) (w : World) :
    Calls Try.prog 22 #[.agg #[.int .i64 x, .int .i64 y], .agg #[.int .i64 u, .int .i64 v]] w fun e w' => e = .returned (.agg #[.bool (decide (u < x)), .bool (decide (v < y))]) ∧
      w' = ((w.alloc (V x y)).alloc (V u v)).alloc (.cells #[.bool (decide (u < x)), .bool (decide (v < y))] 45) := by
  go_enter Try.func22, Try.ntmps22
  go_wp2
  refine bodyPost_ret (by simp [results, Try.results22, go_sem]) rfl ⟨rfl, rfl⟩

theorem above_any (x y : Int) (w : World) :
    Calls Try.prog 20 #[.agg #[.int .i64 x, .int .i64 y]] w fun e w' => e = .returned (.agg #[.int .i64 (wrap64 (9223372036854775807 - x)), .int .i64 (wrap64 (9223372036854775807 - y))]) ∧
      w' = (w.alloc (V x y)).alloc (V (wrap64 (9223372036854775807 - x)) (wrap64 (9223372036854775807 - y))) := by
  go_enter Try.func20, Try.ntmps20
  go_wp2
  refine bodyPost_ret (by simp [results, Try.results20, go_sem]) rfl ⟨rfl, rfl⟩

theorem right_any (b : Bool) (x y : Int) (h : decide (0 ≤ x ∧ 0 ≤ y) = b) (w : World) :
    Calls Try.prog 18 #[.agg #[.int .i64 x, .int .i64 y]] w fun e w' => e = .returned (.bool b) ∧ w' = (((w.alloc (V x y)).alloc (V x y)).alloc (V (max x 0) (max y 0))).drew := by
  have he := eqVec
  have h' : (x == max x 0 && y == max y 0) = b := by rw [right_eq, h]
  clear h
  go_enter Try.func18, Try.ntmps18
  go_wp2
  go_region_with (go_at_call 21; refine (raised_any _ _ _).mono ?_; rintro e w1 ⟨rfl, rfl⟩)
  all_goals
    go_wp2
    go_ret
    exact ⟨rfl, rfl⟩

theorem fits_any (b : Bool) (x y u v : Int) (h : decide (x ≤ u ∧ y ≤ v) = b) (w : World) :
    Calls Try.prog 19 #[.agg #[.int .i64 x, .int .i64 y], .agg #[.int .i64 u, .int .i64 v]] w fun e w' => e = .returned (.bool b) ∧
      w' = ((((w.alloc (V x y)).alloc (V u v)).alloc (V x y)).alloc (V u v)).alloc (.cells #[.bool (decide (u < x)), .bool (decide (v < y))] 45) := by
  have he := eqBB
  have h' : (!decide (u < x) && !decide (v < y)) = b := by rw [fits_eq, h]
  clear h
  go_enter Try.func19, Try.ntmps19
  go_wp2_with (go_at_call 22; refine (greater_any _ _ _ _ _).mono ?_; rintro e w1 ⟨rfl, rfl⟩)
  go_ret
  exact ⟨rfl, rfl⟩

set_option maxHeartbeats 800000 in
theorem add_ok (x y u v : Int) (ha : decide (0 ≤ x ∧ 0 ≤ y) = true) (hb : decide (0 ≤ u ∧ 0 ≤ v) = true)
    (hf : decide (u ≤ wrap64 (9223372036854775807 - x) ∧ v ≤ wrap64 (9223372036854775807 - y)) = true) (w : World) :
    Calls Try.prog 16 #[.agg #[.int .i64 x, .int .i64 y], .agg #[.int .i64 u, .int .i64 v]] w fun e w' => e = .returned (.tuple #[.agg #[.int .i64 (wrap64 (x + u)), .int .i64 (wrap64 (y + v))], .int .i64 0]) ∧ Below w.heap.size w w' := by
  go_enter Try.func16, Try.ntmps16
  go_wp2_with (first
    | (go_at_call 18; refine (right_any true _ _ (by assumption) _).mono ?_; rintro e w1 ⟨rfl, rfl⟩))
  go_region_with (first
    | (go_at_call 20; refine (above_any _ _ _).mono ?_; rintro e w1 ⟨rfl, rfl⟩)
    | (go_at_call 19; refine (fits_any true _ _ _ _ (by assumption) _).mono ?_; rintro e w1 ⟨rfl, rfl⟩))
  all_goals
    go_wp2
    refine bodyPost_ret (by simp [results, Try.results16, go_sem]) rfl ⟨rfl, ?_⟩
    repeat (first | with_reducible exact Below.refl _ _ | with_reducible apply Below.drew | with_reducible refine Below.alloc ?_ (by simp <;> omega) _)

set_option maxHeartbeats 800000 in
theorem sub_ok (x y u v : Int) (ha : decide (0 ≤ x ∧ 0 ≤ y) = true) (hb : decide (0 ≤ u ∧ 0 ≤ v) = true)
    (hf : decide (u ≤ x ∧ v ≤ y) = true) (w : World) :
    Calls Try.prog 17 #[.agg #[.int .i64 x, .int .i64 y], .agg #[.int .i64 u, .int .i64 v]] w fun e w' => e = .returned (.tuple #[.agg #[.int .i64 (wrap64 (x - u)), .int .i64 (wrap64 (y - v))], .int .i64 0]) ∧ Below w.heap.size w w' := by
  go_enter Try.func17, Try.ntmps17
  go_wp2_with (first
    | (go_at_call 18; refine (right_any true _ _ (by assumption) _).mono ?_; rintro e w1 ⟨rfl, rfl⟩)
    | (go_at_call 19; refine (fits_any true _ _ _ _ (by assumption) _).mono ?_; rintro e w1 ⟨rfl, rfl⟩))
  all_goals
    refine bodyPost_ret (by simp [results, Try.results17, go_sem]) rfl ⟨rfl, ?_⟩
    repeat (first | with_reducible exact Below.refl _ _ | with_reducible apply Below.drew | with_reducible refine Below.alloc ?_ (by simp <;> omega) _)

end Go.Proofs.Ytmkbllkfipcghab
