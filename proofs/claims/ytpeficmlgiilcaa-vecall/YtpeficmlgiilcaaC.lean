/- The contracts of the small functions of package vec that the statements call. -/
import Derived.Test.YtpeficmlgiilcaaRows
import Derived.WalkKit
import Derived.WalkLawsBesides
import Derived.WalkSpells
import Derived.BigQuiet
import Derived.Deep.RegionWith
namespace Go.Proofs.Ytpeficmlgiilcaa
open Go.RowKit

theorem eq41 (p q : Bool) (w : World) : (Op.equalIn 10000 41 (.agg #[.bool p, .bool q]) (.agg #[.bool false, .bool false])).run Try.prog w = .ok (!p && !q) w := by
  cases p <;> cases q <;> kernel_rfl

theorem eq24 (x y u v : Int) (w : World) : (Op.equalIn 10000 24 (.agg #[.int .i64 x, .int .i64 y]) (.agg #[.int .i64 u, .int .i64 v])).run Try.prog w = .ok (x == u && y == v) w := by
  rw [run_equalIn_struct w 9999 24 _ _ (by kernel_rfl) (by kernel_rfl)]
  have p0 : ∀ (a b : Value) w, (part 3 #[a, b] 0).run Try.prog w = .ok a w := fun _ _ _ => by kernel_rfl
  have p1 : ∀ (a b : Value) w, (part 3 #[a, b] 1).run Try.prog w = .ok b w := fun _ _ _ => by kernel_rfl
  have q : ∀ (a b : Int) w, (Op.equalIn 9999 3 (.int .i64 a) (.int .i64 b)).run Try.prog w = .ok (a == b) w := fun a b w => run_equalIn_int w 9998 3 .i64 .i64 a b Try.underlying3
  by_cases h1 : x = u <;> by_cases h2 : y = v <;> simp [Program.fieldsOf, Try.underlying24, Op.eqFields, Sem.run_bind, p0, p1, q, h1, h2, Result.andThen]

theorem right_eq (x y : Int) : (x == max x 0 && y == max y 0) = decide (0 ≤ x ∧ 0 ≤ y) := by
  rw [Bool.eq_iff_iff]; simp; omega

theorem fits_eq (x y u v : Int) : (!decide (u < x) && !decide (v < y)) = decide (x ≤ u ∧ y ≤ v) := by
  rw [Bool.eq_iff_iff]; simp

theorem c22 (x y : Int) (w : World) :
    Calls Try.prog 22 #[.agg #[.int .i64 x, .int .i64 y]] w fun e w' => e = .returned (.agg #[.int .i64 (max x 0), .int .i64 (max y 0)]) ∧
      w' = (w.alloc (.cells #[.int .i64 x, .int .i64 y] 24)).alloc (.cells #[.int .i64 (max x 0), .int .i64 (max y 0)] 24) := by
  have hx : max x 0 = if x < 0 then 0 else x := by omega
  have hy : max y 0 = if y < 0 then 0 else y := by omega
  rw [hx, hy]
  clear hx hy
  by_cases h1 : x < 0 <;> by_cases h2 : y < 0 <;> simp only [h1, h2, if_true, if_false]
  all_goals
    go_enter Try.func22, Try.ntmps22
    go_wp2
    refine bodyPost_ret (by simp [results, Try.results22, go_sem]) rfl ⟨rfl, rfl⟩

theorem c21 (x y u v : Int) (w : World) :
    Calls Try.prog 21 #[.agg #[.int .i64 x, .int .i64 y], .agg #[.int .i64 u, .int .i64 v]] w fun e w' => e = .returned (.agg #[.bool (decide (u < x)), .bool (decide (v < y))]) ∧
      w' = ((w.alloc (.cells #[.int .i64 x, .int .i64 y] 24)).alloc (.cells #[.int .i64 u, .int .i64 v] 24)).alloc (.cells #[.bool (decide (u < x)), .bool (decide (v < y))] 41) := by
  go_enter Try.func21, Try.ntmps21
  go_wp2
  refine bodyPost_ret (by simp [results, Try.results21, go_sem]) rfl ⟨rfl, rfl⟩

theorem c20 (x y : Int) (w : World) :
    Calls Try.prog 20 #[.agg #[.int .i64 x, .int .i64 y]] w fun e w' => e = .returned (.agg #[.int .i64 (wrap64 (9223372036854775807 - x)), .int .i64 (wrap64 (9223372036854775807 - y))]) ∧
      w' = (w.alloc (.cells #[.int .i64 x, .int .i64 y] 24)).alloc (.cells #[.int .i64 (wrap64 (9223372036854775807 - x)), .int .i64 (wrap64 (9223372036854775807 - y))] 24) := by
  go_enter Try.func20, Try.ntmps20
  go_wp2
  refine bodyPost_ret (by simp [results, Try.results20, go_sem]) rfl ⟨rfl, rfl⟩

/-- The block of one pair of numbers. -/
abbrev V (x y : Int) : Obj := .cells #[.int .i64 x, .int .i64 y] 24

theorem c17 (b : Bool) (x y : Int) (h : decide (0 ≤ x ∧ 0 ≤ y) = b) (w : World) :
    Calls Try.prog 17 #[.agg #[.int .i64 x, .int .i64 y]] w fun e w' => e = .returned (.bool b) ∧ w' = (((w.alloc (V x y)).alloc (V x y)).alloc (V (max x 0) (max y 0))).drew := by
  have he := eq24
  have h' : (x == max x 0 && y == max y 0) = b := by rw [right_eq, h]
  clear h
  go_enter Try.func17, Try.ntmps17
  go_wp2
  go_region_with (go_at_call 22; refine (c22 _ _ _).mono ?_; rintro e w1 ⟨rfl, rfl⟩)
  all_goals
    go_wp2
    go_ret
    exact ⟨rfl, rfl⟩

theorem c15 (b : Bool) (x y u v : Int) (h : decide (x ≤ u ∧ y ≤ v) = b) (w : World) :
    Calls Try.prog 15 #[.agg #[.int .i64 x, .int .i64 y], .agg #[.int .i64 u, .int .i64 v]] w fun e w' => e = .returned (.bool b) ∧
      w' = ((((w.alloc (V x y)).alloc (V u v)).alloc (V x y)).alloc (V u v)).alloc (.cells #[.bool (decide (u < x)), .bool (decide (v < y))] 41) := by
  have he := eq41
  have h' : (!decide (u < x) && !decide (v < y)) = b := by rw [fits_eq, h]
  clear h
  go_enter Try.func15, Try.ntmps15
  go_wp2_with (go_at_call 21; refine (c21 _ _ _ _ _).mono ?_; rintro e w1 ⟨rfl, rfl⟩)
  go_ret
  exact ⟨rfl, rfl⟩

end Go.Proofs.Ytpeficmlgiilcaa
