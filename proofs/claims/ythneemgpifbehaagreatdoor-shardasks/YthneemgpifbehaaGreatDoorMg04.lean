/- The contracts of package vec besides: Fits, Add, Sub. -/
import Derived.Test.YthneemgpifbehaaGreatDoorMg03
import Derived.Test.YthneemgpifbehaaGreatDoorMg02
namespace Go.Proofs.YthneemgpifbehaaGreatDoor
open Go.RowKit

theorem eqBB (p q : Bool) (w : World) : (Op.equalIn 10000 218 (.agg #[.bool p, .bool q]) (.agg #[.bool false, .bool false])).run Tryz.prog w = .ok (!p && !q) w := by
  cases p <;> cases q <;> kernel_rfl

theorem fits_eq (x y u v : Int) : (!decide (u < x) && !decide (v < y)) = decide (x ≤ u ∧ y ≤ v) := by
  rw [Bool.eq_iff_iff]; simp

theorem greater_any (x y u v : Int) (w : World) :
    Calls Tryz.prog 167 #[.agg #[.int .i64 x, .int .i64 y], .agg #[.int .i64 u, .int .i64 v]] w fun e w' => e = .returned (.agg #[.bool (decide (u < x)), .bool (decide (v < y))]) ∧ Below w.heap.size w w' := by
  go_enter Tryz.func167, Tryz.ntmps167
  go_wp2
  refine bodyPost_ret (by simp [results, Tryz.results167, go_sem]) rfl ⟨rfl, ?_⟩
  exact (((Below.refl _ _).alloc (Nat.le_refl _) _).alloc (by simp) _).alloc (by simp; omega) _

theorem above_any (x y : Int) (w : World) :
    Calls Tryz.prog 242 #[.agg #[.int .i64 x, .int .i64 y]] w fun e w' => e = .returned (.agg #[.int .i64 (wrap64 (9223372036854775807 - x)), .int .i64 (wrap64 (9223372036854775807 - y))]) ∧ Below w.heap.size w w' := by
  go_enter Tryz.func242, Tryz.ntmps242
  go_wp2
  refine bodyPost_ret (by simp [results, Tryz.results242, go_sem]) rfl ⟨rfl, ?_⟩
  exact ((Below.refl _ _).alloc (Nat.le_refl _) _).alloc (by simp) _

theorem fits_any (b : Bool) (x y u v : Int) (h : decide (x ≤ u ∧ y ≤ v) = b) (w : World) :
    Calls Tryz.prog 117 #[.agg #[.int .i64 x, .int .i64 y], .agg #[.int .i64 u, .int .i64 v]] w fun e w' => e = .returned (.bool b) ∧ Below w.heap.size w w' := by
  have he := eqBB
  have h' : (!decide (u < x) && !decide (v < y)) = b := by rw [fits_eq, h]
  clear h
  go_enter Tryz.func117, Tryz.ntmps117
  go_wp2_with (go_at_call 167; refine (greater_any _ _ _ _ _).mono ?_; rintro e w1 ⟨rfl, hb1⟩)
  go_ret
  have c3 : Below w.heap.size w ((w.alloc (V x y)).alloc (V u v)) := ((Below.refl _ _).alloc (Nat.le_refl _) _).alloc (by simp) _
  exact ⟨rfl, c3.trans (hb1.mono c3.size)⟩

end Go.Proofs.YthneemgpifbehaaGreatDoor
