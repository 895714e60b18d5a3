/- The contracts of package vec besides: Fits, Add, Sub. -/
import Derived.Test.YtpgchnppinbpkaaDoorP
import Derived.Test.YtpgchnppinbpkaaDoorBX
namespace Go.Proofs.YtpgchnppinbpkaaDoor
open Go.RowKit

theorem eqBB (p q : Bool) (w : World) : (Op.equalIn 10000 108 (.agg #[.bool p, .bool q]) (.agg #[.bool false, .bool false])).run Tryd.prog w = .ok (!p && !q) w := by
  cases p <;> cases q <;> kernel_rfl

theorem fits_eq (x y u v : Int) : (!decide (u < x) && !decide (v < y)) = decide (x ≤ u ∧ y ≤ v) := by
  rw [Bool.eq_iff_iff]; simp

theorem greater_any (x y u v : Int) (w : World) :
    Calls Tryd.prog 60 #[.agg #[.int .i64 x, .int .i64 y], .agg #[.int .i64 u, .int .i64 v]] w fun e w' => e = .returned (.agg #[.bool (decide (u < x)), .bool (decide (v < y))]) ∧ Below w.heap.size w w' := by
  go_enter Tryd.func60, Tryd.ntmps60
  go_wp2
  refine bodyPost_ret (by simp [results, Tryd.results60, go_sem]) rfl ⟨rfl, ?_⟩
  exact (((Below.refl _ _).alloc (Nat.le_refl _) _).alloc (by simp) _).alloc (by simp; omega) _

theorem above_any (x y : Int) (w : World) :
    Calls Tryd.prog 77 #[.agg #[.int .i64 x, .int .i64 y]] w fun e w' => e = .returned (.agg #[.int .i64 (wrap64 (9223372036854775807 - x)), .int .i64 (wrap64 (9223372036854775807 - y))]) ∧ Below w.heap.size w w' := by
  go_enter Tryd.func77, Tryd.ntmps77
  go_wp2
  refine bodyPost_ret (by simp [results, Tryd.results77, go_sem]) rfl ⟨rfl, ?_⟩
  exact ((Below.refl _ _).alloc (Nat.le_refl _) _).alloc (by simp) _

theorem fits_any (b : Bool) (x y u v : Int) (h : decide (x ≤ u ∧ y ≤ v) = b) (w : World) :
    Calls Tryd.prog 35 #[.agg #[.int .i64 x, .int .i64 y], .agg #[.int .i64 u, .int .i64 v]] w fun e w' => e = .returned (.bool b) ∧ Below w.heap.size w w' := by
  have he := eqBB
  have h' : (!decide (u < x) && !decide (v < y)) = b := by rw [fits_eq, h]
  clear h
  go_enter Tryd.func35, Tryd.ntmps35
  go_wp2_with (go_at_call 60; refine (greater_any _ _ _ _ _).mono ?_; rintro e w1 ⟨rfl, hb1⟩)
  go_ret
  have c3 : Below w.heap.size w ((w.alloc (V x y)).alloc (V u v)) := ((Below.refl _ _).alloc (Nat.le_refl _) _).alloc (by simp) _
  exact ⟨rfl, c3.trans (hb1.mono c3.size)⟩

end Go.Proofs.YtpgchnppinbpkaaDoor
