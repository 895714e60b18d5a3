/- The contract of room of package fit. -/
import Derived.Test.YtpgchnppinbpkaaDoorVE
import Derived.Test.YtpgchnppinbpkaaDoorNO
namespace Go.Proofs.YtpgchnppinbpkaaDoor
open Go.RowKit

theorem cell_lit (w : World) (cs : Array Value) (t : TypeId) (R j : Nat) (v : Value) (hR : w.heap.size = R) (h : cs[j]? = some v) : (w.alloc (.cells cs t)).cell? ⟨R, j, none⟩ = some v := by
  subst hR
  simp [h]

/-- Is there room: the sum is one, and fits. -/
def roomB (x y u v c m : Int) : Bool := decide (x + u ≤ 9223372036854775807 ∧ y + v ≤ 9223372036854775807 ∧ x + u ≤ c ∧ y + v ≤ m)

/-- 'room' asks for the sum of what is used (u, v) and what is needed (x, y), of right ones. -/
theorem room_any (b : Bool) (x y u v c m : Int) (hx : 0 ≤ x ∧ 0 ≤ y ∧ 0 ≤ u ∧ 0 ≤ v) (hm : u ≤ 9223372036854775807 ∧ v ≤ 9223372036854775807) (h : roomB u v x y c m = b) (w : World) :
    Calls Tryd.prog 79 #[.agg #[.int .i64 x, .int .i64 y], .agg #[.int .i64 u, .int .i64 v], .agg #[.int .i64 c, .int .i64 m]] w fun e w' => e = .returned (.bool b) ∧ Below w.heap.size w w' := by
  have e1 : wrap64 (9223372036854775807 - u) = 9223372036854775807 - u := by unfold wrap64; omega
  have e2 : wrap64 (9223372036854775807 - v) = 9223372036854775807 - v := by unfold wrap64; omega
  have a1 : decide (0 ≤ u ∧ 0 ≤ v) = true := by simp; omega
  have a2 : decide (0 ≤ x ∧ 0 ≤ y) = true := by simp; omega
  unfold roomB at h
  by_cases hf : u + x ≤ 9223372036854775807 ∧ v + y ≤ 9223372036854775807
  · have a3 : decide (x ≤ wrap64 (9223372036854775807 - u) ∧ y ≤ wrap64 (9223372036854775807 - v)) = true := by rw [e1, e2]; simp; omega
    have k := fun W => add_ok u v x y a1 a2 a3 W
    rw [show wrap64 (u + x) = u + x by unfold wrap64; omega, show wrap64 (v + y) = v + y by unfold wrap64; omega] at k
    have hq : decide (u + x ≤ c ∧ v + y ≤ m) = b := by rw [← h, decide_eq_decide]; omega
    clear e1 e2 a1 a2 a3 h hx hm hf
    go_enter Tryd.func79, Tryd.ntmps79
    go_wp2_with (first
      | (go_at_call 65
         go_loud (
           refine (k _).mono ?_
           rintro e w1 ⟨rfl, hb1⟩
           have hz : w.heap.size + 1 + 1 < w1.heap.size := by have := hb1.size; simp at this; omega
           have h20 : w1.cell? ⟨w.heap.size + 1 + 1, 0, none⟩ = some (.int .i64 c) := (hb1.cell (p := ⟨w.heap.size + 1 + 1, 0, none⟩) (by simp)).trans (cell_lit _ _ _ _ _ _ (by simp) rfl)
           have h21 : w1.cell? ⟨w.heap.size + 1 + 1, 1, none⟩ = some (.int .i64 m) := (hb1.cell (p := ⟨w.heap.size + 1 + 1, 1, none⟩) (by simp)).trans (cell_lit _ _ _ _ _ _ (by simp) rfl)))
      | (go_at_call 35; refine (fits_x _ _ _ _ _ (by assumption) _).mono ?_; rintro e w2 ⟨rfl, rfl⟩))
    go_ret
    refine ⟨rfl, ?_⟩
    have hb0 : Below w.heap.size w w1 := Below.trans (by repeat (first | with_reducible exact Below.refl _ _ | with_reducible refine Below.alloc ?_ (by simp <;> omega) _)) (hb1.mono (by simp; omega))
    have hs0 := hb0.size
    repeat (first | with_reducible exact hb0 | with_reducible refine up ?_ _)
  · have a3 : decide (x ≤ wrap64 (9223372036854775807 - u) ∧ y ≤ wrap64 (9223372036854775807 - v)) = false := by rw [e1, e2]; simp; omega
    have k := fun W => add_no u v x y a1 a2 a3 W
    have hq : b = false := by rw [← h]; simp; omega
    subst hq
    clear e1 e2 a1 a2 a3 h hx hm hf
    go_enter Tryd.func79, Tryd.ntmps79
    go_wp2_with (first
      | (go_at_call 65; refine (k _).mono ?_; rintro e w1 ⟨rfl, hb1⟩))
    go_ret
    refine ⟨rfl, ?_⟩
    have hb0 : Below w.heap.size w w1 := Below.trans (by repeat (first | with_reducible exact Below.refl _ _ | with_reducible refine Below.alloc ?_ (by simp <;> omega) _)) (hb1.mono (by simp; omega))
    have hs0 := hb0.size
    repeat (first | with_reducible exact hb0 | with_reducible refine up ?_ _)

end Go.Proofs.YtpgchnppinbpkaaDoor
