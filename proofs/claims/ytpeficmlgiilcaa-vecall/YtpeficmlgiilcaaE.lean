/- The contracts of Add and Sub of package vec in one form each, and those of the statements' own helpers. -/
import Derived.Test.YtpeficmlgiilcaaD
import Derived.OpenShut
namespace Go.Proofs.Ytpeficmlgiilcaa
open Go.RowKit

/-- What Add answers: the two parts and the error's number. -/
def addS (x y u v : Int) : Int × Int × Int :=
  if 0 ≤ x ∧ 0 ≤ y ∧ 0 ≤ u ∧ 0 ≤ v then (if x + u ≤ 9223372036854775807 ∧ y + v ≤ 9223372036854775807 then (x + u, y + v, 0) else (0, 0, 6)) else (0, 0, 2)

/-- What Sub answers: the two parts and the error's number. -/
def subS (x y u v : Int) : Int × Int × Int :=
  if 0 ≤ x ∧ 0 ≤ y ∧ 0 ≤ u ∧ 0 ≤ v then (if u ≤ x ∧ v ≤ y then (x - u, y - v, 0) else (0, 0, 6)) else (0, 0, 2)

theorem c11 (x y u v r s e : Int) (hx : x ≤ 9223372036854775807) (hy : y ≤ 9223372036854775807) (h : addS x y u v = (r, s, e)) (w : World) :
    Calls Try.prog 11 #[.agg #[.int .i64 x, .int .i64 y], .agg #[.int .i64 u, .int .i64 v]] w fun en w' => en = .returned (.tuple #[.agg #[.int .i64 r, .int .i64 s], .int .i64 e]) ∧ Below w.heap.size w w' := by
  unfold addS at h
  by_cases ha : 0 ≤ x ∧ 0 ≤ y
  · by_cases hb : 0 ≤ u ∧ 0 ≤ v
    · rw [if_pos (by omega)] at h
      have e1 : wrap64 (9223372036854775807 - x) = 9223372036854775807 - x := by unfold wrap64; omega
      have e2 : wrap64 (9223372036854775807 - y) = 9223372036854775807 - y := by unfold wrap64; omega
      by_cases hf : x + u ≤ 9223372036854775807 ∧ y + v ≤ 9223372036854775807
      · rw [if_pos hf] at h
        simp only [Prod.mk.injEq] at h
        obtain ⟨rfl, rfl, rfl⟩ := h
        have k := c11_ok x y u v (by simp; omega) (by simp; omega) (by rw [e1, e2]; simp; omega) w
        rw [show wrap64 (x + u) = x + u by unfold wrap64; omega, show wrap64 (y + v) = y + v by unfold wrap64; omega] at k
        exact k
      · rw [if_neg hf] at h
        simp only [Prod.mk.injEq] at h
        obtain ⟨rfl, rfl, rfl⟩ := h
        exact c11_room x y u v (by simp; omega) (by simp; omega) (by rw [e1, e2]; simp; omega) w
    · rw [if_neg (by omega)] at h
      simp only [Prod.mk.injEq] at h
      obtain ⟨rfl, rfl, rfl⟩ := h
      exact c11_arg2 x y u v (by simp; omega) (by simp; omega) w
  · rw [if_neg (by omega)] at h
    simp only [Prod.mk.injEq] at h
    obtain ⟨rfl, rfl, rfl⟩ := h
    exact c11_arg1 x y u v (by simp; omega) w

theorem c13 (x y u v r s e : Int) (hx : x ≤ 9223372036854775807) (hy : y ≤ 9223372036854775807) (h : subS x y u v = (r, s, e)) (w : World) :
    Calls Try.prog 13 #[.agg #[.int .i64 x, .int .i64 y], .agg #[.int .i64 u, .int .i64 v]] w fun en w' => en = .returned (.tuple #[.agg #[.int .i64 r, .int .i64 s], .int .i64 e]) ∧ Below w.heap.size w w' := by
  unfold subS at h
  by_cases ha : 0 ≤ x ∧ 0 ≤ y
  · by_cases hb : 0 ≤ u ∧ 0 ≤ v
    · rw [if_pos (by omega)] at h
      by_cases hf : u ≤ x ∧ v ≤ y
      · rw [if_pos hf] at h
        simp only [Prod.mk.injEq] at h
        obtain ⟨rfl, rfl, rfl⟩ := h
        have k := c13_ok x y u v (by simp; omega) (by simp; omega) (by simp; omega) w
        rw [show wrap64 (x - u) = x - u by unfold wrap64; omega, show wrap64 (y - v) = y - v by unfold wrap64; omega] at k
        exact k
      · rw [if_neg hf] at h
        simp only [Prod.mk.injEq] at h
        obtain ⟨rfl, rfl, rfl⟩ := h
        exact c13_room x y u v (by simp; omega) (by simp; omega) (by simp; omega) w
    · rw [if_neg (by omega)] at h
      simp only [Prod.mk.injEq] at h
      obtain ⟨rfl, rfl, rfl⟩ := h
      exact c13_arg2 x y u v (by simp; omega) (by simp; omega) w
  · rw [if_neg (by omega)] at h
    simp only [Prod.mk.injEq] at h
    obtain ⟨rfl, rfl, rfl⟩ := h
    exact c13_arg1 x y u v (by simp; omega) w

/-- 'within': the rest by n, from 0 on. -/
theorem c19 (x n k : Int) (hn : 0 < n) (hm : n ≤ 9223372036854775807) (hk : x % n = k) (w : World) :
    Calls Try.prog 19 #[.int .i64 x, .int .i64 n] w fun e w' => e = .returned (.int .i64 k) ∧ w' = w := by
  have hn0 : ¬ n = 0 := by omega
  by_cases h : x.tmod n < 0
  · have hb : -n < x.tmod n := Int.lt_tmod_of_pos x hn
    have hw : wrap64 (x.tmod n + n) = k := by
      have e1 : x % n = x.tmod n + n := by
        have h1 := Int.emod_add_mul_ediv x n
        have h2 := Int.tmod_add_mul_tdiv x n
        have h3 : 0 ≤ x % n := Int.emod_nonneg x (by omega)
        have h4 : x % n < n := Int.emod_lt_of_pos x hn
        have h5 : (x.tmod n + n) % n = x % n := by
          rw [show x % n = (x.tmod n + n * x.tdiv n) % n by rw [h2], Int.add_emod_right, Int.add_mul_emod_self_left]
        rw [← h5]
        exact Int.emod_eq_of_lt (by omega) (by omega)
      unfold wrap64
      omega
    clear hk hm hn
    go_enter Try.func19, Try.ntmps19
    go_wp2
    go_ret
    exact ⟨by rw [← hw]; rfl, rfl⟩
  · have e1 : x.tmod n = k := by
      have h2 := Int.tmod_add_mul_tdiv x n
      have h4 : x.tmod n < n := Int.tmod_lt_of_pos x hn
      have h5 : (x.tmod n) % n = x % n := by
        rw [show x % n = (x.tmod n + n * x.tdiv n) % n by rw [h2], Int.add_mul_emod_self_left]
      rw [← hk, ← h5]
      exact (Int.emod_eq_of_lt (by omega) h4).symm
    have h' : 0 ≤ x.tmod n := by omega
    clear hk hm hn h
    rw [e1] at h'
    go_enter Try.func19, Try.ntmps19
    go_wp2
    go_ret
    exact ⟨rfl, rfl⟩

/-- 'known' answers true. -/
theorem c9 (w : World) : Calls Try.prog 9 #[] w fun e w' => e = .returned (.bool true) ∧ Below w.heap.size w w' := by
  have he := eq24
  go_enter Try.func9, Try.ntmps9
  go_wp2_with (first
    | (go_at_call 13; refine (c13 3 4 3 4 0 0 0 (by decide) (by decide) (by decide) _).mono ?_; rintro e w1 ⟨rfl, hb1⟩)
    | (go_at_call 17; refine (c17 true 0 0 (by decide) _).mono ?_; rintro e w1 ⟨rfl, rfl⟩)
    | (go_at_call 17; refine (c17 false (-1) 0 (by decide) _).mono ?_; rintro e w1 ⟨rfl, rfl⟩)
    | (go_at_call 15; refine (c15 true 0 0 0 0 (by decide) _).mono ?_; rintro e w1 ⟨rfl, rfl⟩))
  go_ret
  refine ⟨rfl, ?_⟩
  repeat (first | assumption | with_reducible exact Below.refl _ _ | with_reducible apply Below.drew | with_reducible refine Below.alloc ?_ (by have := hb1.size; simp <;> omega) _)

end Go.Proofs.Ytpeficmlgiilcaa
