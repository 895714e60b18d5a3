/- The walk of ScoreBounds. -/
import Derived.Test.YtmkbllkfipcghaaTH
import Derived.Test.YtmkbllkfipcghaaKN
namespace Go.Proofs.Ytmkbllkfipcghaa
open Go.RowKit

theorem hun_all (l c : Int) (h : 0 < c) (hl : l = c) : hun l c = 100 := by
  subst hl
  unfold hun
  rw [if_neg (by omega), Int.mul_ediv_cancel _ (by omega)]
theorem hun_none (l c : Int) (h : 0 < c) (hl : l = 0) : hun l c = 0 := by
  subst hl
  unfold hun
  rw [if_neg (by omega)]
  simp

set_option maxRecDepth 100000 in
set_option maxHeartbeats 4000000 in
theorem scoreBounds_walk (a b c d e f : Int) (w : World) :
    Calls Try.prog 3 #[.int .i64 a, .int .i64 b, .int .i64 c, .int .i64 d, .int .i64 e, .int .i64 f] w fun e w' => e = .returned (.bool true) ∧ Below w.heap.size w w' := by
  obtain ⟨x, hx⟩ : ∃ x, a % 1000 = x := ⟨_, rfl⟩
  obtain ⟨y, hy⟩ : ∃ x, b % 1000 = x := ⟨_, rfl⟩
  obtain ⟨u, hu⟩ : ∃ u, c % (x + 1) = u := ⟨_, rfl⟩
  obtain ⟨v, hv⟩ : ∃ v, d % (y + 1) = v := ⟨_, rfl⟩
  obtain ⟨p, hp⟩ : ∃ p, e % (x - u + 1) = p := ⟨_, rfl⟩
  obtain ⟨q, hq⟩ : ∃ q, f % (y - v + 1) = q := ⟨_, rfl⟩
  have k3 := fun W => three_any a b c d e f 1000 x y u v p q (by decide) (by decide) hx hy hu hv hp hq W
  have x0 : 0 ≤ x := by rw [← hx]; exact Int.emod_nonneg _ (by omega)
  have x1 : x < 1000 := by rw [← hx]; exact Int.emod_lt_of_pos _ (by omega)
  have y0 : 0 ≤ y := by rw [← hy]; exact Int.emod_nonneg _ (by omega)
  have y1 : y < 1000 := by rw [← hy]; exact Int.emod_lt_of_pos _ (by omega)
  have u0 : 0 ≤ u := by rw [← hu]; exact Int.emod_nonneg _ (by omega)
  have u1 : u < x + 1 := by rw [← hu]; exact Int.emod_lt_of_pos _ (by omega)
  have v0 : 0 ≤ v := by rw [← hv]; exact Int.emod_nonneg _ (by omega)
  have v1 : v < y + 1 := by rw [← hv]; exact Int.emod_lt_of_pos _ (by omega)
  have p0 : 0 ≤ p := by rw [← hp]; exact Int.emod_nonneg _ (by omega)
  have p1 : p < x - u + 1 := by rw [← hp]; exact Int.emod_lt_of_pos _ (by omega)
  have q0 : 0 ≤ q := by rw [← hq]; exact Int.emod_nonneg _ (by omega)
  have q1 : q < y - v + 1 := by rw [← hq]; exact Int.emod_lt_of_pos _ (by omega)
  have hG : Good x y u v p q := by unfold Good; omega
  obtain ⟨z, hz⟩ : ∃ z, leftF x y u v p q = z := ⟨_, rfl⟩
  have hzb := leftF_le hG
  rw [hz] at hzb
  obtain ⟨z0, z1⟩ := hzb
  have k0 := fun W => left_any x y u v p q z hG hz W
  have k1 := fun W => left_any (x + 1) (y + 1) 0 0 0 0 200 (by unfold Good; omega) (by unfold leftF; rw [hun_all _ _ (by omega) (by omega), hun_all _ _ (by omega) (by omega)]; rfl) W
  have k2 := fun W => left_any (x + 1) (y + 1) (x + 1) (y + 1) 0 0 0 (by unfold Good; omega) (by unfold leftF; rw [hun_none _ _ (by omega) (by omega), hun_none _ _ (by omega) (by omega)]; rfl) W
  have k4 := fun W => left_any (x + 1) (y + 1) 0 0 (x + 1) (y + 1) 0 (by unfold Good; omega) (by unfold leftF; rw [hun_none _ _ (by omega) (by omega), hun_none _ _ (by omega) (by omega)]; rfl) W
  have k5 := fun W => left_any 0 0 0 0 0 0 200 (by unfold Good; omega) (by decide) W
  clear hx hy hu hv hp hq hG hz u0 u1 v0 v1 p0 p1 q0 q1
  go_enter Try.func3, Try.ntmps3
  go_upto_region 6 with (first
    | (go_at_call 6; refine (known_any _).mono ?_; rintro e w1 ⟨rfl, hb1⟩)
    | (go_at_call 7; refine (k3 _).mono ?_; rintro e w2 ⟨rfl, hb2⟩
       have hW2 := fin hb2 hb1
       clear hb1 hb2)
    | (go_at_call_of 8 (Value.agg #[Value.int .i64 x, Value.int .i64 y]); refine (k0 _).mono ?_; rintro e w3 ⟨rfl, hb3⟩
       have qx := (((Box.new w2 #[.int .i64 x, .int .i64 y] 24 rfl).up (V u v)).up (V p q)).later hb3
       have hW := fin hb3 (up (up (up hW2 (V x y)) (V u v)) (V p q))
       obtain ⟨cx0, cx1⟩ := qx.cells2
       have hlt := qx.lt
       clear hW2 hb3))
  have qy := Box.new w3 #[.int .i64 (x + 1), .int .i64 (y + 1)] 24 rfl
  have hW4 := up hW (V (x + 1) (y + 1))
  have hlt := qy.lt
  generalize hY : w3.heap.size = Y at *
  generalize w3.alloc (V (x + 1) (y + 1)) = W4 at *
  generalize x + 1 = X at *
  generalize y + 1 = Z at *
  obtain ⟨cy0, cy1⟩ := qy.cells2
  have d0 : decide (0 ≤ z) = true := by simp [z0]
  have d1 : decide (z ≤ 200) = true := by simp [z1]
  clear qx hW cx0 cx1 k0 k3 hY x0 x1 y0 y1
  go_wp2_with (first
    | (go_at_call_of 8 (Value.agg #[Value.int .i64 X, Value.int .i64 Z])
       first
       | (have hm := m3
          clear hm
          refine (k4 _).mono ?_; rintro e w6 ⟨rfl, hb6⟩
          have hW6 := fin hb6 hW5
          clear hb6 hW5)
       | (have hm := m2
          clear hm
          refine (k2 _).mono ?_; rintro e w5 ⟨rfl, hb5⟩
          have hW5 := fin hb5 hW4
          have m3 := trivial
          have qz := qy.later hb5
          clear cy0 cy1 qy
          obtain ⟨cy0, cy1⟩ := qz.cells2
          clear hb5 hW4)
       | (refine (k1 _).mono ?_; rintro e w4 ⟨rfl, hb4⟩
          have hW4 := fin hb4 hW4
          have m2 := trivial
          have qy := qy.later hb4
          clear cy0 cy1
          obtain ⟨cy0, cy1⟩ := qy.cells2
          clear hb4))
    | (go_at_call 8; refine (k5 _).mono ?_; rintro e w7 ⟨rfl, hb7⟩))
  go_ret
  exact ⟨rfl, fin hb7 hW6⟩

end Go.Proofs.Ytmkbllkfipcghaa
