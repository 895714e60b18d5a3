/- The walk of VecAll: it returns true. -/
import Derived.Test.YtpeficmlgiilcaaF
import Derived.Test.YtpeficmlgiilcaaLoops
namespace Go.Proofs.Ytpeficmlgiilcaa
open Go.RowKit

theorem ten_cells (w : World) (x0 y0 x1 y1 x2 y2 x3 y3 x4 y4 : Int) :
    ∀ j, j < 5 → (w.alloc (.cells #[.int .i64 x0, .int .i64 y0, .int .i64 x1, .int .i64 y1, .int .i64 x2, .int .i64 y2, .int .i64 x3, .int .i64 y3, .int .i64 x4, .int .i64 y4] 24)).cell? ⟨w.heap.size, j * 2, none⟩ = some (.int .i64 ([x0, x1, x2, x3, x4].getD j 0)) ∧
      (w.alloc (.cells #[.int .i64 x0, .int .i64 y0, .int .i64 x1, .int .i64 y1, .int .i64 x2, .int .i64 y2, .int .i64 x3, .int .i64 y3, .int .i64 x4, .int .i64 y4] 24)).cell? ⟨w.heap.size, j * 2 + 1, none⟩ = some (.int .i64 ([y0, y1, y2, y3, y4].getD j 0)) := by
  intro j hj
  match j, hj with
  | 0, _ => simp
  | 1, _ => simp
  | 2, _ => simp
  | 3, _ => simp
  | 4, _ => simp

theorem five_le (x0 x1 x2 x3 x4 : Int) (h0 : x0 ≤ 9223372036854775807) (h1 : x1 ≤ 9223372036854775807) (h2 : x2 ≤ 9223372036854775807) (h3 : x3 ≤ 9223372036854775807) (h4 : x4 ≤ 9223372036854775807) :
    ∀ j, [x0, x1, x2, x3, x4].getD j 0 ≤ 9223372036854775807 := by
  intro j
  match j with
  | 0 => exact h0
  | 1 => exact h1
  | 2 => exact h2
  | 3 => exact h3
  | 4 => exact h4
  | n + 5 => simp

set_option maxRecDepth 100000 in
set_option maxHeartbeats 1600000 in
theorem vecAll_way (a b c d ea eb ec ed : Int) (h1 : edgeS a = ea) (h2 : edgeS b = eb) (h3 : edgeS c = ec) (h4 : edgeS d = ed)
    (lx : Hid (∀ j, [a, c, ea, ec, ea].getD j 0 ≤ 9223372036854775807)) (ly : Hid (∀ j, [b, d, eb, ed, 5].getD j 0 ≤ 9223372036854775807)) (w : World) :
    Calls Try.prog 3 #[.int .i64 a, .int .i64 b, .int .i64 c, .int .i64 d] w fun e w' => e = .returned (.bool true) ∧ Below w.heap.size w w' := by
  go_enter Try.func3, Try.ntmps3
  go_wp2_with (first
      | (go_at_call 9; refine (c9 _).mono ?_; rintro e w1 ⟨rfl, be⟩)
      | (go_at_call_of 10 (Value.int IntKind.i64 a); refine (c10 _ _ h1 _).mono ?_; rintro e w1 ⟨rfl, hbx⟩; replace be := be.trans (hbx.mono be.size); clear hbx)
      | (go_at_call_of 10 (Value.int IntKind.i64 b); refine (c10 _ _ h2 _).mono ?_; rintro e w1 ⟨rfl, hbx⟩; replace be := be.trans (hbx.mono be.size); clear hbx)
      | (go_at_call_of 10 (Value.int IntKind.i64 c); refine (c10 _ _ h3 _).mono ?_; rintro e w1 ⟨rfl, hbx⟩; replace be := be.trans (hbx.mono be.size); clear hbx)
      | (go_at_call_of 10 (Value.int IntKind.i64 d); refine (c10 _ _ h4 _).mono ?_; rintro e w1 ⟨rfl, hbx⟩; replace be := be.trans (hbx.mono be.size); clear hbx))
  clear h1 h2 h3 h4
  refine outer _ w1.heap.size _ _ lx.out ly.out (ten_cells w1 a b c d ea eb ec ed ea 5) _ _ ⟨rfl, rfl, rfl, rfl, Below.refl _ _⟩ ?_
  intro a' w' z y be'
  have be2 : Below w.heap.size w w' := Below.trans (be.alloc be.size _) (be'.mono (by have := be.size; simp; omega))
  clear be' lx ly
  go_wp2
  exact bodyPost_ret (v := .bool true) (by simp [results, Try.results3, go_sem, z]) rfl ⟨rfl, be2⟩

theorem vecAll_walk (a0 a1 a2 a3 : Int) (w0 : (Lit.int .i64 a0).wf = true) (w1 : (Lit.int .i64 a1).wf = true) (w2 : (Lit.int .i64 a2).wf = true) (w3 : (Lit.int .i64 a3).wf = true) (w : World) :
    Calls Try.prog 3 #[.int .i64 a0, .int .i64 a1, .int .i64 a2, .int .i64 a3] w fun e w' => e = .returned (.bool true) ∧ Below w.heap.size w w' :=
  vecAll_way a0 a1 a2 a3 _ _ _ _ rfl rfl rfl rfl
    (five_le _ _ _ _ _ (bounds_i64 w0).2 (bounds_i64 w2).2 (edgeS_le _) (edgeS_le _) (edgeS_le _))
    (five_le _ _ _ _ _ (bounds_i64 w1).2 (bounds_i64 w3).2 (edgeS_le _) (edgeS_le _) (by omega)) w

end Go.Proofs.Ytpeficmlgiilcaa
