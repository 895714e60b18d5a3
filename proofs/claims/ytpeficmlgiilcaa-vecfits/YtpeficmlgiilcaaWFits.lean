/- The walk of VecFits: it returns true. -/
import Derived.Test.YtpeficmlgiilcaaE
namespace Go.Proofs.Ytpeficmlgiilcaa
open Go.RowKit

set_option maxHeartbeats 800000 in
theorem vecFits_way (a b c d e f x0 x1 y0 y1 z0 z1 s0 s1 er : Int) (p q r g1 g2 : Bool)
    (h1 : a % 9 = x0) (h2 : b % 9 = x1) (h3 : c % 9 = y0) (h4 : d % 9 = y1) (h5 : e % 9 = z0) (h6 : f % 9 = z1)
    (l3 : y0 ≤ 9223372036854775807) (l4 : y1 ≤ 9223372036854775807)
    (hp : decide (x0 ≤ y0 ∧ x1 ≤ y1) = p) (hq : decide (y0 ≤ z0 ∧ y1 ≤ z1) = q) (hr : decide (x0 ≤ z0 ∧ x1 ≤ z1) = r)
    (hx : decide (x0 ≤ x0 ∧ x1 ≤ x1) = true)
    (hs : subS y0 y1 x0 x1 = (s0, s1, er)) (t1 : decide (x0 ≤ y0) = g1) (t2 : decide (x1 ≤ y1) = g2)
    (ok : (p = false ∧ er = 6 ∧ g1 = false) ∨ (p = false ∧ er = 6 ∧ g1 = true ∧ g2 = false) ∨ (p = true ∧ er = 0 ∧ g1 = true ∧ g2 = true ∧ q = false) ∨ (p = true ∧ er = 0 ∧ g1 = true ∧ g2 = true ∧ q = true ∧ r = true)) (w : World) :
    Calls Try.prog 7 #[.int .i64 a, .int .i64 b, .int .i64 c, .int .i64 d, .int .i64 e, .int .i64 f] w fun en w' => en = .returned (.bool true) ∧ Below w.heap.size w w' := by
  rcases ok with ⟨rfl, rfl, rfl⟩ | ⟨rfl, rfl, rfl, rfl⟩ | ⟨rfl, rfl, rfl, rfl, rfl⟩ | ⟨rfl, rfl, rfl, rfl, rfl, rfl⟩
  all_goals
    go_enter Try.func7, Try.ntmps7
    go_wp2_with (first
      | (go_at_call 9; refine (c9 _).mono ?_; rintro e w1 ⟨rfl, hb1⟩)
      | (go_at_call 19; refine (c19 _ _ _ (by decide) (by decide) (by assumption) _).mono ?_; rintro e w1 ⟨rfl, rfl⟩)
      | (go_at_call 15; refine (c15 _ _ _ _ _ (by assumption) _).mono ?_; rintro e w2 ⟨rfl, rfl⟩))
    refine (c13 _ _ _ _ _ _ _ l3 l4 hs _).mono ?_
    rintro e w2 ⟨rfl, hb2⟩
    have m0 := cell_later hb2 (a := ⟨w1.heap.size, 0, none⟩) (v := .int .i64 x0) (by go_simp)
    have m1 := cell_later hb2 (a := ⟨w1.heap.size, 1, none⟩) (v := .int .i64 x1) (by go_simp)
    have m2 := cell_later hb2 (a := ⟨w1.heap.size + 1, 0, none⟩) (v := .int .i64 y0) (by go_simp)
    have m3 := cell_later hb2 (a := ⟨w1.heap.size + 1, 1, none⟩) (v := .int .i64 y1) (by go_simp)
    have m4 := cell_later hb2 (a := ⟨w1.heap.size + 1 + 1, 0, none⟩) (v := .int .i64 z0) (by go_simp)
    have m5 := cell_later hb2 (a := ⟨w1.heap.size + 1 + 1, 1, none⟩) (v := .int .i64 z1) (by go_simp)
    have n0 : w1.heap.size < w2.heap.size := by have := hb2.size; simp at this; omega
    have n1 : w1.heap.size + 1 < w2.heap.size := by have := hb2.size; simp at this; omega
    have n2 : w1.heap.size + 1 + 1 < w2.heap.size := by have := hb2.size; simp at this; omega
    have n3 : w1.heap.size + 2 < w2.heap.size := n2
    have n4 : ∀ k, w1.heap.size < w2.heap.size + k := fun k => by omega
    have hb3 : Below w.heap.size w w2 := by
      refine Below.trans ?_ (hb2.mono (by have := hb1.size; simp; omega))
      repeat (first | with_reducible exact hb1 | with_reducible refine Below.alloc ?_ (by have := hb1.size; simp <;> omega) _)
    clear hb2 h1 h2 h3 h4 h5 h6 l3 l4 hs
    go_wp2_with (first
      | (go_at_call 15; refine (c15 _ _ _ _ _ (by assumption) _).mono ?_; rintro e w3 ⟨rfl, rfl⟩))
    go_ret
    refine ⟨rfl, ?_⟩
    repeat (first | with_reducible exact hb3 | with_reducible refine Below.alloc ?_ (by have := hb3.size; simp <;> omega) _)

theorem vecFits_walk (a0 a1 a2 a3 a4 a5 : Int) (_w0 : (Lit.int .i64 a0).wf = true) (_w1 : (Lit.int .i64 a1).wf = true) (_w2 : (Lit.int .i64 a2).wf = true) (_w3 : (Lit.int .i64 a3).wf = true) (_w4 : (Lit.int .i64 a4).wf = true) (_w5 : (Lit.int .i64 a5).wf = true) (w : World) :
    Calls Try.prog 7 #[.int .i64 a0, .int .i64 a1, .int .i64 a2, .int .i64 a3, .int .i64 a4, .int .i64 a5] w fun e w' => e = .returned (.bool true) ∧ Below w.heap.size w w' := by
  by_cases hp : a0 % 9 ≤ a2 % 9 ∧ a1 % 9 ≤ a3 % 9
  · refine vecFits_way a0 a1 a2 a3 a4 a5 _ _ _ _ _ _ (a2 % 9 - a0 % 9) (a3 % 9 - a1 % 9) 0 true _ _ true true rfl rfl rfl rfl rfl rfl (by omega) (by omega) (by simpa using hp) rfl rfl (by simp) (by unfold subS; rw [if_pos (by omega), if_pos (by omega)]) (by simpa using hp.1) (by simpa using hp.2) ?_ w
    simp
    omega
  · refine vecFits_way a0 a1 a2 a3 a4 a5 _ _ _ _ _ _ 0 0 6 false _ _ _ _ rfl rfl rfl rfl rfl rfl (by omega) (by omega) (by simpa using hp) rfl rfl (by simp) (by unfold subS; rw [if_pos (by omega), if_neg (by omega)]) rfl rfl ?_ w
    simp
    omega

end Go.Proofs.Ytpeficmlgiilcaa
