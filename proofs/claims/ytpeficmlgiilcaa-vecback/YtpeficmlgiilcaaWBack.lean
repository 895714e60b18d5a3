/- The walk of VecBack: it returns true. -/
import Derived.Test.YtpeficmlgiilcaaE
namespace Go.Proofs.Ytpeficmlgiilcaa
open Go.RowKit

set_option maxHeartbeats 800000 in
theorem vecBack_way (a b c d x0 x1 y0 y1 s0 s1 : Int)
    (h1 : a % 4611686018427387904 = x0) (h2 : b % 4611686018427387904 = x1) (h3 : c % 4611686018427387904 = y0) (h4 : d % 4611686018427387904 = y1)
    (lx0 : x0 ≤ 9223372036854775807) (lx1 : x1 ≤ 9223372036854775807) (ly0 : y0 ≤ 9223372036854775807) (ly1 : y1 ≤ 9223372036854775807) (ls0 : s0 ≤ 9223372036854775807) (ls1 : s1 ≤ 9223372036854775807)
    (ha : addS x0 x1 y0 y1 = (s0, s1, 0)) (hb : addS y0 y1 x0 x1 = (s0, s1, 0)) (hc : subS s0 s1 y0 y1 = (x0, x1, 0))
    (f1 : decide (x0 ≤ s0 ∧ x1 ≤ s1) = true) (f2 : decide (y0 ≤ s0 ∧ y1 ≤ s1) = true)
    (e1 : wrap64 (s0 - x0) = y0) (e2 : wrap64 (s1 - x1) = y1) (w : World) :
    Calls Try.prog 4 #[.int .i64 a, .int .i64 b, .int .i64 c, .int .i64 d] w fun en w' => en = .returned (.bool true) ∧ Below w.heap.size w w' := by
    have he := eq24
    go_enter Try.func4, Try.ntmps4
    go_wp2_with (first
      | (go_at_call 9; refine (c9 _).mono ?_; rintro e w1 ⟨rfl, be1⟩)
      | (go_at_call 19; refine (c19 _ _ _ (by decide) (by decide) (by assumption) _).mono ?_; rintro e w1 ⟨rfl, rfl⟩))
    refine (c11 _ _ _ _ _ _ _ lx0 lx1 ha _).mono ?_
    rintro e w2 ⟨rfl, hb2⟩
    have m2_0a := cell_later hb2 (a := ⟨w1.heap.size, 0, none⟩) (v := .int .i64 x0) (by go_simp)
    have m2_0b := cell_later hb2 (a := ⟨w1.heap.size, 1, none⟩) (v := .int .i64 x1) (by go_simp)
    have m2_1a := cell_later hb2 (a := ⟨w1.heap.size + 1, 0, none⟩) (v := .int .i64 y0) (by go_simp)
    have m2_1b := cell_later hb2 (a := ⟨w1.heap.size + 1, 1, none⟩) (v := .int .i64 y1) (by go_simp)
    have be2 : Below w.heap.size w w2 := by
      refine Below.trans ?_ (hb2.mono (by have := be1.size; simp; omega))
      repeat (first | with_reducible exact be1 | with_reducible apply Below.drew | with_reducible refine Below.alloc ?_ (by have := be1.size; simp <;> omega) _)
    have n2_0 : w1.heap.size < w2.heap.size := World.block_lt_of_cell? _ _ m2_0a
    have n2_1 : w1.heap.size + 1 < w2.heap.size := World.block_lt_of_cell? _ _ m2_1a
    clear hb2 h1 h2 h3 h4
    have p2_0 : ∀ k, w1.heap.size < w2.heap.size + k := fun k => Nat.lt_of_lt_of_le n2_0 (Nat.le_add_right _ _)
    have p2_1 : ∀ k, w1.heap.size + 1 < w2.heap.size + k := fun k => Nat.lt_of_lt_of_le n2_1 (Nat.le_add_right _ _)
    go_wp2_with fail
    refine (c11 _ _ _ _ _ _ _ ly0 ly1 hb _).mono ?_
    rintro e w3 ⟨rfl, hb3⟩
    have m3_0a := cell_later hb3 (a := ⟨w1.heap.size, 0, none⟩) (v := .int .i64 x0) (by go_simp)
    have m3_0b := cell_later hb3 (a := ⟨w1.heap.size, 1, none⟩) (v := .int .i64 x1) (by go_simp)
    have m3_1a := cell_later hb3 (a := ⟨w1.heap.size + 1, 0, none⟩) (v := .int .i64 y0) (by go_simp)
    have m3_1b := cell_later hb3 (a := ⟨w1.heap.size + 1, 1, none⟩) (v := .int .i64 y1) (by go_simp)
    have m3_2a := cell_later hb3 (a := ⟨w2.heap.size, 0, none⟩) (v := .int .i64 s0) (by go_simp)
    have m3_2b := cell_later hb3 (a := ⟨w2.heap.size, 1, none⟩) (v := .int .i64 s1) (by go_simp)
    have be3 : Below w.heap.size w w3 := by
      refine Below.trans ?_ (hb3.mono (by have := be2.size; simp; omega))
      repeat (first | with_reducible exact be2 | with_reducible apply Below.drew | with_reducible refine Below.alloc ?_ (by have := be2.size; simp <;> omega) _)
    have n3_0 : w1.heap.size < w3.heap.size := World.block_lt_of_cell? _ _ m3_0a
    have n3_1 : w1.heap.size + 1 < w3.heap.size := World.block_lt_of_cell? _ _ m3_1a
    have n3_2 : w2.heap.size < w3.heap.size := World.block_lt_of_cell? _ _ m3_2a
    clear hb3 m2_0a m2_0b n2_0 p2_0 m2_1a m2_1b n2_1 p2_1
    have p3_0 : ∀ k, w1.heap.size < w3.heap.size + k := fun k => Nat.lt_of_lt_of_le n3_0 (Nat.le_add_right _ _)
    have p3_1 : ∀ k, w1.heap.size + 1 < w3.heap.size + k := fun k => Nat.lt_of_lt_of_le n3_1 (Nat.le_add_right _ _)
    have p3_2 : ∀ k, w2.heap.size < w3.heap.size + k := fun k => Nat.lt_of_lt_of_le n3_2 (Nat.le_add_right _ _)
    go_wp2_with fail
    refine (c13 _ _ _ _ _ _ _ ls0 ls1 hc _).mono ?_
    rintro e w4 ⟨rfl, hb4⟩
    have m4_0a := cell_later hb4 (a := ⟨w1.heap.size, 0, none⟩) (v := .int .i64 x0) (by go_simp)
    have m4_0b := cell_later hb4 (a := ⟨w1.heap.size, 1, none⟩) (v := .int .i64 x1) (by go_simp)
    have m4_1a := cell_later hb4 (a := ⟨w1.heap.size + 1, 0, none⟩) (v := .int .i64 y0) (by go_simp)
    have m4_1b := cell_later hb4 (a := ⟨w1.heap.size + 1, 1, none⟩) (v := .int .i64 y1) (by go_simp)
    have m4_2a := cell_later hb4 (a := ⟨w2.heap.size, 0, none⟩) (v := .int .i64 s0) (by go_simp)
    have m4_2b := cell_later hb4 (a := ⟨w2.heap.size, 1, none⟩) (v := .int .i64 s1) (by go_simp)
    have m4_3a := cell_later hb4 (a := ⟨w3.heap.size, 0, none⟩) (v := .int .i64 s0) (by go_simp)
    have m4_3b := cell_later hb4 (a := ⟨w3.heap.size, 1, none⟩) (v := .int .i64 s1) (by go_simp)
    have be4 : Below w.heap.size w w4 := by
      refine Below.trans ?_ (hb4.mono (by have := be3.size; simp; omega))
      repeat (first | with_reducible exact be3 | with_reducible apply Below.drew | with_reducible refine Below.alloc ?_ (by have := be3.size; simp <;> omega) _)
    have n4_0 : w1.heap.size < w4.heap.size := World.block_lt_of_cell? _ _ m4_0a
    have n4_1 : w1.heap.size + 1 < w4.heap.size := World.block_lt_of_cell? _ _ m4_1a
    have n4_2 : w2.heap.size < w4.heap.size := World.block_lt_of_cell? _ _ m4_2a
    have n4_3 : w3.heap.size < w4.heap.size := World.block_lt_of_cell? _ _ m4_3a
    clear hb4 m3_0a m3_0b n3_0 p3_0 m3_1a m3_1b n3_1 p3_1 m3_2a m3_2b n3_2 p3_2
    have p4_0 : ∀ k, w1.heap.size < w4.heap.size + k := fun k => Nat.lt_of_lt_of_le n4_0 (Nat.le_add_right _ _)
    have p4_1 : ∀ k, w1.heap.size + 1 < w4.heap.size + k := fun k => Nat.lt_of_lt_of_le n4_1 (Nat.le_add_right _ _)
    have p4_2 : ∀ k, w2.heap.size < w4.heap.size + k := fun k => Nat.lt_of_lt_of_le n4_2 (Nat.le_add_right _ _)
    have p4_3 : ∀ k, w3.heap.size < w4.heap.size + k := fun k => Nat.lt_of_lt_of_le n4_3 (Nat.le_add_right _ _)
    clear ha hb hc lx0 lx1 ly0 ly1 ls0 ls1
    go_wp2_with (first
      | (go_at_call 15; refine (c15 _ _ _ _ _ (by assumption) _).mono ?_; rintro e w5 ⟨rfl, rfl⟩))
    go_ret
    refine ⟨rfl, ?_⟩
    repeat (first | with_reducible exact be4 | with_reducible apply Below.drew | with_reducible refine Below.alloc ?_ (by have := be4.size; simp <;> omega) _)

theorem vecBack_walk (a0 a1 a2 a3 : Int) (_w0 : (Lit.int .i64 a0).wf = true) (_w1 : (Lit.int .i64 a1).wf = true) (_w2 : (Lit.int .i64 a2).wf = true) (_w3 : (Lit.int .i64 a3).wf = true) (w : World) :
    Calls Try.prog 4 #[.int .i64 a0, .int .i64 a1, .int .i64 a2, .int .i64 a3] w fun e w' => e = .returned (.bool true) ∧ Below w.heap.size w w' := by
  refine vecBack_way a0 a1 a2 a3 _ _ _ _ (a0 % 4611686018427387904 + a2 % 4611686018427387904) (a1 % 4611686018427387904 + a3 % 4611686018427387904) rfl rfl rfl rfl (by omega) (by omega) (by omega) (by omega) (by omega) (by omega) ?_ ?_ ?_ (by simp; omega) (by simp; omega) (by unfold wrap64; omega) (by unfold wrap64; omega) w
  · unfold addS
    rw [if_pos (by omega), if_pos (by omega)]
  · unfold addS
    rw [if_pos (by omega), if_pos (by omega), Int.add_comm (a2 % 4611686018427387904), Int.add_comm (a3 % 4611686018427387904)]
  · unfold subS
    rw [if_pos (by omega), if_pos (by omega), Int.add_sub_cancel, Int.add_sub_cancel]

end Go.Proofs.Ytpeficmlgiilcaa
