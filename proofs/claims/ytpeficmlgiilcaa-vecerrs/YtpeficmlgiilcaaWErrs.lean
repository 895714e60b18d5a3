/- The walk of VecErrs: it returns true. -/
import Derived.Test.YtpeficmlgiilcaaE
namespace Go.Proofs.Ytpeficmlgiilcaa
open Go.RowKit

set_option maxHeartbeats 800000 in
theorem vecErrs_cpu (n a b c p q k z : Int) (h1 : a % 100 = p) (h2 : b % 100 = q) (h3 : c % 2 = z) (h4 : n % 1099511627776 = k) (z0 : z = 0)
    (l0 : (-1 - k) ≤ 9223372036854775807) (l1 : q ≤ 9223372036854775807) (lb : 9223372036854775807 ≤ (9223372036854775807 : Int))
    (ha : addS (-1 - k) q 9223372036854775807 9223372036854775807 = (0, 0, 2)) (hb : addS 9223372036854775807 9223372036854775807 (-1 - k) q = (0, 0, 2)) (hc : subS (-1 - k) q 9223372036854775807 9223372036854775807 = (0, 0, 2)) (hd : subS 9223372036854775807 9223372036854775807 (-1 - k) q = (0, 0, 2))
    (r1 : decide (0 ≤ (-1 - k) ∧ 0 ≤ q) = false) (w : World) :
    Calls Try.prog 6 #[.int .i64 n, .int .i64 a, .int .i64 b, .int .i64 c] w fun en w' => en = .returned (.bool true) ∧ Below w.heap.size w w' := by
    subst z0
    go_enter Try.func6, Try.ntmps6
    go_wp2_with (first
      | (go_at_call 9; refine (c9 _).mono ?_; rintro e w1 ⟨rfl, be1⟩)
      | (go_at_call 19; refine (c19 _ _ _ (by decide) (by decide) (by assumption) _).mono ?_; rintro e w1 ⟨rfl, rfl⟩))
    refine (c11 _ _ _ _ _ _ _ l0 l1 ha _).mono ?_
    rintro e w2 ⟨rfl, hb2⟩
    have m2_0a := cell_later hb2 (a := ⟨w1.heap.size, 0, none⟩) (v := .int .i64 (-1 - k)) (by go_simp)
    have m2_0b := cell_later hb2 (a := ⟨w1.heap.size, 1, none⟩) (v := .int .i64 q) (by go_simp)
    have m2_1a := cell_later hb2 (a := ⟨w1.heap.size + 1, 0, none⟩) (v := .int .i64 9223372036854775807) (by go_simp)
    have m2_1b := cell_later hb2 (a := ⟨w1.heap.size + 1, 1, none⟩) (v := .int .i64 9223372036854775807) (by go_simp)
    have be2 : Below w.heap.size w w2 := by
      refine Below.trans ?_ (hb2.mono (by have := be1.size; simp; omega))
      repeat (first | with_reducible exact be1 | with_reducible apply Below.drew | with_reducible refine Below.alloc ?_ (by have := be1.size; simp <;> omega) _)
    have n2_0 : w1.heap.size < w2.heap.size := World.block_lt_of_cell? _ _ m2_0a
    have n2_1 : w1.heap.size + 1 < w2.heap.size := World.block_lt_of_cell? _ _ m2_1a
    clear hb2 h1 h2 h3 h4
    have p2_0 : ∀ k, w1.heap.size < w2.heap.size + k := fun k => Nat.lt_of_lt_of_le n2_0 (Nat.le_add_right _ _)
    have p2_1 : ∀ k, w1.heap.size + 1 < w2.heap.size + k := fun k => Nat.lt_of_lt_of_le n2_1 (Nat.le_add_right _ _)
    go_wp2_with fail
    refine (c11 _ _ _ _ _ _ _ lb lb hb _).mono ?_
    rintro e w3 ⟨rfl, hb3⟩
    have m3_0a := cell_later hb3 (a := ⟨w1.heap.size, 0, none⟩) (v := .int .i64 (-1 - k)) (by go_simp)
    have m3_0b := cell_later hb3 (a := ⟨w1.heap.size, 1, none⟩) (v := .int .i64 q) (by go_simp)
    have m3_1a := cell_later hb3 (a := ⟨w1.heap.size + 1, 0, none⟩) (v := .int .i64 9223372036854775807) (by go_simp)
    have m3_1b := cell_later hb3 (a := ⟨w1.heap.size + 1, 1, none⟩) (v := .int .i64 9223372036854775807) (by go_simp)
    have be3 : Below w.heap.size w w3 := by
      refine Below.trans ?_ (hb3.mono (by have := be2.size; simp; omega))
      repeat (first | with_reducible exact be2 | with_reducible apply Below.drew | with_reducible refine Below.alloc ?_ (by have := be2.size; simp <;> omega) _)
    have n3_0 : w1.heap.size < w3.heap.size := World.block_lt_of_cell? _ _ m3_0a
    have n3_1 : w1.heap.size + 1 < w3.heap.size := World.block_lt_of_cell? _ _ m3_1a
    clear hb3 m2_0a m2_0b n2_0 p2_0 m2_1a m2_1b n2_1 p2_1
    have p3_0 : ∀ k, w1.heap.size < w3.heap.size + k := fun k => Nat.lt_of_lt_of_le n3_0 (Nat.le_add_right _ _)
    have p3_1 : ∀ k, w1.heap.size + 1 < w3.heap.size + k := fun k => Nat.lt_of_lt_of_le n3_1 (Nat.le_add_right _ _)
    go_wp2_with fail
    refine (c13 _ _ _ _ _ _ _ l0 l1 hc _).mono ?_
    rintro e w4 ⟨rfl, hb4⟩
    have m4_0a := cell_later hb4 (a := ⟨w1.heap.size, 0, none⟩) (v := .int .i64 (-1 - k)) (by go_simp)
    have m4_0b := cell_later hb4 (a := ⟨w1.heap.size, 1, none⟩) (v := .int .i64 q) (by go_simp)
    have m4_1a := cell_later hb4 (a := ⟨w1.heap.size + 1, 0, none⟩) (v := .int .i64 9223372036854775807) (by go_simp)
    have m4_1b := cell_later hb4 (a := ⟨w1.heap.size + 1, 1, none⟩) (v := .int .i64 9223372036854775807) (by go_simp)
    have be4 : Below w.heap.size w w4 := by
      refine Below.trans ?_ (hb4.mono (by have := be3.size; simp; omega))
      repeat (first | with_reducible exact be3 | with_reducible apply Below.drew | with_reducible refine Below.alloc ?_ (by have := be3.size; simp <;> omega) _)
    have n4_0 : w1.heap.size < w4.heap.size := World.block_lt_of_cell? _ _ m4_0a
    have n4_1 : w1.heap.size + 1 < w4.heap.size := World.block_lt_of_cell? _ _ m4_1a
    clear hb4 m3_0a m3_0b n3_0 p3_0 m3_1a m3_1b n3_1 p3_1
    have p4_0 : ∀ k, w1.heap.size < w4.heap.size + k := fun k => Nat.lt_of_lt_of_le n4_0 (Nat.le_add_right _ _)
    have p4_1 : ∀ k, w1.heap.size + 1 < w4.heap.size + k := fun k => Nat.lt_of_lt_of_le n4_1 (Nat.le_add_right _ _)
    go_wp2_with fail
    refine (c13 _ _ _ _ _ _ _ lb lb hd _).mono ?_
    rintro e w5 ⟨rfl, hb5⟩
    have m5_0a := cell_later hb5 (a := ⟨w1.heap.size, 0, none⟩) (v := .int .i64 (-1 - k)) (by go_simp)
    have m5_0b := cell_later hb5 (a := ⟨w1.heap.size, 1, none⟩) (v := .int .i64 q) (by go_simp)
    have m5_1a := cell_later hb5 (a := ⟨w1.heap.size + 1, 0, none⟩) (v := .int .i64 9223372036854775807) (by go_simp)
    have m5_1b := cell_later hb5 (a := ⟨w1.heap.size + 1, 1, none⟩) (v := .int .i64 9223372036854775807) (by go_simp)
    have be5 : Below w.heap.size w w5 := by
      refine Below.trans ?_ (hb5.mono (by have := be4.size; simp; omega))
      repeat (first | with_reducible exact be4 | with_reducible apply Below.drew | with_reducible refine Below.alloc ?_ (by have := be4.size; simp <;> omega) _)
    have n5_0 : w1.heap.size < w5.heap.size := World.block_lt_of_cell? _ _ m5_0a
    have n5_1 : w1.heap.size + 1 < w5.heap.size := World.block_lt_of_cell? _ _ m5_1a
    clear hb5 m4_0a m4_0b n4_0 p4_0 m4_1a m4_1b n4_1 p4_1
    have p5_0 : ∀ k, w1.heap.size < w5.heap.size + k := fun k => Nat.lt_of_lt_of_le n5_0 (Nat.le_add_right _ _)
    have p5_1 : ∀ k, w1.heap.size + 1 < w5.heap.size + k := fun k => Nat.lt_of_lt_of_le n5_1 (Nat.le_add_right _ _)
    clear ha hb hc hd
    go_wp2_with (first
      | (go_at_call 17; refine (c17 false _ _ r1 _).mono ?_; rintro e w6 ⟨rfl, rfl⟩)
      | (go_at_call 17; refine (c17 true 9223372036854775807 9223372036854775807 (by decide) _).mono ?_; rintro e w6 ⟨rfl, rfl⟩))
    go_ret
    refine ⟨rfl, ?_⟩
    repeat (first | with_reducible exact be5 | with_reducible apply Below.drew | with_reducible refine Below.alloc ?_ (by have := be5.size; simp <;> omega) _)

set_option maxHeartbeats 800000 in
theorem vecErrs_mem (n a b c p q k z : Int) (h1 : a % 100 = p) (h2 : b % 100 = q) (h3 : c % 2 = z) (h4 : n % 1099511627776 = k) (z0 : (z == 0) = false)
    (l0 : p ≤ 9223372036854775807) (l1 : (-1 - k) ≤ 9223372036854775807) (lb : 9223372036854775807 ≤ (9223372036854775807 : Int))
    (ha : addS p (-1 - k) 9223372036854775807 9223372036854775807 = (0, 0, 2)) (hb : addS 9223372036854775807 9223372036854775807 p (-1 - k) = (0, 0, 2)) (hc : subS p (-1 - k) 9223372036854775807 9223372036854775807 = (0, 0, 2)) (hd : subS 9223372036854775807 9223372036854775807 p (-1 - k) = (0, 0, 2))
    (r1 : decide (0 ≤ p ∧ 0 ≤ (-1 - k)) = false) (w : World) :
    Calls Try.prog 6 #[.int .i64 n, .int .i64 a, .int .i64 b, .int .i64 c] w fun en w' => en = .returned (.bool true) ∧ Below w.heap.size w w' := by
    skip
    go_enter Try.func6, Try.ntmps6
    go_wp2_with (first
      | (go_at_call 9; refine (c9 _).mono ?_; rintro e w1 ⟨rfl, be1⟩)
      | (go_at_call 19; refine (c19 _ _ _ (by decide) (by decide) (by assumption) _).mono ?_; rintro e w1 ⟨rfl, rfl⟩))
    refine (c11 _ _ _ _ _ _ _ l0 l1 ha _).mono ?_
    rintro e w2 ⟨rfl, hb2⟩
    have m2_0a := cell_later hb2 (a := ⟨w1.heap.size, 0, none⟩) (v := .int .i64 p) (by go_simp)
    have m2_0b := cell_later hb2 (a := ⟨w1.heap.size, 1, none⟩) (v := .int .i64 (-1 - k)) (by go_simp)
    have m2_1a := cell_later hb2 (a := ⟨w1.heap.size + 1, 0, none⟩) (v := .int .i64 9223372036854775807) (by go_simp)
    have m2_1b := cell_later hb2 (a := ⟨w1.heap.size + 1, 1, none⟩) (v := .int .i64 9223372036854775807) (by go_simp)
    have be2 : Below w.heap.size w w2 := by
      refine Below.trans ?_ (hb2.mono (by have := be1.size; simp; omega))
      repeat (first | with_reducible exact be1 | with_reducible apply Below.drew | with_reducible refine Below.alloc ?_ (by have := be1.size; simp <;> omega) _)
    have n2_0 : w1.heap.size < w2.heap.size := World.block_lt_of_cell? _ _ m2_0a
    have n2_1 : w1.heap.size + 1 < w2.heap.size := World.block_lt_of_cell? _ _ m2_1a
    clear hb2 h1 h2 h3 h4
    have p2_0 : ∀ k, w1.heap.size < w2.heap.size + k := fun k => Nat.lt_of_lt_of_le n2_0 (Nat.le_add_right _ _)
    have p2_1 : ∀ k, w1.heap.size + 1 < w2.heap.size + k := fun k => Nat.lt_of_lt_of_le n2_1 (Nat.le_add_right _ _)
    go_wp2_with fail
    refine (c11 _ _ _ _ _ _ _ lb lb hb _).mono ?_
    rintro e w3 ⟨rfl, hb3⟩
    have m3_0a := cell_later hb3 (a := ⟨w1.heap.size, 0, none⟩) (v := .int .i64 p) (by go_simp)
    have m3_0b := cell_later hb3 (a := ⟨w1.heap.size, 1, none⟩) (v := .int .i64 (-1 - k)) (by go_simp)
    have m3_1a := cell_later hb3 (a := ⟨w1.heap.size + 1, 0, none⟩) (v := .int .i64 9223372036854775807) (by go_simp)
    have m3_1b := cell_later hb3 (a := ⟨w1.heap.size + 1, 1, none⟩) (v := .int .i64 9223372036854775807) (by go_simp)
    have be3 : Below w.heap.size w w3 := by
      refine Below.trans ?_ (hb3.mono (by have := be2.size; simp; omega))
      repeat (first | with_reducible exact be2 | with_reducible apply Below.drew | with_reducible refine Below.alloc ?_ (by have := be2.size; simp <;> omega) _)
    have n3_0 : w1.heap.size < w3.heap.size := World.block_lt_of_cell? _ _ m3_0a
    have n3_1 : w1.heap.size + 1 < w3.heap.size := World.block_lt_of_cell? _ _ m3_1a
    clear hb3 m2_0a m2_0b n2_0 p2_0 m2_1a m2_1b n2_1 p2_1
    have p3_0 : ∀ k, w1.heap.size < w3.heap.size + k := fun k => Nat.lt_of_lt_of_le n3_0 (Nat.le_add_right _ _)
    have p3_1 : ∀ k, w1.heap.size + 1 < w3.heap.size + k := fun k => Nat.lt_of_lt_of_le n3_1 (Nat.le_add_right _ _)
    go_wp2_with fail
    refine (c13 _ _ _ _ _ _ _ l0 l1 hc _).mono ?_
    rintro e w4 ⟨rfl, hb4⟩
    have m4_0a := cell_later hb4 (a := ⟨w1.heap.size, 0, none⟩) (v := .int .i64 p) (by go_simp)
    have m4_0b := cell_later hb4 (a := ⟨w1.heap.size, 1, none⟩) (v := .int .i64 (-1 - k)) (by go_simp)
    have m4_1a := cell_later hb4 (a := ⟨w1.heap.size + 1, 0, none⟩) (v := .int .i64 9223372036854775807) (by go_simp)
    have m4_1b := cell_later hb4 (a := ⟨w1.heap.size + 1, 1, none⟩) (v := .int .i64 9223372036854775807) (by go_simp)
    have be4 : Below w.heap.size w w4 := by
      refine Below.trans ?_ (hb4.mono (by have := be3.size; simp; omega))
      repeat (first | with_reducible exact be3 | with_reducible apply Below.drew | with_reducible refine Below.alloc ?_ (by have := be3.size; simp <;> omega) _)
    have n4_0 : w1.heap.size < w4.heap.size := World.block_lt_of_cell? _ _ m4_0a
    have n4_1 : w1.heap.size + 1 < w4.heap.size := World.block_lt_of_cell? _ _ m4_1a
    clear hb4 m3_0a m3_0b n3_0 p3_0 m3_1a m3_1b n3_1 p3_1
    have p4_0 : ∀ k, w1.heap.size < w4.heap.size + k := fun k => Nat.lt_of_lt_of_le n4_0 (Nat.le_add_right _ _)
    have p4_1 : ∀ k, w1.heap.size + 1 < w4.heap.size + k := fun k => Nat.lt_of_lt_of_le n4_1 (Nat.le_add_right _ _)
    go_wp2_with fail
    refine (c13 _ _ _ _ _ _ _ lb lb hd _).mono ?_
    rintro e w5 ⟨rfl, hb5⟩
    have m5_0a := cell_later hb5 (a := ⟨w1.heap.size, 0, none⟩) (v := .int .i64 p) (by go_simp)
    have m5_0b := cell_later hb5 (a := ⟨w1.heap.size, 1, none⟩) (v := .int .i64 (-1 - k)) (by go_simp)
    have m5_1a := cell_later hb5 (a := ⟨w1.heap.size + 1, 0, none⟩) (v := .int .i64 9223372036854775807) (by go_simp)
    have m5_1b := cell_later hb5 (a := ⟨w1.heap.size + 1, 1, none⟩) (v := .int .i64 9223372036854775807) (by go_simp)
    have be5 : Below w.heap.size w w5 := by
      refine Below.trans ?_ (hb5.mono (by have := be4.size; simp; omega))
      repeat (first | with_reducible exact be4 | with_reducible apply Below.drew | with_reducible refine Below.alloc ?_ (by have := be4.size; simp <;> omega) _)
    have n5_0 : w1.heap.size < w5.heap.size := World.block_lt_of_cell? _ _ m5_0a
    have n5_1 : w1.heap.size + 1 < w5.heap.size := World.block_lt_of_cell? _ _ m5_1a
    clear hb5 m4_0a m4_0b n4_0 p4_0 m4_1a m4_1b n4_1 p4_1
    have p5_0 : ∀ k, w1.heap.size < w5.heap.size + k := fun k => Nat.lt_of_lt_of_le n5_0 (Nat.le_add_right _ _)
    have p5_1 : ∀ k, w1.heap.size + 1 < w5.heap.size + k := fun k => Nat.lt_of_lt_of_le n5_1 (Nat.le_add_right _ _)
    clear ha hb hc hd
    go_wp2_with (first
      | (go_at_call 17; refine (c17 false _ _ r1 _).mono ?_; rintro e w6 ⟨rfl, rfl⟩)
      | (go_at_call 17; refine (c17 true 9223372036854775807 9223372036854775807 (by decide) _).mono ?_; rintro e w6 ⟨rfl, rfl⟩))
    go_ret
    refine ⟨rfl, ?_⟩
    repeat (first | with_reducible exact be5 | with_reducible apply Below.drew | with_reducible refine Below.alloc ?_ (by have := be5.size; simp <;> omega) _)

theorem vecErrs_walk (a0 a1 a2 a3 : Int) (_w0 : (Lit.int .i64 a0).wf = true) (_w1 : (Lit.int .i64 a1).wf = true) (_w2 : (Lit.int .i64 a2).wf = true) (_w3 : (Lit.int .i64 a3).wf = true) (w : World) :
    Calls Try.prog 6 #[.int .i64 a0, .int .i64 a1, .int .i64 a2, .int .i64 a3] w fun e w' => e = .returned (.bool true) ∧ Below w.heap.size w w' := by
  by_cases h : a3 % 2 = 0
  · refine vecErrs_cpu a0 a1 a2 a3 _ _ _ _ rfl rfl rfl rfl h (by omega) (by omega) (by omega) ?_ ?_ ?_ ?_ (by simp; omega) w
    · unfold addS
      rw [if_neg (by omega)]
    · unfold addS
      rw [if_neg (by omega)]
    · unfold subS
      rw [if_neg (by omega)]
    · unfold subS
      rw [if_neg (by omega)]
  · refine vecErrs_mem a0 a1 a2 a3 _ _ _ _ rfl rfl rfl rfl (by simp; omega) (by omega) (by omega) (by omega) ?_ ?_ ?_ ?_ (by simp; omega) w
    · unfold addS
      rw [if_neg (by omega)]
    · unfold addS
      rw [if_neg (by omega)]
    · unfold subS
      rw [if_neg (by omega)]
    · unfold subS
      rw [if_neg (by omega)]

end Go.Proofs.Ytpeficmlgiilcaa
