/- The walk of VecEnds: it returns true. -/
import Derived.Test.YtpeficmlgiilcaaE
namespace Go.Proofs.Ytpeficmlgiilcaa
open Go.RowKit

set_option maxHeartbeats 800000 in
theorem vecEnds_cpu (n k : Int) (h1 : n % 1099511627776 = k) (lg : 9223372036854775807 - k ≤ 9223372036854775807) (lk : k ≤ 9223372036854775807) (l0 : (0 : Int) ≤ 9223372036854775807)
    (ha : addS (9223372036854775807 - k) 0 k 0 = (9223372036854775807, 0, 0)) (hb : addS (9223372036854775807 - k) 0 (k + 1) 0 = (0, 0, 6)) (hc : subS k 0 (k + 1) 0 = (0, 0, 6)) (w : World) :
    Calls Try.prog 5 #[.int .i64 n, .bool false] w fun en w' => en = .returned (.bool true) ∧ Below w.heap.size w w' := by
    have he := eq24
    go_enter Try.func5, Try.ntmps5
    go_wp2_with (first
      | (go_at_call 9; refine (c9 _).mono ?_; rintro e w1 ⟨rfl, be1⟩)
      | (go_at_call 19; refine (c19 _ _ _ (by decide) (by decide) (by assumption) _).mono ?_; rintro e w1 ⟨rfl, rfl⟩))
    refine (c11 _ _ _ _ _ _ _ lg l0 ha _).mono ?_
    rintro e w2 ⟨rfl, hb2⟩
    have m2_0a := cell_later hb2 (a := ⟨w1.heap.size, 0, none⟩) (v := .int .i64 (9223372036854775807 - k)) (by go_simp)
    have m2_0b := cell_later hb2 (a := ⟨w1.heap.size, 1, none⟩) (v := .int .i64 0) (by go_simp)
    have m2_1a := cell_later hb2 (a := ⟨w1.heap.size + 1, 0, none⟩) (v := .int .i64 k) (by go_simp)
    have m2_1b := cell_later hb2 (a := ⟨w1.heap.size + 1, 1, none⟩) (v := .int .i64 0) (by go_simp)
    have m2_2a := cell_later hb2 (a := ⟨w1.heap.size + 1 + 1, 0, none⟩) (v := .int .i64 (k + 1)) (by go_simp)
    have m2_2b := cell_later hb2 (a := ⟨w1.heap.size + 1 + 1, 1, none⟩) (v := .int .i64 0) (by go_simp)
    have m2_3a := cell_later hb2 (a := ⟨w1.heap.size + 1 + 1 + 1, 0, none⟩) (v := .int .i64 9223372036854775807) (by go_simp)
    have m2_3b := cell_later hb2 (a := ⟨w1.heap.size + 1 + 1 + 1, 1, none⟩) (v := .int .i64 0) (by go_simp)
    have be2 : Below w.heap.size w w2 := by
      refine Below.trans ?_ (hb2.mono (by have := be1.size; simp; omega))
      repeat (first | with_reducible exact be1 | with_reducible apply Below.drew | with_reducible refine Below.alloc ?_ (by have := be1.size; simp <;> omega) _)
    have n2_0 : w1.heap.size < w2.heap.size := World.block_lt_of_cell? _ _ m2_0a
    have n2_1 : w1.heap.size + 1 < w2.heap.size := World.block_lt_of_cell? _ _ m2_1a
    have n2_2 : w1.heap.size + 1 + 1 < w2.heap.size := World.block_lt_of_cell? _ _ m2_2a
    have n2_3 : w1.heap.size + 1 + 1 + 1 < w2.heap.size := World.block_lt_of_cell? _ _ m2_3a
    clear hb2 h1
    have p2_0 : ∀ k, w1.heap.size < w2.heap.size + k := fun k => Nat.lt_of_lt_of_le n2_0 (Nat.le_add_right _ _)
    have p2_1 : ∀ k, w1.heap.size + 1 < w2.heap.size + k := fun k => Nat.lt_of_lt_of_le n2_1 (Nat.le_add_right _ _)
    have p2_2 : ∀ k, w1.heap.size + 1 + 1 < w2.heap.size + k := fun k => Nat.lt_of_lt_of_le n2_2 (Nat.le_add_right _ _)
    have p2_3 : ∀ k, w1.heap.size + 1 + 1 + 1 < w2.heap.size + k := fun k => Nat.lt_of_lt_of_le n2_3 (Nat.le_add_right _ _)
    have q2 : w1.heap.size + 2 < w2.heap.size := n2_2
    have q3 : w1.heap.size + 3 < w2.heap.size := n2_3
    go_wp2_with fail
    refine (c11 _ _ _ _ _ _ _ lg l0 hb _).mono ?_
    rintro e w3 ⟨rfl, hb3⟩
    have m3_0a := cell_later hb3 (a := ⟨w1.heap.size, 0, none⟩) (v := .int .i64 (9223372036854775807 - k)) (by go_simp)
    have m3_0b := cell_later hb3 (a := ⟨w1.heap.size, 1, none⟩) (v := .int .i64 0) (by go_simp)
    have m3_1a := cell_later hb3 (a := ⟨w1.heap.size + 1, 0, none⟩) (v := .int .i64 k) (by go_simp)
    have m3_1b := cell_later hb3 (a := ⟨w1.heap.size + 1, 1, none⟩) (v := .int .i64 0) (by go_simp)
    have m3_2a := cell_later hb3 (a := ⟨w1.heap.size + 1 + 1, 0, none⟩) (v := .int .i64 (k + 1)) (by go_simp)
    have m3_2b := cell_later hb3 (a := ⟨w1.heap.size + 1 + 1, 1, none⟩) (v := .int .i64 0) (by go_simp)
    have m3_3a := cell_later hb3 (a := ⟨w1.heap.size + 1 + 1 + 1, 0, none⟩) (v := .int .i64 9223372036854775807) (by go_simp)
    have m3_3b := cell_later hb3 (a := ⟨w1.heap.size + 1 + 1 + 1, 1, none⟩) (v := .int .i64 0) (by go_simp)
    have m3_4a := cell_later hb3 (a := ⟨w2.heap.size, 0, none⟩) (v := .int .i64 9223372036854775807) (by go_simp)
    have m3_4b := cell_later hb3 (a := ⟨w2.heap.size, 1, none⟩) (v := .int .i64 0) (by go_simp)
    have be3 : Below w.heap.size w w3 := by
      refine Below.trans ?_ (hb3.mono (by have := be2.size; simp; omega))
      repeat (first | with_reducible exact be2 | with_reducible apply Below.drew | with_reducible refine Below.alloc ?_ (by have := be2.size; simp <;> omega) _)
    have n3_0 : w1.heap.size < w3.heap.size := World.block_lt_of_cell? _ _ m3_0a
    have n3_1 : w1.heap.size + 1 < w3.heap.size := World.block_lt_of_cell? _ _ m3_1a
    have n3_2 : w1.heap.size + 1 + 1 < w3.heap.size := World.block_lt_of_cell? _ _ m3_2a
    have n3_3 : w1.heap.size + 1 + 1 + 1 < w3.heap.size := World.block_lt_of_cell? _ _ m3_3a
    have n3_4 : w2.heap.size < w3.heap.size := World.block_lt_of_cell? _ _ m3_4a
    clear hb3 m2_0a m2_0b n2_0 p2_0 m2_1a m2_1b n2_1 p2_1 m2_2a m2_2b n2_2 p2_2 m2_3a m2_3b n2_3 p2_3 q2 q3
    have p3_0 : ∀ k, w1.heap.size < w3.heap.size + k := fun k => Nat.lt_of_lt_of_le n3_0 (Nat.le_add_right _ _)
    have p3_1 : ∀ k, w1.heap.size + 1 < w3.heap.size + k := fun k => Nat.lt_of_lt_of_le n3_1 (Nat.le_add_right _ _)
    have p3_2 : ∀ k, w1.heap.size + 1 + 1 < w3.heap.size + k := fun k => Nat.lt_of_lt_of_le n3_2 (Nat.le_add_right _ _)
    have p3_3 : ∀ k, w1.heap.size + 1 + 1 + 1 < w3.heap.size + k := fun k => Nat.lt_of_lt_of_le n3_3 (Nat.le_add_right _ _)
    have p3_4 : ∀ k, w2.heap.size < w3.heap.size + k := fun k => Nat.lt_of_lt_of_le n3_4 (Nat.le_add_right _ _)
    have q2 : w1.heap.size + 2 < w3.heap.size := n3_2
    have q3 : w1.heap.size + 3 < w3.heap.size := n3_3
    go_wp2_with fail
    refine (c13 _ _ _ _ _ _ _ lk l0 hc _).mono ?_
    rintro e w4 ⟨rfl, hb4⟩
    have m4_0a := cell_later hb4 (a := ⟨w1.heap.size, 0, none⟩) (v := .int .i64 (9223372036854775807 - k)) (by go_simp)
    have m4_0b := cell_later hb4 (a := ⟨w1.heap.size, 1, none⟩) (v := .int .i64 0) (by go_simp)
    have m4_1a := cell_later hb4 (a := ⟨w1.heap.size + 1, 0, none⟩) (v := .int .i64 k) (by go_simp)
    have m4_1b := cell_later hb4 (a := ⟨w1.heap.size + 1, 1, none⟩) (v := .int .i64 0) (by go_simp)
    have m4_2a := cell_later hb4 (a := ⟨w1.heap.size + 1 + 1, 0, none⟩) (v := .int .i64 (k + 1)) (by go_simp)
    have m4_2b := cell_later hb4 (a := ⟨w1.heap.size + 1 + 1, 1, none⟩) (v := .int .i64 0) (by go_simp)
    have m4_3a := cell_later hb4 (a := ⟨w1.heap.size + 1 + 1 + 1, 0, none⟩) (v := .int .i64 9223372036854775807) (by go_simp)
    have m4_3b := cell_later hb4 (a := ⟨w1.heap.size + 1 + 1 + 1, 1, none⟩) (v := .int .i64 0) (by go_simp)
    have m4_4a := cell_later hb4 (a := ⟨w2.heap.size, 0, none⟩) (v := .int .i64 9223372036854775807) (by go_simp)
    have m4_4b := cell_later hb4 (a := ⟨w2.heap.size, 1, none⟩) (v := .int .i64 0) (by go_simp)
    have m4_5a := cell_later hb4 (a := ⟨w3.heap.size, 0, none⟩) (v := .int .i64 0) (by go_simp)
    have m4_5b := cell_later hb4 (a := ⟨w3.heap.size, 1, none⟩) (v := .int .i64 0) (by go_simp)
    have be4 : Below w.heap.size w w4 := by
      refine Below.trans ?_ (hb4.mono (by have := be3.size; simp; omega))
      repeat (first | with_reducible exact be3 | with_reducible apply Below.drew | with_reducible refine Below.alloc ?_ (by have := be3.size; simp <;> omega) _)
    have n4_0 : w1.heap.size < w4.heap.size := World.block_lt_of_cell? _ _ m4_0a
    have n4_1 : w1.heap.size + 1 < w4.heap.size := World.block_lt_of_cell? _ _ m4_1a
    have n4_2 : w1.heap.size + 1 + 1 < w4.heap.size := World.block_lt_of_cell? _ _ m4_2a
    have n4_3 : w1.heap.size + 1 + 1 + 1 < w4.heap.size := World.block_lt_of_cell? _ _ m4_3a
    have n4_4 : w2.heap.size < w4.heap.size := World.block_lt_of_cell? _ _ m4_4a
    have n4_5 : w3.heap.size < w4.heap.size := World.block_lt_of_cell? _ _ m4_5a
    clear hb4 m3_0a m3_0b n3_0 p3_0 m3_1a m3_1b n3_1 p3_1 m3_2a m3_2b n3_2 p3_2 m3_3a m3_3b n3_3 p3_3 m3_4a m3_4b n3_4 p3_4 q2 q3
    have p4_0 : ∀ k, w1.heap.size < w4.heap.size + k := fun k => Nat.lt_of_lt_of_le n4_0 (Nat.le_add_right _ _)
    have p4_1 : ∀ k, w1.heap.size + 1 < w4.heap.size + k := fun k => Nat.lt_of_lt_of_le n4_1 (Nat.le_add_right _ _)
    have p4_2 : ∀ k, w1.heap.size + 1 + 1 < w4.heap.size + k := fun k => Nat.lt_of_lt_of_le n4_2 (Nat.le_add_right _ _)
    have p4_3 : ∀ k, w1.heap.size + 1 + 1 + 1 < w4.heap.size + k := fun k => Nat.lt_of_lt_of_le n4_3 (Nat.le_add_right _ _)
    have p4_4 : ∀ k, w2.heap.size < w4.heap.size + k := fun k => Nat.lt_of_lt_of_le n4_4 (Nat.le_add_right _ _)
    have p4_5 : ∀ k, w3.heap.size < w4.heap.size + k := fun k => Nat.lt_of_lt_of_le n4_5 (Nat.le_add_right _ _)
    have q2 : w1.heap.size + 2 < w4.heap.size := n4_2
    have q3 : w1.heap.size + 3 < w4.heap.size := n4_3
    clear ha hb hc
    go_wp2
    go_ret
    refine ⟨rfl, ?_⟩
    repeat (first | with_reducible exact be4 | with_reducible apply Below.drew | with_reducible refine Below.alloc ?_ (by have := be4.size; simp <;> omega) _)

set_option maxHeartbeats 800000 in
theorem vecEnds_mem (n k : Int) (h1 : n % 1099511627776 = k) (lg : 9223372036854775807 - k ≤ 9223372036854775807) (lk : k ≤ 9223372036854775807) (l0 : (0 : Int) ≤ 9223372036854775807)
    (ha : addS 0 (9223372036854775807 - k) 0 k = (0, 9223372036854775807, 0)) (hb : addS 0 (9223372036854775807 - k) 0 (k + 1) = (0, 0, 6)) (hc : subS 0 k 0 (k + 1) = (0, 0, 6)) (w : World) :
    Calls Try.prog 5 #[.int .i64 n, .bool true] w fun en w' => en = .returned (.bool true) ∧ Below w.heap.size w w' := by
    have he := eq24
    go_enter Try.func5, Try.ntmps5
    go_wp2_with (first
      | (go_at_call 9; refine (c9 _).mono ?_; rintro e w1 ⟨rfl, be1⟩)
      | (go_at_call 19; refine (c19 _ _ _ (by decide) (by decide) (by assumption) _).mono ?_; rintro e w1 ⟨rfl, rfl⟩))
    refine (c11 _ _ _ _ _ _ _ l0 lg ha _).mono ?_
    rintro e w2 ⟨rfl, hb2⟩
    have m2_0a := cell_later hb2 (a := ⟨w1.heap.size, 0, none⟩) (v := .int .i64 0) (by go_simp)
    have m2_0b := cell_later hb2 (a := ⟨w1.heap.size, 1, none⟩) (v := .int .i64 (9223372036854775807 - k)) (by go_simp)
    have m2_1a := cell_later hb2 (a := ⟨w1.heap.size + 1, 0, none⟩) (v := .int .i64 0) (by go_simp)
    have m2_1b := cell_later hb2 (a := ⟨w1.heap.size + 1, 1, none⟩) (v := .int .i64 k) (by go_simp)
    have m2_2a := cell_later hb2 (a := ⟨w1.heap.size + 1 + 1, 0, none⟩) (v := .int .i64 0) (by go_simp)
    have m2_2b := cell_later hb2 (a := ⟨w1.heap.size + 1 + 1, 1, none⟩) (v := .int .i64 (k + 1)) (by go_simp)
    have m2_3a := cell_later hb2 (a := ⟨w1.heap.size + 1 + 1 + 1, 0, none⟩) (v := .int .i64 0) (by go_simp)
    have m2_3b := cell_later hb2 (a := ⟨w1.heap.size + 1 + 1 + 1, 1, none⟩) (v := .int .i64 9223372036854775807) (by go_simp)
    have be2 : Below w.heap.size w w2 := by
      refine Below.trans ?_ (hb2.mono (by have := be1.size; simp; omega))
      repeat (first | with_reducible exact be1 | with_reducible apply Below.drew | with_reducible refine Below.alloc ?_ (by have := be1.size; simp <;> omega) _)
    have n2_0 : w1.heap.size < w2.heap.size := World.block_lt_of_cell? _ _ m2_0a
    have n2_1 : w1.heap.size + 1 < w2.heap.size := World.block_lt_of_cell? _ _ m2_1a
    have n2_2 : w1.heap.size + 1 + 1 < w2.heap.size := World.block_lt_of_cell? _ _ m2_2a
    have n2_3 : w1.heap.size + 1 + 1 + 1 < w2.heap.size := World.block_lt_of_cell? _ _ m2_3a
    clear hb2 h1
    have p2_0 : ∀ k, w1.heap.size < w2.heap.size + k := fun k => Nat.lt_of_lt_of_le n2_0 (Nat.le_add_right _ _)
    have p2_1 : ∀ k, w1.heap.size + 1 < w2.heap.size + k := fun k => Nat.lt_of_lt_of_le n2_1 (Nat.le_add_right _ _)
    have p2_2 : ∀ k, w1.heap.size + 1 + 1 < w2.heap.size + k := fun k => Nat.lt_of_lt_of_le n2_2 (Nat.le_add_right _ _)
    have p2_3 : ∀ k, w1.heap.size + 1 + 1 + 1 < w2.heap.size + k := fun k => Nat.lt_of_lt_of_le n2_3 (Nat.le_add_right _ _)
    have q2 : w1.heap.size + 2 < w2.heap.size := n2_2
    have q3 : w1.heap.size + 3 < w2.heap.size := n2_3
    go_wp2_with fail
    refine (c11 _ _ _ _ _ _ _ l0 lg hb _).mono ?_
    rintro e w3 ⟨rfl, hb3⟩
    have m3_0a := cell_later hb3 (a := ⟨w1.heap.size, 0, none⟩) (v := .int .i64 0) (by go_simp)
    have m3_0b := cell_later hb3 (a := ⟨w1.heap.size, 1, none⟩) (v := .int .i64 (9223372036854775807 - k)) (by go_simp)
    have m3_1a := cell_later hb3 (a := ⟨w1.heap.size + 1, 0, none⟩) (v := .int .i64 0) (by go_simp)
    have m3_1b := cell_later hb3 (a := ⟨w1.heap.size + 1, 1, none⟩) (v := .int .i64 k) (by go_simp)
    have m3_2a := cell_later hb3 (a := ⟨w1.heap.size + 1 + 1, 0, none⟩) (v := .int .i64 0) (by go_simp)
    have m3_2b := cell_later hb3 (a := ⟨w1.heap.size + 1 + 1, 1, none⟩) (v := .int .i64 (k + 1)) (by go_simp)
    have m3_3a := cell_later hb3 (a := ⟨w1.heap.size + 1 + 1 + 1, 0, none⟩) (v := .int .i64 0) (by go_simp)
    have m3_3b := cell_later hb3 (a := ⟨w1.heap.size + 1 + 1 + 1, 1, none⟩) (v := .int .i64 9223372036854775807) (by go_simp)
    have m3_4a := cell_later hb3 (a := ⟨w2.heap.size, 0, none⟩) (v := .int .i64 0) (by go_simp)
    have m3_4b := cell_later hb3 (a := ⟨w2.heap.size, 1, none⟩) (v := .int .i64 9223372036854775807) (by go_simp)
    have be3 : Below w.heap.size w w3 := by
      refine Below.trans ?_ (hb3.mono (by have := be2.size; simp; omega))
      repeat (first | with_reducible exact be2 | with_reducible apply Below.drew | with_reducible refine Below.alloc ?_ (by have := be2.size; simp <;> omega) _)
    have n3_0 : w1.heap.size < w3.heap.size := World.block_lt_of_cell? _ _ m3_0a
    have n3_1 : w1.heap.size + 1 < w3.heap.size := World.block_lt_of_cell? _ _ m3_1a
    have n3_2 : w1.heap.size + 1 + 1 < w3.heap.size := World.block_lt_of_cell? _ _ m3_2a
    have n3_3 : w1.heap.size + 1 + 1 + 1 < w3.heap.size := World.block_lt_of_cell? _ _ m3_3a
    have n3_4 : w2.heap.size < w3.heap.size := World.block_lt_of_cell? _ _ m3_4a
    clear hb3 m2_0a m2_0b n2_0 p2_0 m2_1a m2_1b n2_1 p2_1 m2_2a m2_2b n2_2 p2_2 m2_3a m2_3b n2_3 p2_3 q2 q3
    have p3_0 : ∀ k, w1.heap.size < w3.heap.size + k := fun k => Nat.lt_of_lt_of_le n3_0 (Nat.le_add_right _ _)
    have p3_1 : ∀ k, w1.heap.size + 1 < w3.heap.size + k := fun k => Nat.lt_of_lt_of_le n3_1 (Nat.le_add_right _ _)
    have p3_2 : ∀ k, w1.heap.size + 1 + 1 < w3.heap.size + k := fun k => Nat.lt_of_lt_of_le n3_2 (Nat.le_add_right _ _)
    have p3_3 : ∀ k, w1.heap.size + 1 + 1 + 1 < w3.heap.size + k := fun k => Nat.lt_of_lt_of_le n3_3 (Nat.le_add_right _ _)
    have p3_4 : ∀ k, w2.heap.size < w3.heap.size + k := fun k => Nat.lt_of_lt_of_le n3_4 (Nat.le_add_right _ _)
    have q2 : w1.heap.size + 2 < w3.heap.size := n3_2
    have q3 : w1.heap.size + 3 < w3.heap.size := n3_3
    go_wp2_with fail
    refine (c13 _ _ _ _ _ _ _ l0 lk hc _).mono ?_
    rintro e w4 ⟨rfl, hb4⟩
    have m4_0a := cell_later hb4 (a := ⟨w1.heap.size, 0, none⟩) (v := .int .i64 0) (by go_simp)
    have m4_0b := cell_later hb4 (a := ⟨w1.heap.size, 1, none⟩) (v := .int .i64 (9223372036854775807 - k)) (by go_simp)
    have m4_1a := cell_later hb4 (a := ⟨w1.heap.size + 1, 0, none⟩) (v := .int .i64 0) (by go_simp)
    have m4_1b := cell_later hb4 (a := ⟨w1.heap.size + 1, 1, none⟩) (v := .int .i64 k) (by go_simp)
    have m4_2a := cell_later hb4 (a := ⟨w1.heap.size + 1 + 1, 0, none⟩) (v := .int .i64 0) (by go_simp)
    have m4_2b := cell_later hb4 (a := ⟨w1.heap.size + 1 + 1, 1, none⟩) (v := .int .i64 (k + 1)) (by go_simp)
    have m4_3a := cell_later hb4 (a := ⟨w1.heap.size + 1 + 1 + 1, 0, none⟩) (v := .int .i64 0) (by go_simp)
    have m4_3b := cell_later hb4 (a := ⟨w1.heap.size + 1 + 1 + 1, 1, none⟩) (v := .int .i64 9223372036854775807) (by go_simp)
    have m4_4a := cell_later hb4 (a := ⟨w2.heap.size, 0, none⟩) (v := .int .i64 0) (by go_simp)
    have m4_4b := cell_later hb4 (a := ⟨w2.heap.size, 1, none⟩) (v := .int .i64 9223372036854775807) (by go_simp)
    have m4_5a := cell_later hb4 (a := ⟨w3.heap.size, 0, none⟩) (v := .int .i64 0) (by go_simp)
    have m4_5b := cell_later hb4 (a := ⟨w3.heap.size, 1, none⟩) (v := .int .i64 0) (by go_simp)
    have be4 : Below w.heap.size w w4 := by
      refine Below.trans ?_ (hb4.mono (by have := be3.size; simp; omega))
      repeat (first | with_reducible exact be3 | with_reducible apply Below.drew | with_reducible refine Below.alloc ?_ (by have := be3.size; simp <;> omega) _)
    have n4_0 : w1.heap.size < w4.heap.size := World.block_lt_of_cell? _ _ m4_0a
    have n4_1 : w1.heap.size + 1 < w4.heap.size := World.block_lt_of_cell? _ _ m4_1a
    have n4_2 : w1.heap.size + 1 + 1 < w4.heap.size := World.block_lt_of_cell? _ _ m4_2a
    have n4_3 : w1.heap.size + 1 + 1 + 1 < w4.heap.size := World.block_lt_of_cell? _ _ m4_3a
    have n4_4 : w2.heap.size < w4.heap.size := World.block_lt_of_cell? _ _ m4_4a
    have n4_5 : w3.heap.size < w4.heap.size := World.block_lt_of_cell? _ _ m4_5a
    clear hb4 m3_0a m3_0b n3_0 p3_0 m3_1a m3_1b n3_1 p3_1 m3_2a m3_2b n3_2 p3_2 m3_3a m3_3b n3_3 p3_3 m3_4a m3_4b n3_4 p3_4 q2 q3
    have p4_0 : ∀ k, w1.heap.size < w4.heap.size + k := fun k => Nat.lt_of_lt_of_le n4_0 (Nat.le_add_right _ _)
    have p4_1 : ∀ k, w1.heap.size + 1 < w4.heap.size + k := fun k => Nat.lt_of_lt_of_le n4_1 (Nat.le_add_right _ _)
    have p4_2 : ∀ k, w1.heap.size + 1 + 1 < w4.heap.size + k := fun k => Nat.lt_of_lt_of_le n4_2 (Nat.le_add_right _ _)
    have p4_3 : ∀ k, w1.heap.size + 1 + 1 + 1 < w4.heap.size + k := fun k => Nat.lt_of_lt_of_le n4_3 (Nat.le_add_right _ _)
    have p4_4 : ∀ k, w2.heap.size < w4.heap.size + k := fun k => Nat.lt_of_lt_of_le n4_4 (Nat.le_add_right _ _)
    have p4_5 : ∀ k, w3.heap.size < w4.heap.size + k := fun k => Nat.lt_of_lt_of_le n4_5 (Nat.le_add_right _ _)
    have q2 : w1.heap.size + 2 < w4.heap.size := n4_2
    have q3 : w1.heap.size + 3 < w4.heap.size := n4_3
    clear ha hb hc
    go_wp2
    go_ret
    refine ⟨rfl, ?_⟩
    repeat (first | with_reducible exact be4 | with_reducible apply Below.drew | with_reducible refine Below.alloc ?_ (by have := be4.size; simp <;> omega) _)

theorem vecEnds_walk (a0 : Int) (a1 : Bool) (_w0 : (Lit.int .i64 a0).wf = true) (w : World) :
    Calls Try.prog 5 #[.int .i64 a0, .bool a1] w fun e w' => e = .returned (.bool true) ∧ Below w.heap.size w w' := by
  cases a1
  · refine vecEnds_cpu a0 _ rfl (by omega) (by omega) (by omega) ?_ ?_ ?_ w
    · unfold addS
      rw [if_pos (by omega), if_pos (by omega), Int.sub_add_cancel, Int.add_zero]
    · unfold addS
      rw [if_pos (by omega), if_neg (by omega)]
    · unfold subS
      rw [if_pos (by omega), if_neg (by omega)]
  · refine vecEnds_mem a0 _ rfl (by omega) (by omega) (by omega) ?_ ?_ ?_ w
    · unfold addS
      rw [if_pos (by omega), if_pos (by omega), Int.sub_add_cancel, Int.add_zero]
    · unfold addS
      rw [if_pos (by omega), if_neg (by omega)]
    · unfold subS
      rw [if_pos (by omega), if_neg (by omega)]

end Go.Proofs.Ytpeficmlgiilcaa
