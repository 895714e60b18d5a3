/- The walk of VecNothing: it returns true. -/
import Derived.Test.YtpeficmlgiilcabF
namespace Go.Proofs.Ytpeficmlgiilcab
open Go.RowKit

/-- What the second text of Right answers of numbers that are not below 0. -/
theorem cRef (x y : Int) (h0 : 0 ≤ x) (h1 : 0 ≤ y) (w : World) :
    Calls Try.prog 12 #[.agg #[.int .i64 x, .int .i64 y]] w fun e w' => e = .returned (.bool true) ∧ w' = w.alloc (V x y) := by
  go_enter Try.func12, Try.ntmps12
  go_wp2
  go_ret
  exact ⟨rfl, rfl⟩

set_option maxHeartbeats 800000 in
theorem vecNothing_way (a b ea eb x y : Int)
    (h1 : edgeS a = ea) (h2 : edgeS b = eb) (m1 : (if ea < 0 then 0 else ea) = x) (m2 : (if eb < 0 then 0 else eb) = y)
    (z0 : 0 ≤ x) (z1 : 0 ≤ y) (lx : x ≤ 9223372036854775807) (ly : y ≤ 9223372036854775807)
    (ha : addS x y 0 0 = (x, y, 0)) (hb : subS x y 0 0 = (x, y, 0)) (hc : subS x y x y = (0, 0, 0))
    (f1 : decide (0 ≤ x ∧ 0 ≤ y) = true) (w : World) :
    Calls Try.prog 4 #[.int .i64 a, .int .i64 b] w fun en w' => en = .returned (.bool true) ∧ Below w.heap.size w w' := by
    have he := eq24
    go_enter Try.func4, Try.ntmps4
    go_wp2_with (first
      | (go_at_call 5; refine (c9 _).mono ?_; rintro e w0 ⟨rfl, be0⟩)
      | (go_at_call_of 8 (Value.int IntKind.i64 a); refine (c10 _ _ h1 _).mono ?_; rintro e wa ⟨rfl, bea⟩)
      | (go_at_call_of 8 (Value.int IntKind.i64 b); refine (c10 _ _ h2 _).mono ?_; rintro e w1 ⟨rfl, beb⟩))
    have be1 : Below w.heap.size w w1 := (be0.trans (bea.mono be0.size)).trans (beb.mono (Nat.le_trans be0.size bea.size))
    clear be0 bea beb h1 h2 m1 m2
    refine (c11 _ _ _ _ _ _ _ lx ly ha _).mono ?_
    rintro e w2 ⟨rfl, hb2⟩
    have m2_0a := cell_later hb2 (a := ⟨w1.heap.size, 0, none⟩) (v := .int .i64 x) (by go_simp)
    have m2_0b := cell_later hb2 (a := ⟨w1.heap.size, 1, none⟩) (v := .int .i64 y) (by go_simp)
    have be2 : Below w.heap.size w w2 := by
      refine Below.trans ?_ (hb2.mono (by have := be1.size; simp; omega))
      repeat (first | with_reducible exact be1 | with_reducible apply Below.drew | with_reducible refine Below.alloc ?_ (by have := be1.size; simp <;> omega) _)
    have n2_0 : w1.heap.size < w2.heap.size := World.block_lt_of_cell? _ _ m2_0a
    clear hb2
    have p2_0 : ∀ k, w1.heap.size < w2.heap.size + k := fun k => Nat.lt_of_lt_of_le n2_0 (Nat.le_add_right _ _)
    go_wp2_with fail
    refine (c13 _ _ _ _ _ _ _ lx ly hb _).mono ?_
    rintro e w3 ⟨rfl, hb3⟩
    have m3_0a := cell_later hb3 (a := ⟨w1.heap.size, 0, none⟩) (v := .int .i64 x) (by go_simp)
    have m3_0b := cell_later hb3 (a := ⟨w1.heap.size, 1, none⟩) (v := .int .i64 y) (by go_simp)
    have m3_1a := cell_later hb3 (a := ⟨w2.heap.size, 0, none⟩) (v := .int .i64 x) (by go_simp)
    have m3_1b := cell_later hb3 (a := ⟨w2.heap.size, 1, none⟩) (v := .int .i64 y) (by go_simp)
    have be3 : Below w.heap.size w w3 := by
      refine Below.trans ?_ (hb3.mono (by have := be2.size; simp; omega))
      repeat (first | with_reducible exact be2 | with_reducible apply Below.drew | with_reducible refine Below.alloc ?_ (by have := be2.size; simp <;> omega) _)
    have n3_0 : w1.heap.size < w3.heap.size := World.block_lt_of_cell? _ _ m3_0a
    have n3_1 : w2.heap.size < w3.heap.size := World.block_lt_of_cell? _ _ m3_1a
    clear hb3 m2_0a m2_0b n2_0 p2_0
    have p3_0 : ∀ k, w1.heap.size < w3.heap.size + k := fun k => Nat.lt_of_lt_of_le n3_0 (Nat.le_add_right _ _)
    have p3_1 : ∀ k, w2.heap.size < w3.heap.size + k := fun k => Nat.lt_of_lt_of_le n3_1 (Nat.le_add_right _ _)
    go_wp2_with fail
    refine (c13 _ _ _ _ _ _ _ lx ly hc _).mono ?_
    rintro e w4 ⟨rfl, hb4⟩
    have m4_0a := cell_later hb4 (a := ⟨w1.heap.size, 0, none⟩) (v := .int .i64 x) (by go_simp)
    have m4_0b := cell_later hb4 (a := ⟨w1.heap.size, 1, none⟩) (v := .int .i64 y) (by go_simp)
    have m4_1a := cell_later hb4 (a := ⟨w2.heap.size, 0, none⟩) (v := .int .i64 x) (by go_simp)
    have m4_1b := cell_later hb4 (a := ⟨w2.heap.size, 1, none⟩) (v := .int .i64 y) (by go_simp)
    have m4_2a := cell_later hb4 (a := ⟨w3.heap.size, 0, none⟩) (v := .int .i64 x) (by go_simp)
    have m4_2b := cell_later hb4 (a := ⟨w3.heap.size, 1, none⟩) (v := .int .i64 y) (by go_simp)
    have be4 : Below w.heap.size w w4 := by
      refine Below.trans ?_ (hb4.mono (by have := be3.size; simp; omega))
      repeat (first | with_reducible exact be3 | with_reducible apply Below.drew | with_reducible refine Below.alloc ?_ (by have := be3.size; simp <;> omega) _)
    have n4_0 : w1.heap.size < w4.heap.size := World.block_lt_of_cell? _ _ m4_0a
    have n4_1 : w2.heap.size < w4.heap.size := World.block_lt_of_cell? _ _ m4_1a
    have n4_2 : w3.heap.size < w4.heap.size := World.block_lt_of_cell? _ _ m4_2a
    clear hb4 m3_0a m3_0b n3_0 p3_0 m3_1a m3_1b n3_1 p3_1
    have p4_0 : ∀ k, w1.heap.size < w4.heap.size + k := fun k => Nat.lt_of_lt_of_le n4_0 (Nat.le_add_right _ _)
    have p4_1 : ∀ k, w2.heap.size < w4.heap.size + k := fun k => Nat.lt_of_lt_of_le n4_1 (Nat.le_add_right _ _)
    have p4_2 : ∀ k, w3.heap.size < w4.heap.size + k := fun k => Nat.lt_of_lt_of_le n4_2 (Nat.le_add_right _ _)
    clear ha hb hc
    go_wp2_with (first
      | (go_at_call 10; refine (c15 _ _ _ _ _ f1 _).mono ?_; rintro e w5 ⟨rfl, rfl⟩)
      | (go_at_call 11; refine (c17 _ _ _ f1 _).mono ?_; rintro e w6 ⟨rfl, rfl⟩)
      | (go_at_call 12; refine (cRef _ _ z0 z1 _).mono ?_; rintro e w7 ⟨rfl, rfl⟩))
    go_ret
    refine ⟨rfl, ?_⟩
    repeat (first | with_reducible exact be4 | with_reducible apply Below.drew | with_reducible refine Below.alloc ?_ (by have := be4.size; simp <;> omega) _)

theorem vecNothing_walk (a0 a1 : Int) (_w0 : (Lit.int .i64 a0).wf = true) (_w1 : (Lit.int .i64 a1).wf = true) (w : World) :
    Calls Try.prog 4 #[.int .i64 a0, .int .i64 a1] w fun e w' => e = .returned (.bool true) ∧ Below w.heap.size w w' := by
  have k1 := edgeS_le a0
  have k2 := edgeS_le a1
  obtain ⟨x, hx⟩ : ∃ x, (if edgeS a0 < 0 then 0 else edgeS a0) = x := ⟨_, rfl⟩
  obtain ⟨y, hy⟩ : ∃ x, (if edgeS a1 < 0 then 0 else edgeS a1) = x := ⟨_, rfl⟩
  have bx : 0 ≤ x ∧ x ≤ 9223372036854775807 := by omega
  have by' : 0 ≤ y ∧ y ≤ 9223372036854775807 := by omega
  refine vecNothing_way a0 a1 _ _ x y rfl rfl hx hy bx.1 by'.1 bx.2 by'.2 ?_ ?_ ?_ (by simp; omega) w
  · unfold addS
    rw [if_pos (by omega), if_pos (by omega), Int.add_zero, Int.add_zero]
  · unfold subS
    rw [if_pos (by omega), if_pos (by omega), Int.sub_zero, Int.sub_zero]
  · unfold subS
    rw [if_pos (by omega), if_pos (by omega), Int.sub_self, Int.sub_self]

end Go.Proofs.Ytpeficmlgiilcab
