/- The walk of VecThree: it returns true. -/
import Derived.Test.YtpeficmlgiilcaaF
namespace Go.Proofs.Ytpeficmlgiilcaa
open Go.RowKit

set_option maxHeartbeats 1600000 in
theorem vecThree_way (a b c ea eb ec x y z s0 s1 t0 t1 u0 u1 v0 v1 e f g h : Int)
    (h1 : edgeS a = ea) (h2 : edgeS b = eb) (h3 : edgeS c = ec)
    (m1 : (if ea < 0 then 0 else ea) = x) (m2 : (if eb < 0 then 0 else eb) = y) (m3 : (if ec < 0 then 0 else ec) = z)
    (lx : x ≤ 9223372036854775807) (ly : y ≤ 9223372036854775807) (l1 : (1 : Int) ≤ 9223372036854775807) (l2 : (2 : Int) ≤ 9223372036854775807) (ls0 : s0 ≤ 9223372036854775807) (ls1 : s1 ≤ 9223372036854775807)
    (ha : addS x 1 y 2 = (s0, s1, e)) (hb : addS y 2 z 3 = (t0, t1, f)) (hc : addS s0 s1 z 3 = (u0, u1, g)) (hd : addS x 1 t0 t1 = (v0, v1, h))
    (ok : (e = 6 ∧ s0 = 0 ∧ s1 = 0 ∧ f = 0) ∨ (e = 6 ∧ s0 = 0 ∧ s1 = 0 ∧ f = 6 ∧ t0 = 0 ∧ t1 = 0) ∨ (e = 0 ∧ f = 6 ∧ t0 = 0 ∧ t1 = 0) ∨ (e = 0 ∧ f = 0 ∧ g = 0 ∧ h = 0 ∧ v0 = u0 ∧ v1 = u1) ∨ (e = 0 ∧ f = 0 ∧ g = 6 ∧ h = 6 ∧ v0 = u0 ∧ v1 = u1)) (w : World) :
    Calls Try.prog 8 #[.int .i64 a, .int .i64 b, .int .i64 c] w fun en w' => en = .returned (.bool true) ∧ Below w.heap.size w w' := by
  rcases ok with ⟨rfl, rfl, rfl, rfl⟩ | ⟨rfl, rfl, rfl, rfl, rfl, rfl⟩ | ⟨rfl, rfl, rfl, rfl⟩ | ⟨rfl, rfl, rfl, rfl, rfl, rfl⟩ | ⟨rfl, rfl, rfl, rfl, rfl, rfl⟩
  · have he := eq24
    go_enter Try.func8, Try.ntmps8
    go_wp2_with (first
      | (go_at_call 9; refine (c9 _).mono ?_; rintro e w0 ⟨rfl, be0⟩)
      | (go_at_call_of 10 (Value.int IntKind.i64 a); refine (c10 _ _ h1 _).mono ?_; rintro e wa ⟨rfl, bea⟩)
      | (go_at_call_of 10 (Value.int IntKind.i64 b); refine (c10 _ _ h2 _).mono ?_; rintro e wb ⟨rfl, beb⟩)
      | (go_at_call_of 10 (Value.int IntKind.i64 c); refine (c10 _ _ h3 _).mono ?_; rintro e w1 ⟨rfl, bec⟩))
    have be1 : Below w.heap.size w w1 := ((be0.trans (bea.mono be0.size)).trans (beb.mono (Nat.le_trans be0.size bea.size))).trans (bec.mono (Nat.le_trans be0.size (Nat.le_trans bea.size beb.size)))
    clear be0 bea beb bec h1 h2 h3 m1 m2 m3
    refine (c11 _ _ _ _ _ _ _ lx l1 ha _).mono ?_
    rintro e w2 ⟨rfl, hb2⟩
    have m2_0a := cell_later hb2 (a := ⟨w1.heap.size, 0, none⟩) (v := .int .i64 x) (by go_simp)
    have m2_0b := cell_later hb2 (a := ⟨w1.heap.size, 1, none⟩) (v := .int .i64 1) (by go_simp)
    have m2_1a := cell_later hb2 (a := ⟨w1.heap.size + 1, 0, none⟩) (v := .int .i64 y) (by go_simp)
    have m2_1b := cell_later hb2 (a := ⟨w1.heap.size + 1, 1, none⟩) (v := .int .i64 2) (by go_simp)
    have m2_2a := cell_later hb2 (a := ⟨w1.heap.size + 1 + 1, 0, none⟩) (v := .int .i64 z) (by go_simp)
    have m2_2b := cell_later hb2 (a := ⟨w1.heap.size + 1 + 1, 1, none⟩) (v := .int .i64 3) (by go_simp)
    have be2 : Below w.heap.size w w2 := by
      refine Below.trans ?_ (hb2.mono (by have := be1.size; simp; omega))
      repeat (first | with_reducible exact be1 | with_reducible apply Below.drew | with_reducible refine Below.alloc ?_ (by have := be1.size; simp <;> omega) _)
    have n2_0 : w1.heap.size < w2.heap.size := World.block_lt_of_cell? _ _ m2_0a
    have n2_1 : w1.heap.size + 1 < w2.heap.size := World.block_lt_of_cell? _ _ m2_1a
    have n2_2 : w1.heap.size + 1 + 1 < w2.heap.size := World.block_lt_of_cell? _ _ m2_2a
    clear hb2
    have p2_0 : ∀ k, w1.heap.size < w2.heap.size + k := fun k => Nat.lt_of_lt_of_le n2_0 (Nat.le_add_right _ _)
    have p2_1 : ∀ k, w1.heap.size + 1 < w2.heap.size + k := fun k => Nat.lt_of_lt_of_le n2_1 (Nat.le_add_right _ _)
    have p2_2 : ∀ k, w1.heap.size + 1 + 1 < w2.heap.size + k := fun k => Nat.lt_of_lt_of_le n2_2 (Nat.le_add_right _ _)
    have q2 : w1.heap.size + 2 < w2.heap.size := n2_2
    go_wp2_with fail
    refine (c11 _ _ _ _ _ _ _ ly l2 hb _).mono ?_
    rintro e w3 ⟨rfl, hb3⟩
    have m3_0a := cell_later hb3 (a := ⟨w1.heap.size, 0, none⟩) (v := .int .i64 x) (by go_simp)
    have m3_0b := cell_later hb3 (a := ⟨w1.heap.size, 1, none⟩) (v := .int .i64 1) (by go_simp)
    have m3_1a := cell_later hb3 (a := ⟨w1.heap.size + 1, 0, none⟩) (v := .int .i64 y) (by go_simp)
    have m3_1b := cell_later hb3 (a := ⟨w1.heap.size + 1, 1, none⟩) (v := .int .i64 2) (by go_simp)
    have m3_2a := cell_later hb3 (a := ⟨w1.heap.size + 1 + 1, 0, none⟩) (v := .int .i64 z) (by go_simp)
    have m3_2b := cell_later hb3 (a := ⟨w1.heap.size + 1 + 1, 1, none⟩) (v := .int .i64 3) (by go_simp)
    have m3_3a := cell_later hb3 (a := ⟨w2.heap.size, 0, none⟩) (v := .int .i64 0) (by go_simp)
    have m3_3b := cell_later hb3 (a := ⟨w2.heap.size, 1, none⟩) (v := .int .i64 0) (by go_simp)
    have be3 : Below w.heap.size w w3 := by
      refine Below.trans ?_ (hb3.mono (by have := be2.size; simp; omega))
      repeat (first | with_reducible exact be2 | with_reducible apply Below.drew | with_reducible refine Below.alloc ?_ (by have := be2.size; simp <;> omega) _)
    have n3_0 : w1.heap.size < w3.heap.size := World.block_lt_of_cell? _ _ m3_0a
    have n3_1 : w1.heap.size + 1 < w3.heap.size := World.block_lt_of_cell? _ _ m3_1a
    have n3_2 : w1.heap.size + 1 + 1 < w3.heap.size := World.block_lt_of_cell? _ _ m3_2a
    have n3_3 : w2.heap.size < w3.heap.size := World.block_lt_of_cell? _ _ m3_3a
    clear hb3 m2_0a m2_0b n2_0 p2_0 m2_1a m2_1b n2_1 p2_1 m2_2a m2_2b n2_2 p2_2 q2
    have p3_0 : ∀ k, w1.heap.size < w3.heap.size + k := fun k => Nat.lt_of_lt_of_le n3_0 (Nat.le_add_right _ _)
    have p3_1 : ∀ k, w1.heap.size + 1 < w3.heap.size + k := fun k => Nat.lt_of_lt_of_le n3_1 (Nat.le_add_right _ _)
    have p3_2 : ∀ k, w1.heap.size + 1 + 1 < w3.heap.size + k := fun k => Nat.lt_of_lt_of_le n3_2 (Nat.le_add_right _ _)
    have p3_3 : ∀ k, w2.heap.size < w3.heap.size + k := fun k => Nat.lt_of_lt_of_le n3_3 (Nat.le_add_right _ _)
    have q3 : w1.heap.size + 2 < w3.heap.size := n3_2
    go_wp2_with fail
    refine (c11 _ _ _ _ _ _ _ ls0 ls1 hc _).mono ?_
    rintro e w4 ⟨rfl, hb4⟩
    have m4_0a := cell_later hb4 (a := ⟨w1.heap.size, 0, none⟩) (v := .int .i64 x) (by go_simp)
    have m4_0b := cell_later hb4 (a := ⟨w1.heap.size, 1, none⟩) (v := .int .i64 1) (by go_simp)
    have m4_1a := cell_later hb4 (a := ⟨w1.heap.size + 1, 0, none⟩) (v := .int .i64 y) (by go_simp)
    have m4_1b := cell_later hb4 (a := ⟨w1.heap.size + 1, 1, none⟩) (v := .int .i64 2) (by go_simp)
    have m4_2a := cell_later hb4 (a := ⟨w1.heap.size + 1 + 1, 0, none⟩) (v := .int .i64 z) (by go_simp)
    have m4_2b := cell_later hb4 (a := ⟨w1.heap.size + 1 + 1, 1, none⟩) (v := .int .i64 3) (by go_simp)
    have m4_3a := cell_later hb4 (a := ⟨w2.heap.size, 0, none⟩) (v := .int .i64 0) (by go_simp)
    have m4_3b := cell_later hb4 (a := ⟨w2.heap.size, 1, none⟩) (v := .int .i64 0) (by go_simp)
    have m4_4a := cell_later hb4 (a := ⟨w3.heap.size, 0, none⟩) (v := .int .i64 t0) (by go_simp)
    have m4_4b := cell_later hb4 (a := ⟨w3.heap.size, 1, none⟩) (v := .int .i64 t1) (by go_simp)
    have be4 : Below w.heap.size w w4 := by
      refine Below.trans ?_ (hb4.mono (by have := be3.size; simp; omega))
      repeat (first | with_reducible exact be3 | with_reducible apply Below.drew | with_reducible refine Below.alloc ?_ (by have := be3.size; simp <;> omega) _)
    have n4_0 : w1.heap.size < w4.heap.size := World.block_lt_of_cell? _ _ m4_0a
    have n4_1 : w1.heap.size + 1 < w4.heap.size := World.block_lt_of_cell? _ _ m4_1a
    have n4_2 : w1.heap.size + 1 + 1 < w4.heap.size := World.block_lt_of_cell? _ _ m4_2a
    have n4_3 : w2.heap.size < w4.heap.size := World.block_lt_of_cell? _ _ m4_3a
    have n4_4 : w3.heap.size < w4.heap.size := World.block_lt_of_cell? _ _ m4_4a
    clear hb4 m3_0a m3_0b n3_0 p3_0 m3_1a m3_1b n3_1 p3_1 m3_2a m3_2b n3_2 p3_2 m3_3a m3_3b n3_3 p3_3 q3
    have p4_0 : ∀ k, w1.heap.size < w4.heap.size + k := fun k => Nat.lt_of_lt_of_le n4_0 (Nat.le_add_right _ _)
    have p4_1 : ∀ k, w1.heap.size + 1 < w4.heap.size + k := fun k => Nat.lt_of_lt_of_le n4_1 (Nat.le_add_right _ _)
    have p4_2 : ∀ k, w1.heap.size + 1 + 1 < w4.heap.size + k := fun k => Nat.lt_of_lt_of_le n4_2 (Nat.le_add_right _ _)
    have p4_3 : ∀ k, w2.heap.size < w4.heap.size + k := fun k => Nat.lt_of_lt_of_le n4_3 (Nat.le_add_right _ _)
    have p4_4 : ∀ k, w3.heap.size < w4.heap.size + k := fun k => Nat.lt_of_lt_of_le n4_4 (Nat.le_add_right _ _)
    have q4 : w1.heap.size + 2 < w4.heap.size := n4_2
    go_wp2_with fail
    refine (c11 _ _ _ _ _ _ _ lx l1 hd _).mono ?_
    rintro e w5 ⟨rfl, hb5⟩
    have m5_0a := cell_later hb5 (a := ⟨w1.heap.size, 0, none⟩) (v := .int .i64 x) (by go_simp)
    have m5_0b := cell_later hb5 (a := ⟨w1.heap.size, 1, none⟩) (v := .int .i64 1) (by go_simp)
    have m5_1a := cell_later hb5 (a := ⟨w1.heap.size + 1, 0, none⟩) (v := .int .i64 y) (by go_simp)
    have m5_1b := cell_later hb5 (a := ⟨w1.heap.size + 1, 1, none⟩) (v := .int .i64 2) (by go_simp)
    have m5_2a := cell_later hb5 (a := ⟨w1.heap.size + 1 + 1, 0, none⟩) (v := .int .i64 z) (by go_simp)
    have m5_2b := cell_later hb5 (a := ⟨w1.heap.size + 1 + 1, 1, none⟩) (v := .int .i64 3) (by go_simp)
    have m5_3a := cell_later hb5 (a := ⟨w2.heap.size, 0, none⟩) (v := .int .i64 0) (by go_simp)
    have m5_3b := cell_later hb5 (a := ⟨w2.heap.size, 1, none⟩) (v := .int .i64 0) (by go_simp)
    have m5_4a := cell_later hb5 (a := ⟨w3.heap.size, 0, none⟩) (v := .int .i64 t0) (by go_simp)
    have m5_4b := cell_later hb5 (a := ⟨w3.heap.size, 1, none⟩) (v := .int .i64 t1) (by go_simp)
    have m5_5a := cell_later hb5 (a := ⟨w4.heap.size, 0, none⟩) (v := .int .i64 u0) (by go_simp)
    have m5_5b := cell_later hb5 (a := ⟨w4.heap.size, 1, none⟩) (v := .int .i64 u1) (by go_simp)
    have be5 : Below w.heap.size w w5 := by
      refine Below.trans ?_ (hb5.mono (by have := be4.size; simp; omega))
      repeat (first | with_reducible exact be4 | with_reducible apply Below.drew | with_reducible refine Below.alloc ?_ (by have := be4.size; simp <;> omega) _)
    have n5_0 : w1.heap.size < w5.heap.size := World.block_lt_of_cell? _ _ m5_0a
    have n5_1 : w1.heap.size + 1 < w5.heap.size := World.block_lt_of_cell? _ _ m5_1a
    have n5_2 : w1.heap.size + 1 + 1 < w5.heap.size := World.block_lt_of_cell? _ _ m5_2a
    have n5_3 : w2.heap.size < w5.heap.size := World.block_lt_of_cell? _ _ m5_3a
    have n5_4 : w3.heap.size < w5.heap.size := World.block_lt_of_cell? _ _ m5_4a
    have n5_5 : w4.heap.size < w5.heap.size := World.block_lt_of_cell? _ _ m5_5a
    clear hb5 m4_0a m4_0b n4_0 p4_0 m4_1a m4_1b n4_1 p4_1 m4_2a m4_2b n4_2 p4_2 m4_3a m4_3b n4_3 p4_3 m4_4a m4_4b n4_4 p4_4 q4
    have p5_0 : ∀ k, w1.heap.size < w5.heap.size + k := fun k => Nat.lt_of_lt_of_le n5_0 (Nat.le_add_right _ _)
    have p5_1 : ∀ k, w1.heap.size + 1 < w5.heap.size + k := fun k => Nat.lt_of_lt_of_le n5_1 (Nat.le_add_right _ _)
    have p5_2 : ∀ k, w1.heap.size + 1 + 1 < w5.heap.size + k := fun k => Nat.lt_of_lt_of_le n5_2 (Nat.le_add_right _ _)
    have p5_3 : ∀ k, w2.heap.size < w5.heap.size + k := fun k => Nat.lt_of_lt_of_le n5_3 (Nat.le_add_right _ _)
    have p5_4 : ∀ k, w3.heap.size < w5.heap.size + k := fun k => Nat.lt_of_lt_of_le n5_4 (Nat.le_add_right _ _)
    have p5_5 : ∀ k, w4.heap.size < w5.heap.size + k := fun k => Nat.lt_of_lt_of_le n5_5 (Nat.le_add_right _ _)
    have q5 : w1.heap.size + 2 < w5.heap.size := n5_2
    clear ha hb hc hd
    go_wp2
    go_ret
    refine ⟨rfl, ?_⟩
    repeat (first | with_reducible exact be5 | with_reducible apply Below.drew | with_reducible refine Below.alloc ?_ (by have := be5.size; simp <;> omega) _)
  · have he := eq24
    go_enter Try.func8, Try.ntmps8
    go_wp2_with (first
      | (go_at_call 9; refine (c9 _).mono ?_; rintro e w0 ⟨rfl, be0⟩)
      | (go_at_call_of 10 (Value.int IntKind.i64 a); refine (c10 _ _ h1 _).mono ?_; rintro e wa ⟨rfl, bea⟩)
      | (go_at_call_of 10 (Value.int IntKind.i64 b); refine (c10 _ _ h2 _).mono ?_; rintro e wb ⟨rfl, beb⟩)
      | (go_at_call_of 10 (Value.int IntKind.i64 c); refine (c10 _ _ h3 _).mono ?_; rintro e w1 ⟨rfl, bec⟩))
    have be1 : Below w.heap.size w w1 := ((be0.trans (bea.mono be0.size)).trans (beb.mono (Nat.le_trans be0.size bea.size))).trans (bec.mono (Nat.le_trans be0.size (Nat.le_trans bea.size beb.size)))
    clear be0 bea beb bec h1 h2 h3 m1 m2 m3
    refine (c11 _ _ _ _ _ _ _ lx l1 ha _).mono ?_
    rintro e w2 ⟨rfl, hb2⟩
    have m2_0a := cell_later hb2 (a := ⟨w1.heap.size, 0, none⟩) (v := .int .i64 x) (by go_simp)
    have m2_0b := cell_later hb2 (a := ⟨w1.heap.size, 1, none⟩) (v := .int .i64 1) (by go_simp)
    have m2_1a := cell_later hb2 (a := ⟨w1.heap.size + 1, 0, none⟩) (v := .int .i64 y) (by go_simp)
    have m2_1b := cell_later hb2 (a := ⟨w1.heap.size + 1, 1, none⟩) (v := .int .i64 2) (by go_simp)
    have m2_2a := cell_later hb2 (a := ⟨w1.heap.size + 1 + 1, 0, none⟩) (v := .int .i64 z) (by go_simp)
    have m2_2b := cell_later hb2 (a := ⟨w1.heap.size + 1 + 1, 1, none⟩) (v := .int .i64 3) (by go_simp)
    have be2 : Below w.heap.size w w2 := by
      refine Below.trans ?_ (hb2.mono (by have := be1.size; simp; omega))
      repeat (first | with_reducible exact be1 | with_reducible apply Below.drew | with_reducible refine Below.alloc ?_ (by have := be1.size; simp <;> omega) _)
    have n2_0 : w1.heap.size < w2.heap.size := World.block_lt_of_cell? _ _ m2_0a
    have n2_1 : w1.heap.size + 1 < w2.heap.size := World.block_lt_of_cell? _ _ m2_1a
    have n2_2 : w1.heap.size + 1 + 1 < w2.heap.size := World.block_lt_of_cell? _ _ m2_2a
    clear hb2
    have p2_0 : ∀ k, w1.heap.size < w2.heap.size + k := fun k => Nat.lt_of_lt_of_le n2_0 (Nat.le_add_right _ _)
    have p2_1 : ∀ k, w1.heap.size + 1 < w2.heap.size + k := fun k => Nat.lt_of_lt_of_le n2_1 (Nat.le_add_right _ _)
    have p2_2 : ∀ k, w1.heap.size + 1 + 1 < w2.heap.size + k := fun k => Nat.lt_of_lt_of_le n2_2 (Nat.le_add_right _ _)
    have q2 : w1.heap.size + 2 < w2.heap.size := n2_2
    go_wp2_with fail
    refine (c11 _ _ _ _ _ _ _ ly l2 hb _).mono ?_
    rintro e w3 ⟨rfl, hb3⟩
    have m3_0a := cell_later hb3 (a := ⟨w1.heap.size, 0, none⟩) (v := .int .i64 x) (by go_simp)
    have m3_0b := cell_later hb3 (a := ⟨w1.heap.size, 1, none⟩) (v := .int .i64 1) (by go_simp)
    have m3_1a := cell_later hb3 (a := ⟨w1.heap.size + 1, 0, none⟩) (v := .int .i64 y) (by go_simp)
    have m3_1b := cell_later hb3 (a := ⟨w1.heap.size + 1, 1, none⟩) (v := .int .i64 2) (by go_simp)
    have m3_2a := cell_later hb3 (a := ⟨w1.heap.size + 1 + 1, 0, none⟩) (v := .int .i64 z) (by go_simp)
    have m3_2b := cell_later hb3 (a := ⟨w1.heap.size + 1 + 1, 1, none⟩) (v := .int .i64 3) (by go_simp)
    have m3_3a := cell_later hb3 (a := ⟨w2.heap.size, 0, none⟩) (v := .int .i64 0) (by go_simp)
    have m3_3b := cell_later hb3 (a := ⟨w2.heap.size, 1, none⟩) (v := .int .i64 0) (by go_simp)
    have be3 : Below w.heap.size w w3 := by
      refine Below.trans ?_ (hb3.mono (by have := be2.size; simp; omega))
      repeat (first | with_reducible exact be2 | with_reducible apply Below.drew | with_reducible refine Below.alloc ?_ (by have := be2.size; simp <;> omega) _)
    have n3_0 : w1.heap.size < w3.heap.size := World.block_lt_of_cell? _ _ m3_0a
    have n3_1 : w1.heap.size + 1 < w3.heap.size := World.block_lt_of_cell? _ _ m3_1a
    have n3_2 : w1.heap.size + 1 + 1 < w3.heap.size := World.block_lt_of_cell? _ _ m3_2a
    have n3_3 : w2.heap.size < w3.heap.size := World.block_lt_of_cell? _ _ m3_3a
    clear hb3 m2_0a m2_0b n2_0 p2_0 m2_1a m2_1b n2_1 p2_1 m2_2a m2_2b n2_2 p2_2 q2
    have p3_0 : ∀ k, w1.heap.size < w3.heap.size + k := fun k => Nat.lt_of_lt_of_le n3_0 (Nat.le_add_right _ _)
    have p3_1 : ∀ k, w1.heap.size + 1 < w3.heap.size + k := fun k => Nat.lt_of_lt_of_le n3_1 (Nat.le_add_right _ _)
    have p3_2 : ∀ k, w1.heap.size + 1 + 1 < w3.heap.size + k := fun k => Nat.lt_of_lt_of_le n3_2 (Nat.le_add_right _ _)
    have p3_3 : ∀ k, w2.heap.size < w3.heap.size + k := fun k => Nat.lt_of_lt_of_le n3_3 (Nat.le_add_right _ _)
    have q3 : w1.heap.size + 2 < w3.heap.size := n3_2
    go_wp2_with fail
    refine (c11 _ _ _ _ _ _ _ ls0 ls1 hc _).mono ?_
    rintro e w4 ⟨rfl, hb4⟩
    have m4_0a := cell_later hb4 (a := ⟨w1.heap.size, 0, none⟩) (v := .int .i64 x) (by go_simp)
    have m4_0b := cell_later hb4 (a := ⟨w1.heap.size, 1, none⟩) (v := .int .i64 1) (by go_simp)
    have m4_1a := cell_later hb4 (a := ⟨w1.heap.size + 1, 0, none⟩) (v := .int .i64 y) (by go_simp)
    have m4_1b := cell_later hb4 (a := ⟨w1.heap.size + 1, 1, none⟩) (v := .int .i64 2) (by go_simp)
    have m4_2a := cell_later hb4 (a := ⟨w1.heap.size + 1 + 1, 0, none⟩) (v := .int .i64 z) (by go_simp)
    have m4_2b := cell_later hb4 (a := ⟨w1.heap.size + 1 + 1, 1, none⟩) (v := .int .i64 3) (by go_simp)
    have m4_3a := cell_later hb4 (a := ⟨w2.heap.size, 0, none⟩) (v := .int .i64 0) (by go_simp)
    have m4_3b := cell_later hb4 (a := ⟨w2.heap.size, 1, none⟩) (v := .int .i64 0) (by go_simp)
    have m4_4a := cell_later hb4 (a := ⟨w3.heap.size, 0, none⟩) (v := .int .i64 0) (by go_simp)
    have m4_4b := cell_later hb4 (a := ⟨w3.heap.size, 1, none⟩) (v := .int .i64 0) (by go_simp)
    have be4 : Below w.heap.size w w4 := by
      refine Below.trans ?_ (hb4.mono (by have := be3.size; simp; omega))
      repeat (first | with_reducible exact be3 | with_reducible apply Below.drew | with_reducible refine Below.alloc ?_ (by have := be3.size; simp <;> omega) _)
    have n4_0 : w1.heap.size < w4.heap.size := World.block_lt_of_cell? _ _ m4_0a
    have n4_1 : w1.heap.size + 1 < w4.heap.size := World.block_lt_of_cell? _ _ m4_1a
    have n4_2 : w1.heap.size + 1 + 1 < w4.heap.size := World.block_lt_of_cell? _ _ m4_2a
    have n4_3 : w2.heap.size < w4.heap.size := World.block_lt_of_cell? _ _ m4_3a
    have n4_4 : w3.heap.size < w4.heap.size := World.block_lt_of_cell? _ _ m4_4a
    clear hb4 m3_0a m3_0b n3_0 p3_0 m3_1a m3_1b n3_1 p3_1 m3_2a m3_2b n3_2 p3_2 m3_3a m3_3b n3_3 p3_3 q3
    have p4_0 : ∀ k, w1.heap.size < w4.heap.size + k := fun k => Nat.lt_of_lt_of_le n4_0 (Nat.le_add_right _ _)
    have p4_1 : ∀ k, w1.heap.size + 1 < w4.heap.size + k := fun k => Nat.lt_of_lt_of_le n4_1 (Nat.le_add_right _ _)
    have p4_2 : ∀ k, w1.heap.size + 1 + 1 < w4.heap.size + k := fun k => Nat.lt_of_lt_of_le n4_2 (Nat.le_add_right _ _)
    have p4_3 : ∀ k, w2.heap.size < w4.heap.size + k := fun k => Nat.lt_of_lt_of_le n4_3 (Nat.le_add_right _ _)
    have p4_4 : ∀ k, w3.heap.size < w4.heap.size + k := fun k => Nat.lt_of_lt_of_le n4_4 (Nat.le_add_right _ _)
    have q4 : w1.heap.size + 2 < w4.heap.size := n4_2
    go_wp2_with fail
    refine (c11 _ _ _ _ _ _ _ lx l1 hd _).mono ?_
    rintro e w5 ⟨rfl, hb5⟩
    have m5_0a := cell_later hb5 (a := ⟨w1.heap.size, 0, none⟩) (v := .int .i64 x) (by go_simp)
    have m5_0b := cell_later hb5 (a := ⟨w1.heap.size, 1, none⟩) (v := .int .i64 1) (by go_simp)
    have m5_1a := cell_later hb5 (a := ⟨w1.heap.size + 1, 0, none⟩) (v := .int .i64 y) (by go_simp)
    have m5_1b := cell_later hb5 (a := ⟨w1.heap.size + 1, 1, none⟩) (v := .int .i64 2) (by go_simp)
    have m5_2a := cell_later hb5 (a := ⟨w1.heap.size + 1 + 1, 0, none⟩) (v := .int .i64 z) (by go_simp)
    have m5_2b := cell_later hb5 (a := ⟨w1.heap.size + 1 + 1, 1, none⟩) (v := .int .i64 3) (by go_simp)
    have m5_3a := cell_later hb5 (a := ⟨w2.heap.size, 0, none⟩) (v := .int .i64 0) (by go_simp)
    have m5_3b := cell_later hb5 (a := ⟨w2.heap.size, 1, none⟩) (v := .int .i64 0) (by go_simp)
    have m5_4a := cell_later hb5 (a := ⟨w3.heap.size, 0, none⟩) (v := .int .i64 0) (by go_simp)
    have m5_4b := cell_later hb5 (a := ⟨w3.heap.size, 1, none⟩) (v := .int .i64 0) (by go_simp)
    have m5_5a := cell_later hb5 (a := ⟨w4.heap.size, 0, none⟩) (v := .int .i64 u0) (by go_simp)
    have m5_5b := cell_later hb5 (a := ⟨w4.heap.size, 1, none⟩) (v := .int .i64 u1) (by go_simp)
    have be5 : Below w.heap.size w w5 := by
      refine Below.trans ?_ (hb5.mono (by have := be4.size; simp; omega))
      repeat (first | with_reducible exact be4 | with_reducible apply Below.drew | with_reducible refine Below.alloc ?_ (by have := be4.size; simp <;> omega) _)
    have n5_0 : w1.heap.size < w5.heap.size := World.block_lt_of_cell? _ _ m5_0a
    have n5_1 : w1.heap.size + 1 < w5.heap.size := World.block_lt_of_cell? _ _ m5_1a
    have n5_2 : w1.heap.size + 1 + 1 < w5.heap.size := World.block_lt_of_cell? _ _ m5_2a
    have n5_3 : w2.heap.size < w5.heap.size := World.block_lt_of_cell? _ _ m5_3a
    have n5_4 : w3.heap.size < w5.heap.size := World.block_lt_of_cell? _ _ m5_4a
    have n5_5 : w4.heap.size < w5.heap.size := World.block_lt_of_cell? _ _ m5_5a
    clear hb5 m4_0a m4_0b n4_0 p4_0 m4_1a m4_1b n4_1 p4_1 m4_2a m4_2b n4_2 p4_2 m4_3a m4_3b n4_3 p4_3 m4_4a m4_4b n4_4 p4_4 q4
    have p5_0 : ∀ k, w1.heap.size < w5.heap.size + k := fun k => Nat.lt_of_lt_of_le n5_0 (Nat.le_add_right _ _)
    have p5_1 : ∀ k, w1.heap.size + 1 < w5.heap.size + k := fun k => Nat.lt_of_lt_of_le n5_1 (Nat.le_add_right _ _)
    have p5_2 : ∀ k, w1.heap.size + 1 + 1 < w5.heap.size + k := fun k => Nat.lt_of_lt_of_le n5_2 (Nat.le_add_right _ _)
    have p5_3 : ∀ k, w2.heap.size < w5.heap.size + k := fun k => Nat.lt_of_lt_of_le n5_3 (Nat.le_add_right _ _)
    have p5_4 : ∀ k, w3.heap.size < w5.heap.size + k := fun k => Nat.lt_of_lt_of_le n5_4 (Nat.le_add_right _ _)
    have p5_5 : ∀ k, w4.heap.size < w5.heap.size + k := fun k => Nat.lt_of_lt_of_le n5_5 (Nat.le_add_right _ _)
    have q5 : w1.heap.size + 2 < w5.heap.size := n5_2
    clear ha hb hc hd
    go_wp2
    go_ret
    refine ⟨rfl, ?_⟩
    repeat (first | with_reducible exact be5 | with_reducible apply Below.drew | with_reducible refine Below.alloc ?_ (by have := be5.size; simp <;> omega) _)
  · have he := eq24
    go_enter Try.func8, Try.ntmps8
    go_wp2_with (first
      | (go_at_call 9; refine (c9 _).mono ?_; rintro e w0 ⟨rfl, be0⟩)
      | (go_at_call_of 10 (Value.int IntKind.i64 a); refine (c10 _ _ h1 _).mono ?_; rintro e wa ⟨rfl, bea⟩)
      | (go_at_call_of 10 (Value.int IntKind.i64 b); refine (c10 _ _ h2 _).mono ?_; rintro e wb ⟨rfl, beb⟩)
      | (go_at_call_of 10 (Value.int IntKind.i64 c); refine (c10 _ _ h3 _).mono ?_; rintro e w1 ⟨rfl, bec⟩))
    have be1 : Below w.heap.size w w1 := ((be0.trans (bea.mono be0.size)).trans (beb.mono (Nat.le_trans be0.size bea.size))).trans (bec.mono (Nat.le_trans be0.size (Nat.le_trans bea.size beb.size)))
    clear be0 bea beb bec h1 h2 h3 m1 m2 m3
    refine (c11 _ _ _ _ _ _ _ lx l1 ha _).mono ?_
    rintro e w2 ⟨rfl, hb2⟩
    have m2_0a := cell_later hb2 (a := ⟨w1.heap.size, 0, none⟩) (v := .int .i64 x) (by go_simp)
    have m2_0b := cell_later hb2 (a := ⟨w1.heap.size, 1, none⟩) (v := .int .i64 1) (by go_simp)
    have m2_1a := cell_later hb2 (a := ⟨w1.heap.size + 1, 0, none⟩) (v := .int .i64 y) (by go_simp)
    have m2_1b := cell_later hb2 (a := ⟨w1.heap.size + 1, 1, none⟩) (v := .int .i64 2) (by go_simp)
    have m2_2a := cell_later hb2 (a := ⟨w1.heap.size + 1 + 1, 0, none⟩) (v := .int .i64 z) (by go_simp)
    have m2_2b := cell_later hb2 (a := ⟨w1.heap.size + 1 + 1, 1, none⟩) (v := .int .i64 3) (by go_simp)
    have be2 : Below w.heap.size w w2 := by
      refine Below.trans ?_ (hb2.mono (by have := be1.size; simp; omega))
      repeat (first | with_reducible exact be1 | with_reducible apply Below.drew | with_reducible refine Below.alloc ?_ (by have := be1.size; simp <;> omega) _)
    have n2_0 : w1.heap.size < w2.heap.size := World.block_lt_of_cell? _ _ m2_0a
    have n2_1 : w1.heap.size + 1 < w2.heap.size := World.block_lt_of_cell? _ _ m2_1a
    have n2_2 : w1.heap.size + 1 + 1 < w2.heap.size := World.block_lt_of_cell? _ _ m2_2a
    clear hb2
    have p2_0 : ∀ k, w1.heap.size < w2.heap.size + k := fun k => Nat.lt_of_lt_of_le n2_0 (Nat.le_add_right _ _)
    have p2_1 : ∀ k, w1.heap.size + 1 < w2.heap.size + k := fun k => Nat.lt_of_lt_of_le n2_1 (Nat.le_add_right _ _)
    have p2_2 : ∀ k, w1.heap.size + 1 + 1 < w2.heap.size + k := fun k => Nat.lt_of_lt_of_le n2_2 (Nat.le_add_right _ _)
    have q2 : w1.heap.size + 2 < w2.heap.size := n2_2
    go_wp2_with fail
    refine (c11 _ _ _ _ _ _ _ ly l2 hb _).mono ?_
    rintro e w3 ⟨rfl, hb3⟩
    have m3_0a := cell_later hb3 (a := ⟨w1.heap.size, 0, none⟩) (v := .int .i64 x) (by go_simp)
    have m3_0b := cell_later hb3 (a := ⟨w1.heap.size, 1, none⟩) (v := .int .i64 1) (by go_simp)
    have m3_1a := cell_later hb3 (a := ⟨w1.heap.size + 1, 0, none⟩) (v := .int .i64 y) (by go_simp)
    have m3_1b := cell_later hb3 (a := ⟨w1.heap.size + 1, 1, none⟩) (v := .int .i64 2) (by go_simp)
    have m3_2a := cell_later hb3 (a := ⟨w1.heap.size + 1 + 1, 0, none⟩) (v := .int .i64 z) (by go_simp)
    have m3_2b := cell_later hb3 (a := ⟨w1.heap.size + 1 + 1, 1, none⟩) (v := .int .i64 3) (by go_simp)
    have m3_3a := cell_later hb3 (a := ⟨w2.heap.size, 0, none⟩) (v := .int .i64 s0) (by go_simp)
    have m3_3b := cell_later hb3 (a := ⟨w2.heap.size, 1, none⟩) (v := .int .i64 s1) (by go_simp)
    have be3 : Below w.heap.size w w3 := by
      refine Below.trans ?_ (hb3.mono (by have := be2.size; simp; omega))
      repeat (first | with_reducible exact be2 | with_reducible apply Below.drew | with_reducible refine Below.alloc ?_ (by have := be2.size; simp <;> omega) _)
    have n3_0 : w1.heap.size < w3.heap.size := World.block_lt_of_cell? _ _ m3_0a
    have n3_1 : w1.heap.size + 1 < w3.heap.size := World.block_lt_of_cell? _ _ m3_1a
    have n3_2 : w1.heap.size + 1 + 1 < w3.heap.size := World.block_lt_of_cell? _ _ m3_2a
    have n3_3 : w2.heap.size < w3.heap.size := World.block_lt_of_cell? _ _ m3_3a
    clear hb3 m2_0a m2_0b n2_0 p2_0 m2_1a m2_1b n2_1 p2_1 m2_2a m2_2b n2_2 p2_2 q2
    have p3_0 : ∀ k, w1.heap.size < w3.heap.size + k := fun k => Nat.lt_of_lt_of_le n3_0 (Nat.le_add_right _ _)
    have p3_1 : ∀ k, w1.heap.size + 1 < w3.heap.size + k := fun k => Nat.lt_of_lt_of_le n3_1 (Nat.le_add_right _ _)
    have p3_2 : ∀ k, w1.heap.size + 1 + 1 < w3.heap.size + k := fun k => Nat.lt_of_lt_of_le n3_2 (Nat.le_add_right _ _)
    have p3_3 : ∀ k, w2.heap.size < w3.heap.size + k := fun k => Nat.lt_of_lt_of_le n3_3 (Nat.le_add_right _ _)
    have q3 : w1.heap.size + 2 < w3.heap.size := n3_2
    go_wp2_with fail
    refine (c11 _ _ _ _ _ _ _ ls0 ls1 hc _).mono ?_
    rintro e w4 ⟨rfl, hb4⟩
    have m4_0a := cell_later hb4 (a := ⟨w1.heap.size, 0, none⟩) (v := .int .i64 x) (by go_simp)
    have m4_0b := cell_later hb4 (a := ⟨w1.heap.size, 1, none⟩) (v := .int .i64 1) (by go_simp)
    have m4_1a := cell_later hb4 (a := ⟨w1.heap.size + 1, 0, none⟩) (v := .int .i64 y) (by go_simp)
    have m4_1b := cell_later hb4 (a := ⟨w1.heap.size + 1, 1, none⟩) (v := .int .i64 2) (by go_simp)
    have m4_2a := cell_later hb4 (a := ⟨w1.heap.size + 1 + 1, 0, none⟩) (v := .int .i64 z) (by go_simp)
    have m4_2b := cell_later hb4 (a := ⟨w1.heap.size + 1 + 1, 1, none⟩) (v := .int .i64 3) (by go_simp)
    have m4_3a := cell_later hb4 (a := ⟨w2.heap.size, 0, none⟩) (v := .int .i64 s0) (by go_simp)
    have m4_3b := cell_later hb4 (a := ⟨w2.heap.size, 1, none⟩) (v := .int .i64 s1) (by go_simp)
    have m4_4a := cell_later hb4 (a := ⟨w3.heap.size, 0, none⟩) (v := .int .i64 0) (by go_simp)
    have m4_4b := cell_later hb4 (a := ⟨w3.heap.size, 1, none⟩) (v := .int .i64 0) (by go_simp)
    have be4 : Below w.heap.size w w4 := by
      refine Below.trans ?_ (hb4.mono (by have := be3.size; simp; omega))
      repeat (first | with_reducible exact be3 | with_reducible apply Below.drew | with_reducible refine Below.alloc ?_ (by have := be3.size; simp <;> omega) _)
    have n4_0 : w1.heap.size < w4.heap.size := World.block_lt_of_cell? _ _ m4_0a
    have n4_1 : w1.heap.size + 1 < w4.heap.size := World.block_lt_of_cell? _ _ m4_1a
    have n4_2 : w1.heap.size + 1 + 1 < w4.heap.size := World.block_lt_of_cell? _ _ m4_2a
    have n4_3 : w2.heap.size < w4.heap.size := World.block_lt_of_cell? _ _ m4_3a
    have n4_4 : w3.heap.size < w4.heap.size := World.block_lt_of_cell? _ _ m4_4a
    clear hb4 m3_0a m3_0b n3_0 p3_0 m3_1a m3_1b n3_1 p3_1 m3_2a m3_2b n3_2 p3_2 m3_3a m3_3b n3_3 p3_3 q3
    have p4_0 : ∀ k, w1.heap.size < w4.heap.size + k := fun k => Nat.lt_of_lt_of_le n4_0 (Nat.le_add_right _ _)
    have p4_1 : ∀ k, w1.heap.size + 1 < w4.heap.size + k := fun k => Nat.lt_of_lt_of_le n4_1 (Nat.le_add_right _ _)
    have p4_2 : ∀ k, w1.heap.size + 1 + 1 < w4.heap.size + k := fun k => Nat.lt_of_lt_of_le n4_2 (Nat.le_add_right _ _)
    have p4_3 : ∀ k, w2.heap.size < w4.heap.size + k := fun k => Nat.lt_of_lt_of_le n4_3 (Nat.le_add_right _ _)
    have p4_4 : ∀ k, w3.heap.size < w4.heap.size + k := fun k => Nat.lt_of_lt_of_le n4_4 (Nat.le_add_right _ _)
    have q4 : w1.heap.size + 2 < w4.heap.size := n4_2
    go_wp2_with fail
    refine (c11 _ _ _ _ _ _ _ lx l1 hd _).mono ?_
    rintro e w5 ⟨rfl, hb5⟩
    have m5_0a := cell_later hb5 (a := ⟨w1.heap.size, 0, none⟩) (v := .int .i64 x) (by go_simp)
    have m5_0b := cell_later hb5 (a := ⟨w1.heap.size, 1, none⟩) (v := .int .i64 1) (by go_simp)
    have m5_1a := cell_later hb5 (a := ⟨w1.heap.size + 1, 0, none⟩) (v := .int .i64 y) (by go_simp)
    have m5_1b := cell_later hb5 (a := ⟨w1.heap.size + 1, 1, none⟩) (v := .int .i64 2) (by go_simp)
    have m5_2a := cell_later hb5 (a := ⟨w1.heap.size + 1 + 1, 0, none⟩) (v := .int .i64 z) (by go_simp)
    have m5_2b := cell_later hb5 (a := ⟨w1.heap.size + 1 + 1, 1, none⟩) (v := .int .i64 3) (by go_simp)
    have m5_3a := cell_later hb5 (a := ⟨w2.heap.size, 0, none⟩) (v := .int .i64 s0) (by go_simp)
    have m5_3b := cell_later hb5 (a := ⟨w2.heap.size, 1, none⟩) (v := .int .i64 s1) (by go_simp)
    have m5_4a := cell_later hb5 (a := ⟨w3.heap.size, 0, none⟩) (v := .int .i64 0) (by go_simp)
    have m5_4b := cell_later hb5 (a := ⟨w3.heap.size, 1, none⟩) (v := .int .i64 0) (by go_simp)
    have m5_5a := cell_later hb5 (a := ⟨w4.heap.size, 0, none⟩) (v := .int .i64 u0) (by go_simp)
    have m5_5b := cell_later hb5 (a := ⟨w4.heap.size, 1, none⟩) (v := .int .i64 u1) (by go_simp)
    have be5 : Below w.heap.size w w5 := by
      refine Below.trans ?_ (hb5.mono (by have := be4.size; simp; omega))
      repeat (first | with_reducible exact be4 | with_reducible apply Below.drew | with_reducible refine Below.alloc ?_ (by have := be4.size; simp <;> omega) _)
    have n5_0 : w1.heap.size < w5.heap.size := World.block_lt_of_cell? _ _ m5_0a
    have n5_1 : w1.heap.size + 1 < w5.heap.size := World.block_lt_of_cell? _ _ m5_1a
    have n5_2 : w1.heap.size + 1 + 1 < w5.heap.size := World.block_lt_of_cell? _ _ m5_2a
    have n5_3 : w2.heap.size < w5.heap.size := World.block_lt_of_cell? _ _ m5_3a
    have n5_4 : w3.heap.size < w5.heap.size := World.block_lt_of_cell? _ _ m5_4a
    have n5_5 : w4.heap.size < w5.heap.size := World.block_lt_of_cell? _ _ m5_5a
    clear hb5 m4_0a m4_0b n4_0 p4_0 m4_1a m4_1b n4_1 p4_1 m4_2a m4_2b n4_2 p4_2 m4_3a m4_3b n4_3 p4_3 m4_4a m4_4b n4_4 p4_4 q4
    have p5_0 : ∀ k, w1.heap.size < w5.heap.size + k := fun k => Nat.lt_of_lt_of_le n5_0 (Nat.le_add_right _ _)
    have p5_1 : ∀ k, w1.heap.size + 1 < w5.heap.size + k := fun k => Nat.lt_of_lt_of_le n5_1 (Nat.le_add_right _ _)
    have p5_2 : ∀ k, w1.heap.size + 1 + 1 < w5.heap.size + k := fun k => Nat.lt_of_lt_of_le n5_2 (Nat.le_add_right _ _)
    have p5_3 : ∀ k, w2.heap.size < w5.heap.size + k := fun k => Nat.lt_of_lt_of_le n5_3 (Nat.le_add_right _ _)
    have p5_4 : ∀ k, w3.heap.size < w5.heap.size + k := fun k => Nat.lt_of_lt_of_le n5_4 (Nat.le_add_right _ _)
    have p5_5 : ∀ k, w4.heap.size < w5.heap.size + k := fun k => Nat.lt_of_lt_of_le n5_5 (Nat.le_add_right _ _)
    have q5 : w1.heap.size + 2 < w5.heap.size := n5_2
    clear ha hb hc hd
    go_wp2
    go_ret
    refine ⟨rfl, ?_⟩
    repeat (first | with_reducible exact be5 | with_reducible apply Below.drew | with_reducible refine Below.alloc ?_ (by have := be5.size; simp <;> omega) _)
  · have he := eq24
    go_enter Try.func8, Try.ntmps8
    go_wp2_with (first
      | (go_at_call 9; refine (c9 _).mono ?_; rintro e w0 ⟨rfl, be0⟩)
      | (go_at_call_of 10 (Value.int IntKind.i64 a); refine (c10 _ _ h1 _).mono ?_; rintro e wa ⟨rfl, bea⟩)
      | (go_at_call_of 10 (Value.int IntKind.i64 b); refine (c10 _ _ h2 _).mono ?_; rintro e wb ⟨rfl, beb⟩)
      | (go_at_call_of 10 (Value.int IntKind.i64 c); refine (c10 _ _ h3 _).mono ?_; rintro e w1 ⟨rfl, bec⟩))
    have be1 : Below w.heap.size w w1 := ((be0.trans (bea.mono be0.size)).trans (beb.mono (Nat.le_trans be0.size bea.size))).trans (bec.mono (Nat.le_trans be0.size (Nat.le_trans bea.size beb.size)))
    clear be0 bea beb bec h1 h2 h3 m1 m2 m3
    refine (c11 _ _ _ _ _ _ _ lx l1 ha _).mono ?_
    rintro e w2 ⟨rfl, hb2⟩
    have m2_0a := cell_later hb2 (a := ⟨w1.heap.size, 0, none⟩) (v := .int .i64 x) (by go_simp)
    have m2_0b := cell_later hb2 (a := ⟨w1.heap.size, 1, none⟩) (v := .int .i64 1) (by go_simp)
    have m2_1a := cell_later hb2 (a := ⟨w1.heap.size + 1, 0, none⟩) (v := .int .i64 y) (by go_simp)
    have m2_1b := cell_later hb2 (a := ⟨w1.heap.size + 1, 1, none⟩) (v := .int .i64 2) (by go_simp)
    have m2_2a := cell_later hb2 (a := ⟨w1.heap.size + 1 + 1, 0, none⟩) (v := .int .i64 z) (by go_simp)
    have m2_2b := cell_later hb2 (a := ⟨w1.heap.size + 1 + 1, 1, none⟩) (v := .int .i64 3) (by go_simp)
    have be2 : Below w.heap.size w w2 := by
      refine Below.trans ?_ (hb2.mono (by have := be1.size; simp; omega))
      repeat (first | with_reducible exact be1 | with_reducible apply Below.drew | with_reducible refine Below.alloc ?_ (by have := be1.size; simp <;> omega) _)
    have n2_0 : w1.heap.size < w2.heap.size := World.block_lt_of_cell? _ _ m2_0a
    have n2_1 : w1.heap.size + 1 < w2.heap.size := World.block_lt_of_cell? _ _ m2_1a
    have n2_2 : w1.heap.size + 1 + 1 < w2.heap.size := World.block_lt_of_cell? _ _ m2_2a
    clear hb2
    have p2_0 : ∀ k, w1.heap.size < w2.heap.size + k := fun k => Nat.lt_of_lt_of_le n2_0 (Nat.le_add_right _ _)
    have p2_1 : ∀ k, w1.heap.size + 1 < w2.heap.size + k := fun k => Nat.lt_of_lt_of_le n2_1 (Nat.le_add_right _ _)
    have p2_2 : ∀ k, w1.heap.size + 1 + 1 < w2.heap.size + k := fun k => Nat.lt_of_lt_of_le n2_2 (Nat.le_add_right _ _)
    have q2 : w1.heap.size + 2 < w2.heap.size := n2_2
    go_wp2_with fail
    refine (c11 _ _ _ _ _ _ _ ly l2 hb _).mono ?_
    rintro e w3 ⟨rfl, hb3⟩
    have m3_0a := cell_later hb3 (a := ⟨w1.heap.size, 0, none⟩) (v := .int .i64 x) (by go_simp)
    have m3_0b := cell_later hb3 (a := ⟨w1.heap.size, 1, none⟩) (v := .int .i64 1) (by go_simp)
    have m3_1a := cell_later hb3 (a := ⟨w1.heap.size + 1, 0, none⟩) (v := .int .i64 y) (by go_simp)
    have m3_1b := cell_later hb3 (a := ⟨w1.heap.size + 1, 1, none⟩) (v := .int .i64 2) (by go_simp)
    have m3_2a := cell_later hb3 (a := ⟨w1.heap.size + 1 + 1, 0, none⟩) (v := .int .i64 z) (by go_simp)
    have m3_2b := cell_later hb3 (a := ⟨w1.heap.size + 1 + 1, 1, none⟩) (v := .int .i64 3) (by go_simp)
    have m3_3a := cell_later hb3 (a := ⟨w2.heap.size, 0, none⟩) (v := .int .i64 s0) (by go_simp)
    have m3_3b := cell_later hb3 (a := ⟨w2.heap.size, 1, none⟩) (v := .int .i64 s1) (by go_simp)
    have be3 : Below w.heap.size w w3 := by
      refine Below.trans ?_ (hb3.mono (by have := be2.size; simp; omega))
      repeat (first | with_reducible exact be2 | with_reducible apply Below.drew | with_reducible refine Below.alloc ?_ (by have := be2.size; simp <;> omega) _)
    have n3_0 : w1.heap.size < w3.heap.size := World.block_lt_of_cell? _ _ m3_0a
    have n3_1 : w1.heap.size + 1 < w3.heap.size := World.block_lt_of_cell? _ _ m3_1a
    have n3_2 : w1.heap.size + 1 + 1 < w3.heap.size := World.block_lt_of_cell? _ _ m3_2a
    have n3_3 : w2.heap.size < w3.heap.size := World.block_lt_of_cell? _ _ m3_3a
    clear hb3 m2_0a m2_0b n2_0 p2_0 m2_1a m2_1b n2_1 p2_1 m2_2a m2_2b n2_2 p2_2 q2
    have p3_0 : ∀ k, w1.heap.size < w3.heap.size + k := fun k => Nat.lt_of_lt_of_le n3_0 (Nat.le_add_right _ _)
    have p3_1 : ∀ k, w1.heap.size + 1 < w3.heap.size + k := fun k => Nat.lt_of_lt_of_le n3_1 (Nat.le_add_right _ _)
    have p3_2 : ∀ k, w1.heap.size + 1 + 1 < w3.heap.size + k := fun k => Nat.lt_of_lt_of_le n3_2 (Nat.le_add_right _ _)
    have p3_3 : ∀ k, w2.heap.size < w3.heap.size + k := fun k => Nat.lt_of_lt_of_le n3_3 (Nat.le_add_right _ _)
    have q3 : w1.heap.size + 2 < w3.heap.size := n3_2
    go_wp2_with fail
    refine (c11 _ _ _ _ _ _ _ ls0 ls1 hc _).mono ?_
    rintro e w4 ⟨rfl, hb4⟩
    have m4_0a := cell_later hb4 (a := ⟨w1.heap.size, 0, none⟩) (v := .int .i64 x) (by go_simp)
    have m4_0b := cell_later hb4 (a := ⟨w1.heap.size, 1, none⟩) (v := .int .i64 1) (by go_simp)
    have m4_1a := cell_later hb4 (a := ⟨w1.heap.size + 1, 0, none⟩) (v := .int .i64 y) (by go_simp)
    have m4_1b := cell_later hb4 (a := ⟨w1.heap.size + 1, 1, none⟩) (v := .int .i64 2) (by go_simp)
    have m4_2a := cell_later hb4 (a := ⟨w1.heap.size + 1 + 1, 0, none⟩) (v := .int .i64 z) (by go_simp)
    have m4_2b := cell_later hb4 (a := ⟨w1.heap.size + 1 + 1, 1, none⟩) (v := .int .i64 3) (by go_simp)
    have m4_3a := cell_later hb4 (a := ⟨w2.heap.size, 0, none⟩) (v := .int .i64 s0) (by go_simp)
    have m4_3b := cell_later hb4 (a := ⟨w2.heap.size, 1, none⟩) (v := .int .i64 s1) (by go_simp)
    have m4_4a := cell_later hb4 (a := ⟨w3.heap.size, 0, none⟩) (v := .int .i64 t0) (by go_simp)
    have m4_4b := cell_later hb4 (a := ⟨w3.heap.size, 1, none⟩) (v := .int .i64 t1) (by go_simp)
    have be4 : Below w.heap.size w w4 := by
      refine Below.trans ?_ (hb4.mono (by have := be3.size; simp; omega))
      repeat (first | with_reducible exact be3 | with_reducible apply Below.drew | with_reducible refine Below.alloc ?_ (by have := be3.size; simp <;> omega) _)
    have n4_0 : w1.heap.size < w4.heap.size := World.block_lt_of_cell? _ _ m4_0a
    have n4_1 : w1.heap.size + 1 < w4.heap.size := World.block_lt_of_cell? _ _ m4_1a
    have n4_2 : w1.heap.size + 1 + 1 < w4.heap.size := World.block_lt_of_cell? _ _ m4_2a
    have n4_3 : w2.heap.size < w4.heap.size := World.block_lt_of_cell? _ _ m4_3a
    have n4_4 : w3.heap.size < w4.heap.size := World.block_lt_of_cell? _ _ m4_4a
    clear hb4 m3_0a m3_0b n3_0 p3_0 m3_1a m3_1b n3_1 p3_1 m3_2a m3_2b n3_2 p3_2 m3_3a m3_3b n3_3 p3_3 q3
    have p4_0 : ∀ k, w1.heap.size < w4.heap.size + k := fun k => Nat.lt_of_lt_of_le n4_0 (Nat.le_add_right _ _)
    have p4_1 : ∀ k, w1.heap.size + 1 < w4.heap.size + k := fun k => Nat.lt_of_lt_of_le n4_1 (Nat.le_add_right _ _)
    have p4_2 : ∀ k, w1.heap.size + 1 + 1 < w4.heap.size + k := fun k => Nat.lt_of_lt_of_le n4_2 (Nat.le_add_right _ _)
    have p4_3 : ∀ k, w2.heap.size < w4.heap.size + k := fun k => Nat.lt_of_lt_of_le n4_3 (Nat.le_add_right _ _)
    have p4_4 : ∀ k, w3.heap.size < w4.heap.size + k := fun k => Nat.lt_of_lt_of_le n4_4 (Nat.le_add_right _ _)
    have q4 : w1.heap.size + 2 < w4.heap.size := n4_2
    go_wp2_with fail
    refine (c11 _ _ _ _ _ _ _ lx l1 hd _).mono ?_
    rintro e w5 ⟨rfl, hb5⟩
    have m5_0a := cell_later hb5 (a := ⟨w1.heap.size, 0, none⟩) (v := .int .i64 x) (by go_simp)
    have m5_0b := cell_later hb5 (a := ⟨w1.heap.size, 1, none⟩) (v := .int .i64 1) (by go_simp)
    have m5_1a := cell_later hb5 (a := ⟨w1.heap.size + 1, 0, none⟩) (v := .int .i64 y) (by go_simp)
    have m5_1b := cell_later hb5 (a := ⟨w1.heap.size + 1, 1, none⟩) (v := .int .i64 2) (by go_simp)
    have m5_2a := cell_later hb5 (a := ⟨w1.heap.size + 1 + 1, 0, none⟩) (v := .int .i64 z) (by go_simp)
    have m5_2b := cell_later hb5 (a := ⟨w1.heap.size + 1 + 1, 1, none⟩) (v := .int .i64 3) (by go_simp)
    have m5_3a := cell_later hb5 (a := ⟨w2.heap.size, 0, none⟩) (v := .int .i64 s0) (by go_simp)
    have m5_3b := cell_later hb5 (a := ⟨w2.heap.size, 1, none⟩) (v := .int .i64 s1) (by go_simp)
    have m5_4a := cell_later hb5 (a := ⟨w3.heap.size, 0, none⟩) (v := .int .i64 t0) (by go_simp)
    have m5_4b := cell_later hb5 (a := ⟨w3.heap.size, 1, none⟩) (v := .int .i64 t1) (by go_simp)
    have m5_5a := cell_later hb5 (a := ⟨w4.heap.size, 0, none⟩) (v := .int .i64 v0) (by go_simp)
    have m5_5b := cell_later hb5 (a := ⟨w4.heap.size, 1, none⟩) (v := .int .i64 v1) (by go_simp)
    have be5 : Below w.heap.size w w5 := by
      refine Below.trans ?_ (hb5.mono (by have := be4.size; simp; omega))
      repeat (first | with_reducible exact be4 | with_reducible apply Below.drew | with_reducible refine Below.alloc ?_ (by have := be4.size; simp <;> omega) _)
    have n5_0 : w1.heap.size < w5.heap.size := World.block_lt_of_cell? _ _ m5_0a
    have n5_1 : w1.heap.size + 1 < w5.heap.size := World.block_lt_of_cell? _ _ m5_1a
    have n5_2 : w1.heap.size + 1 + 1 < w5.heap.size := World.block_lt_of_cell? _ _ m5_2a
    have n5_3 : w2.heap.size < w5.heap.size := World.block_lt_of_cell? _ _ m5_3a
    have n5_4 : w3.heap.size < w5.heap.size := World.block_lt_of_cell? _ _ m5_4a
    have n5_5 : w4.heap.size < w5.heap.size := World.block_lt_of_cell? _ _ m5_5a
    clear hb5 m4_0a m4_0b n4_0 p4_0 m4_1a m4_1b n4_1 p4_1 m4_2a m4_2b n4_2 p4_2 m4_3a m4_3b n4_3 p4_3 m4_4a m4_4b n4_4 p4_4 q4
    have p5_0 : ∀ k, w1.heap.size < w5.heap.size + k := fun k => Nat.lt_of_lt_of_le n5_0 (Nat.le_add_right _ _)
    have p5_1 : ∀ k, w1.heap.size + 1 < w5.heap.size + k := fun k => Nat.lt_of_lt_of_le n5_1 (Nat.le_add_right _ _)
    have p5_2 : ∀ k, w1.heap.size + 1 + 1 < w5.heap.size + k := fun k => Nat.lt_of_lt_of_le n5_2 (Nat.le_add_right _ _)
    have p5_3 : ∀ k, w2.heap.size < w5.heap.size + k := fun k => Nat.lt_of_lt_of_le n5_3 (Nat.le_add_right _ _)
    have p5_4 : ∀ k, w3.heap.size < w5.heap.size + k := fun k => Nat.lt_of_lt_of_le n5_4 (Nat.le_add_right _ _)
    have p5_5 : ∀ k, w4.heap.size < w5.heap.size + k := fun k => Nat.lt_of_lt_of_le n5_5 (Nat.le_add_right _ _)
    have q5 : w1.heap.size + 2 < w5.heap.size := n5_2
    clear ha hb hc hd
    go_wp2
    go_ret
    refine ⟨rfl, ?_⟩
    repeat (first | with_reducible exact be5 | with_reducible apply Below.drew | with_reducible refine Below.alloc ?_ (by have := be5.size; simp <;> omega) _)
  · have he := eq24
    go_enter Try.func8, Try.ntmps8
    go_wp2_with (first
      | (go_at_call 9; refine (c9 _).mono ?_; rintro e w0 ⟨rfl, be0⟩)
      | (go_at_call_of 10 (Value.int IntKind.i64 a); refine (c10 _ _ h1 _).mono ?_; rintro e wa ⟨rfl, bea⟩)
      | (go_at_call_of 10 (Value.int IntKind.i64 b); refine (c10 _ _ h2 _).mono ?_; rintro e wb ⟨rfl, beb⟩)
      | (go_at_call_of 10 (Value.int IntKind.i64 c); refine (c10 _ _ h3 _).mono ?_; rintro e w1 ⟨rfl, bec⟩))
    have be1 : Below w.heap.size w w1 := ((be0.trans (bea.mono be0.size)).trans (beb.mono (Nat.le_trans be0.size bea.size))).trans (bec.mono (Nat.le_trans be0.size (Nat.le_trans bea.size beb.size)))
    clear be0 bea beb bec h1 h2 h3 m1 m2 m3
    refine (c11 _ _ _ _ _ _ _ lx l1 ha _).mono ?_
    rintro e w2 ⟨rfl, hb2⟩
    have m2_0a := cell_later hb2 (a := ⟨w1.heap.size, 0, none⟩) (v := .int .i64 x) (by go_simp)
    have m2_0b := cell_later hb2 (a := ⟨w1.heap.size, 1, none⟩) (v := .int .i64 1) (by go_simp)
    have m2_1a := cell_later hb2 (a := ⟨w1.heap.size + 1, 0, none⟩) (v := .int .i64 y) (by go_simp)
    have m2_1b := cell_later hb2 (a := ⟨w1.heap.size + 1, 1, none⟩) (v := .int .i64 2) (by go_simp)
    have m2_2a := cell_later hb2 (a := ⟨w1.heap.size + 1 + 1, 0, none⟩) (v := .int .i64 z) (by go_simp)
    have m2_2b := cell_later hb2 (a := ⟨w1.heap.size + 1 + 1, 1, none⟩) (v := .int .i64 3) (by go_simp)
    have be2 : Below w.heap.size w w2 := by
      refine Below.trans ?_ (hb2.mono (by have := be1.size; simp; omega))
      repeat (first | with_reducible exact be1 | with_reducible apply Below.drew | with_reducible refine Below.alloc ?_ (by have := be1.size; simp <;> omega) _)
    have n2_0 : w1.heap.size < w2.heap.size := World.block_lt_of_cell? _ _ m2_0a
    have n2_1 : w1.heap.size + 1 < w2.heap.size := World.block_lt_of_cell? _ _ m2_1a
    have n2_2 : w1.heap.size + 1 + 1 < w2.heap.size := World.block_lt_of_cell? _ _ m2_2a
    clear hb2
    have p2_0 : ∀ k, w1.heap.size < w2.heap.size + k := fun k => Nat.lt_of_lt_of_le n2_0 (Nat.le_add_right _ _)
    have p2_1 : ∀ k, w1.heap.size + 1 < w2.heap.size + k := fun k => Nat.lt_of_lt_of_le n2_1 (Nat.le_add_right _ _)
    have p2_2 : ∀ k, w1.heap.size + 1 + 1 < w2.heap.size + k := fun k => Nat.lt_of_lt_of_le n2_2 (Nat.le_add_right _ _)
    have q2 : w1.heap.size + 2 < w2.heap.size := n2_2
    go_wp2_with fail
    refine (c11 _ _ _ _ _ _ _ ly l2 hb _).mono ?_
    rintro e w3 ⟨rfl, hb3⟩
    have m3_0a := cell_later hb3 (a := ⟨w1.heap.size, 0, none⟩) (v := .int .i64 x) (by go_simp)
    have m3_0b := cell_later hb3 (a := ⟨w1.heap.size, 1, none⟩) (v := .int .i64 1) (by go_simp)
    have m3_1a := cell_later hb3 (a := ⟨w1.heap.size + 1, 0, none⟩) (v := .int .i64 y) (by go_simp)
    have m3_1b := cell_later hb3 (a := ⟨w1.heap.size + 1, 1, none⟩) (v := .int .i64 2) (by go_simp)
    have m3_2a := cell_later hb3 (a := ⟨w1.heap.size + 1 + 1, 0, none⟩) (v := .int .i64 z) (by go_simp)
    have m3_2b := cell_later hb3 (a := ⟨w1.heap.size + 1 + 1, 1, none⟩) (v := .int .i64 3) (by go_simp)
    have m3_3a := cell_later hb3 (a := ⟨w2.heap.size, 0, none⟩) (v := .int .i64 s0) (by go_simp)
    have m3_3b := cell_later hb3 (a := ⟨w2.heap.size, 1, none⟩) (v := .int .i64 s1) (by go_simp)
    have be3 : Below w.heap.size w w3 := by
      refine Below.trans ?_ (hb3.mono (by have := be2.size; simp; omega))
      repeat (first | with_reducible exact be2 | with_reducible apply Below.drew | with_reducible refine Below.alloc ?_ (by have := be2.size; simp <;> omega) _)
    have n3_0 : w1.heap.size < w3.heap.size := World.block_lt_of_cell? _ _ m3_0a
    have n3_1 : w1.heap.size + 1 < w3.heap.size := World.block_lt_of_cell? _ _ m3_1a
    have n3_2 : w1.heap.size + 1 + 1 < w3.heap.size := World.block_lt_of_cell? _ _ m3_2a
    have n3_3 : w2.heap.size < w3.heap.size := World.block_lt_of_cell? _ _ m3_3a
    clear hb3 m2_0a m2_0b n2_0 p2_0 m2_1a m2_1b n2_1 p2_1 m2_2a m2_2b n2_2 p2_2 q2
    have p3_0 : ∀ k, w1.heap.size < w3.heap.size + k := fun k => Nat.lt_of_lt_of_le n3_0 (Nat.le_add_right _ _)
    have p3_1 : ∀ k, w1.heap.size + 1 < w3.heap.size + k := fun k => Nat.lt_of_lt_of_le n3_1 (Nat.le_add_right _ _)
    have p3_2 : ∀ k, w1.heap.size + 1 + 1 < w3.heap.size + k := fun k => Nat.lt_of_lt_of_le n3_2 (Nat.le_add_right _ _)
    have p3_3 : ∀ k, w2.heap.size < w3.heap.size + k := fun k => Nat.lt_of_lt_of_le n3_3 (Nat.le_add_right _ _)
    have q3 : w1.heap.size + 2 < w3.heap.size := n3_2
    go_wp2_with fail
    refine (c11 _ _ _ _ _ _ _ ls0 ls1 hc _).mono ?_
    rintro e w4 ⟨rfl, hb4⟩
    have m4_0a := cell_later hb4 (a := ⟨w1.heap.size, 0, none⟩) (v := .int .i64 x) (by go_simp)
    have m4_0b := cell_later hb4 (a := ⟨w1.heap.size, 1, none⟩) (v := .int .i64 1) (by go_simp)
    have m4_1a := cell_later hb4 (a := ⟨w1.heap.size + 1, 0, none⟩) (v := .int .i64 y) (by go_simp)
    have m4_1b := cell_later hb4 (a := ⟨w1.heap.size + 1, 1, none⟩) (v := .int .i64 2) (by go_simp)
    have m4_2a := cell_later hb4 (a := ⟨w1.heap.size + 1 + 1, 0, none⟩) (v := .int .i64 z) (by go_simp)
    have m4_2b := cell_later hb4 (a := ⟨w1.heap.size + 1 + 1, 1, none⟩) (v := .int .i64 3) (by go_simp)
    have m4_3a := cell_later hb4 (a := ⟨w2.heap.size, 0, none⟩) (v := .int .i64 s0) (by go_simp)
    have m4_3b := cell_later hb4 (a := ⟨w2.heap.size, 1, none⟩) (v := .int .i64 s1) (by go_simp)
    have m4_4a := cell_later hb4 (a := ⟨w3.heap.size, 0, none⟩) (v := .int .i64 t0) (by go_simp)
    have m4_4b := cell_later hb4 (a := ⟨w3.heap.size, 1, none⟩) (v := .int .i64 t1) (by go_simp)
    have be4 : Below w.heap.size w w4 := by
      refine Below.trans ?_ (hb4.mono (by have := be3.size; simp; omega))
      repeat (first | with_reducible exact be3 | with_reducible apply Below.drew | with_reducible refine Below.alloc ?_ (by have := be3.size; simp <;> omega) _)
    have n4_0 : w1.heap.size < w4.heap.size := World.block_lt_of_cell? _ _ m4_0a
    have n4_1 : w1.heap.size + 1 < w4.heap.size := World.block_lt_of_cell? _ _ m4_1a
    have n4_2 : w1.heap.size + 1 + 1 < w4.heap.size := World.block_lt_of_cell? _ _ m4_2a
    have n4_3 : w2.heap.size < w4.heap.size := World.block_lt_of_cell? _ _ m4_3a
    have n4_4 : w3.heap.size < w4.heap.size := World.block_lt_of_cell? _ _ m4_4a
    clear hb4 m3_0a m3_0b n3_0 p3_0 m3_1a m3_1b n3_1 p3_1 m3_2a m3_2b n3_2 p3_2 m3_3a m3_3b n3_3 p3_3 q3
    have p4_0 : ∀ k, w1.heap.size < w4.heap.size + k := fun k => Nat.lt_of_lt_of_le n4_0 (Nat.le_add_right _ _)
    have p4_1 : ∀ k, w1.heap.size + 1 < w4.heap.size + k := fun k => Nat.lt_of_lt_of_le n4_1 (Nat.le_add_right _ _)
    have p4_2 : ∀ k, w1.heap.size + 1 + 1 < w4.heap.size + k := fun k => Nat.lt_of_lt_of_le n4_2 (Nat.le_add_right _ _)
    have p4_3 : ∀ k, w2.heap.size < w4.heap.size + k := fun k => Nat.lt_of_lt_of_le n4_3 (Nat.le_add_right _ _)
    have p4_4 : ∀ k, w3.heap.size < w4.heap.size + k := fun k => Nat.lt_of_lt_of_le n4_4 (Nat.le_add_right _ _)
    have q4 : w1.heap.size + 2 < w4.heap.size := n4_2
    go_wp2_with fail
    refine (c11 _ _ _ _ _ _ _ lx l1 hd _).mono ?_
    rintro e w5 ⟨rfl, hb5⟩
    have m5_0a := cell_later hb5 (a := ⟨w1.heap.size, 0, none⟩) (v := .int .i64 x) (by go_simp)
    have m5_0b := cell_later hb5 (a := ⟨w1.heap.size, 1, none⟩) (v := .int .i64 1) (by go_simp)
    have m5_1a := cell_later hb5 (a := ⟨w1.heap.size + 1, 0, none⟩) (v := .int .i64 y) (by go_simp)
    have m5_1b := cell_later hb5 (a := ⟨w1.heap.size + 1, 1, none⟩) (v := .int .i64 2) (by go_simp)
    have m5_2a := cell_later hb5 (a := ⟨w1.heap.size + 1 + 1, 0, none⟩) (v := .int .i64 z) (by go_simp)
    have m5_2b := cell_later hb5 (a := ⟨w1.heap.size + 1 + 1, 1, none⟩) (v := .int .i64 3) (by go_simp)
    have m5_3a := cell_later hb5 (a := ⟨w2.heap.size, 0, none⟩) (v := .int .i64 s0) (by go_simp)
    have m5_3b := cell_later hb5 (a := ⟨w2.heap.size, 1, none⟩) (v := .int .i64 s1) (by go_simp)
    have m5_4a := cell_later hb5 (a := ⟨w3.heap.size, 0, none⟩) (v := .int .i64 t0) (by go_simp)
    have m5_4b := cell_later hb5 (a := ⟨w3.heap.size, 1, none⟩) (v := .int .i64 t1) (by go_simp)
    have m5_5a := cell_later hb5 (a := ⟨w4.heap.size, 0, none⟩) (v := .int .i64 v0) (by go_simp)
    have m5_5b := cell_later hb5 (a := ⟨w4.heap.size, 1, none⟩) (v := .int .i64 v1) (by go_simp)
    have be5 : Below w.heap.size w w5 := by
      refine Below.trans ?_ (hb5.mono (by have := be4.size; simp; omega))
      repeat (first | with_reducible exact be4 | with_reducible apply Below.drew | with_reducible refine Below.alloc ?_ (by have := be4.size; simp <;> omega) _)
    have n5_0 : w1.heap.size < w5.heap.size := World.block_lt_of_cell? _ _ m5_0a
    have n5_1 : w1.heap.size + 1 < w5.heap.size := World.block_lt_of_cell? _ _ m5_1a
    have n5_2 : w1.heap.size + 1 + 1 < w5.heap.size := World.block_lt_of_cell? _ _ m5_2a
    have n5_3 : w2.heap.size < w5.heap.size := World.block_lt_of_cell? _ _ m5_3a
    have n5_4 : w3.heap.size < w5.heap.size := World.block_lt_of_cell? _ _ m5_4a
    have n5_5 : w4.heap.size < w5.heap.size := World.block_lt_of_cell? _ _ m5_5a
    clear hb5 m4_0a m4_0b n4_0 p4_0 m4_1a m4_1b n4_1 p4_1 m4_2a m4_2b n4_2 p4_2 m4_3a m4_3b n4_3 p4_3 m4_4a m4_4b n4_4 p4_4 q4
    have p5_0 : ∀ k, w1.heap.size < w5.heap.size + k := fun k => Nat.lt_of_lt_of_le n5_0 (Nat.le_add_right _ _)
    have p5_1 : ∀ k, w1.heap.size + 1 < w5.heap.size + k := fun k => Nat.lt_of_lt_of_le n5_1 (Nat.le_add_right _ _)
    have p5_2 : ∀ k, w1.heap.size + 1 + 1 < w5.heap.size + k := fun k => Nat.lt_of_lt_of_le n5_2 (Nat.le_add_right _ _)
    have p5_3 : ∀ k, w2.heap.size < w5.heap.size + k := fun k => Nat.lt_of_lt_of_le n5_3 (Nat.le_add_right _ _)
    have p5_4 : ∀ k, w3.heap.size < w5.heap.size + k := fun k => Nat.lt_of_lt_of_le n5_4 (Nat.le_add_right _ _)
    have p5_5 : ∀ k, w4.heap.size < w5.heap.size + k := fun k => Nat.lt_of_lt_of_le n5_5 (Nat.le_add_right _ _)
    have q5 : w1.heap.size + 2 < w5.heap.size := n5_2
    clear ha hb hc hd
    go_wp2
    go_ret
    refine ⟨rfl, ?_⟩
    repeat (first | with_reducible exact be5 | with_reducible apply Below.drew | with_reducible refine Below.alloc ?_ (by have := be5.size; simp <;> omega) _)

theorem vecThree_walk (a0 a1 a2 : Int) (_w0 : (Lit.int .i64 a0).wf = true) (_w1 : (Lit.int .i64 a1).wf = true) (_w2 : (Lit.int .i64 a2).wf = true) (w : World) :
    Calls Try.prog 8 #[.int .i64 a0, .int .i64 a1, .int .i64 a2] w fun e w' => e = .returned (.bool true) ∧ Below w.heap.size w w' := by
  have k1 := edgeS_le a0
  have k2 := edgeS_le a1
  have k3 := edgeS_le a2
  obtain ⟨x, hx⟩ : ∃ x, (if edgeS a0 < 0 then 0 else edgeS a0) = x := ⟨_, rfl⟩
  obtain ⟨y, hy⟩ : ∃ x, (if edgeS a1 < 0 then 0 else edgeS a1) = x := ⟨_, rfl⟩
  obtain ⟨z, hz⟩ : ∃ x, (if edgeS a2 < 0 then 0 else edgeS a2) = x := ⟨_, rfl⟩
  have bx : 0 ≤ x ∧ x ≤ 9223372036854775807 := by omega
  have by' : 0 ≤ y ∧ y ≤ 9223372036854775807 := by omega
  have bz : 0 ≤ z ∧ z ≤ 9223372036854775807 := by omega
  have go := fun s0 s1 t0 t1 u0 u1 v0 v1 e f g h => vecThree_way a0 a1 a2 _ _ _ x y z s0 s1 t0 t1 u0 u1 v0 v1 e f g h rfl rfl rfl hx hy hz bx.2 by'.2 (by omega) (by omega)
  clear hx hy hz k1 k2 k3
  by_cases p : x + y ≤ 9223372036854775807
  · by_cases q : y + z ≤ 9223372036854775807
    · by_cases r : x + y + z ≤ 9223372036854775807
      · refine go (x + y) 3 (y + z) 5 (x + y + z) 6 (x + y + z) 6 0 0 0 0 (by omega) (by omega) ?_ ?_ ?_ ?_ (by simp) w
        · unfold addS; rw [if_pos (by omega), if_pos (by omega)]; rfl
        · unfold addS; rw [if_pos (by omega), if_pos (by omega)]; rfl
        · unfold addS; rw [if_pos (by omega), if_pos (by omega)]; rfl
        · unfold addS; rw [if_pos (by omega), if_pos (by omega), ← Int.add_assoc]; rfl
      · refine go (x + y) 3 (y + z) 5 0 0 0 0 0 0 6 6 (by omega) (by omega) ?_ ?_ ?_ ?_ (by simp) w
        · unfold addS; rw [if_pos (by omega), if_pos (by omega)]; rfl
        · unfold addS; rw [if_pos (by omega), if_pos (by omega)]; rfl
        · unfold addS; rw [if_pos (by omega), if_neg (by omega)]
        · unfold addS; rw [if_pos (by omega), if_neg (by omega)]
    · refine go (x + y) 3 0 0 _ _ _ _ 0 6 _ _ (by omega) (by omega) ?_ ?_ rfl rfl (by simp) w
      · unfold addS; rw [if_pos (by omega), if_pos (by omega)]; rfl
      · unfold addS; rw [if_pos (by omega), if_neg (by omega)]
  · by_cases q : y + z ≤ 9223372036854775807
    · refine go 0 0 (y + z) 5 _ _ _ _ 6 0 _ _ (by omega) (by omega) ?_ ?_ rfl rfl (by simp) w
      · unfold addS; rw [if_pos (by omega), if_neg (by omega)]
      · unfold addS; rw [if_pos (by omega), if_pos (by omega)]; rfl
    · refine go 0 0 0 0 _ _ _ _ 6 6 _ _ (by omega) (by omega) ?_ ?_ rfl rfl (by simp) w
      · unfold addS; rw [if_pos (by omega), if_neg (by omega)]
      · unfold addS; rw [if_pos (by omega), if_neg (by omega)]

end Go.Proofs.Ytpeficmlgiilcaa
