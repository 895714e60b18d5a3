/- The walk of VecParts: it returns true. -/
import Derived.Test.YtpeficmlgiilcabE
namespace Go.Proofs.Ytpeficmlgiilcab
open Go.RowKit

set_option maxHeartbeats 800000 in
theorem vecParts_way (a b c d p q r s t0 t1 : Int)
    (h1 : a % 1099511627776 = p) (h2 : b % 1099511627776 = q) (h3 : c % 1099511627776 = r) (h4 : d % 1099511627776 = s)
    (lp : p ≤ 9223372036854775807) (lq : q ≤ 9223372036854775807) (l0 : (0 : Int) ≤ 9223372036854775807)
    (ha : addS p q r s = (t0, t1, 0)) (hb : addS p 0 r 0 = (t0, 0, 0)) (hc : addS 0 p 0 r = (0, t0, 0))
    (e1 : wrap64 (q + s) = t1) (w : World) :
    Calls Try.prog 3 #[.int .i64 a, .int .i64 b, .int .i64 c, .int .i64 d] w fun en w' => en = .returned (.bool true) ∧ Below w.heap.size w w' := by
    go_enter Try.func3, Try.ntmps3
    go_wp2_with (first
      | (go_at_call 5; refine (c9 _).mono ?_; rintro e w1 ⟨rfl, be1⟩)
      | (go_at_call 6; refine (c19 _ _ _ (by decide) (by decide) (by assumption) _).mono ?_; rintro e w1 ⟨rfl, rfl⟩))
    refine (c11 _ _ _ _ _ _ _ lp lq ha _).mono ?_
    rintro e w2 ⟨rfl, hb2⟩
    have be2 : Below w.heap.size w w2 := by
      refine Below.trans ?_ (hb2.mono (by have := be1.size; simp; omega))
      repeat (first | with_reducible exact be1 | with_reducible apply Below.drew | with_reducible refine Below.alloc ?_ (by have := be1.size; simp <;> omega) _)
    clear hb2 h1 h2 h3 h4
    go_wp2_with fail
    refine (c11 _ _ _ _ _ _ _ lp l0 hb _).mono ?_
    rintro e w3 ⟨rfl, hb3⟩
    have m3_0a := cell_later hb3 (a := ⟨w2.heap.size, 0, none⟩) (v := .int .i64 t0) (by go_simp)
    have m3_0b := cell_later hb3 (a := ⟨w2.heap.size, 1, none⟩) (v := .int .i64 t1) (by go_simp)
    have be3 : Below w.heap.size w w3 := by
      refine Below.trans ?_ (hb3.mono (by have := be2.size; simp; omega))
      repeat (first | with_reducible exact be2 | with_reducible apply Below.drew | with_reducible refine Below.alloc ?_ (by have := be2.size; simp <;> omega) _)
    have n3_0 : w2.heap.size < w3.heap.size := World.block_lt_of_cell? _ _ m3_0a
    clear hb3
    have p3_0 : ∀ k, w2.heap.size < w3.heap.size + k := fun k => Nat.lt_of_lt_of_le n3_0 (Nat.le_add_right _ _)
    go_wp2_with fail
    refine (c11 _ _ _ _ _ _ _ l0 lp hc _).mono ?_
    rintro e w4 ⟨rfl, hb4⟩
    have m4_0a := cell_later hb4 (a := ⟨w2.heap.size, 0, none⟩) (v := .int .i64 t0) (by go_simp)
    have m4_0b := cell_later hb4 (a := ⟨w2.heap.size, 1, none⟩) (v := .int .i64 t1) (by go_simp)
    have m4_1a := cell_later hb4 (a := ⟨w3.heap.size, 0, none⟩) (v := .int .i64 t0) (by go_simp)
    have m4_1b := cell_later hb4 (a := ⟨w3.heap.size, 1, none⟩) (v := .int .i64 0) (by go_simp)
    have be4 : Below w.heap.size w w4 := by
      refine Below.trans ?_ (hb4.mono (by have := be3.size; simp; omega))
      repeat (first | with_reducible exact be3 | with_reducible apply Below.drew | with_reducible refine Below.alloc ?_ (by have := be3.size; simp <;> omega) _)
    have n4_0 : w2.heap.size < w4.heap.size := World.block_lt_of_cell? _ _ m4_0a
    have n4_1 : w3.heap.size < w4.heap.size := World.block_lt_of_cell? _ _ m4_1a
    clear hb4 m3_0a m3_0b n3_0 p3_0
    have p4_0 : ∀ k, w2.heap.size < w4.heap.size + k := fun k => Nat.lt_of_lt_of_le n4_0 (Nat.le_add_right _ _)
    have p4_1 : ∀ k, w3.heap.size < w4.heap.size + k := fun k => Nat.lt_of_lt_of_le n4_1 (Nat.le_add_right _ _)
    clear ha hb hc lp lq l0
    go_wp2
    go_ret
    refine ⟨rfl, ?_⟩
    repeat (first | with_reducible exact be4 | with_reducible apply Below.drew | with_reducible refine Below.alloc ?_ (by have := be4.size; simp <;> omega) _)

theorem vecParts_walk (a0 a1 a2 a3 : Int) (_w0 : (Lit.int .i64 a0).wf = true) (_w1 : (Lit.int .i64 a1).wf = true) (_w2 : (Lit.int .i64 a2).wf = true) (_w3 : (Lit.int .i64 a3).wf = true) (w : World) :
    Calls Try.prog 3 #[.int .i64 a0, .int .i64 a1, .int .i64 a2, .int .i64 a3] w fun e w' => e = .returned (.bool true) ∧ Below w.heap.size w w' := by
  refine vecParts_way a0 a1 a2 a3 _ _ _ _ (a0 % 1099511627776 + a2 % 1099511627776) (a1 % 1099511627776 + a3 % 1099511627776) rfl rfl rfl rfl (by omega) (by omega) (by omega) ?_ ?_ ?_ (by unfold wrap64; omega) w
  · unfold addS
    rw [if_pos (by omega), if_pos (by omega)]
  · unfold addS
    rw [if_pos (by omega), if_pos (by omega), Int.add_zero]
  · unfold addS
    rw [if_pos (by omega), if_pos (by omega), Int.add_zero]

end Go.Proofs.Ytpeficmlgiilcab
