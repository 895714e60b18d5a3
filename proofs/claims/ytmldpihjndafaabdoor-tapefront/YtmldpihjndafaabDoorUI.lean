/- The tape: hold, Sync, Crash, Lasting, Lines, as what lasts and what does not. -/
import Derived.Test.YtmldpihjndafaabDoorUH
namespace Go.Proofs.YtmldpihjndafaabDoor
open Go.RowKit
set_option linter.unusedSimpArgs false
set_option linter.unusedVariables false

theorem hold_any (w : World) (T : Nat) (v : Value) (A B : List ByteArray) (s : Bool) (n : Int) (k : Nat) (h : IsTape w T v (rowOf A B s)) (hs : s = false → A = []) (hk : (k : Int) = min (max n 0) B.length) (hl : A.length + B.length < 999999) (hn : -9223372036854775808 ≤ n ∧ n ≤ 9223372036854775807) :
    Calls Tryd.prog 21 #[.pointer (some ⟨T, 0, none⟩), .int .i64 n] w fun e w' => e = .returned (.tuple #[]) ∧ ∃ v', IsTape w' T v' (rowOf (A ++ B.take k) [] true) ∧ KT T v w w' ∧ NewOr w v v' := by
  have hkB : k ≤ B.length := by omega
  cases s with
  | false =>
    obtain rfl := hs rfl
    have hlen := rowOf_len [] B false
    refine (hold_no w T v (rowOf [] B false) n k h (at_false B) (by rw [hlen]; simpa using hk) (by rw [hlen]; simp at hl ⊢; omega) hn).mono ?_
    rintro e w' ⟨he, v', h1, h2⟩
    refine ⟨he, v', ?_, h2⟩
    have e1 := cut_false B k hkB
    rw [List.drop_length, List.append_nil] at e1
    rw [e1] at h1
    simpa [rowOf] using h1
  | true =>
    have hlen := rowOf_len A B true
    simp only [if_true] at hlen
    refine (hold_yes w T v (rowOf A B true) n A.length k (A.length + 1 + k) (A.length + k) h (at_true A B) (by rw [hlen]; omega) (by rw [hlen]; omega) rfl rfl (by rw [hlen]; omega) hn).mono ?_
    rintro e w' ⟨he, v', h1, h2⟩
    refine ⟨he, v', ?_, h2⟩
    have e1 := cut_true A B k hkB
    rw [List.drop_length, List.append_nil] at e1
    rw [e1, out_true, put_sgn] at h1
    exact h1

set_option maxRecDepth 100000 in
set_option maxHeartbeats 2000000 in
theorem crash_any (w : World) (T : Nat) (v : Value) (A B : List ByteArray) (s : Bool) (n : Int) (k : Nat) (h : IsTape w T v (rowOf A B s)) (hs : s = false → A = []) (hk : (k : Int) = min (max n 0) B.length) (hl : A.length + B.length < 999999) (hn : -9223372036854775808 ≤ n ∧ n ≤ 9223372036854775807) :
    Calls Tryd.prog 11 #[.pointer (some ⟨T, 0, none⟩), .int .i64 n] w fun e w' => e = .returned (.tuple #[]) ∧ ∃ v', IsTape w' T v' (rowOf (A ++ B.take k) [] true) ∧ KT T v w w' ∧ NewOr w v v' := by
  have kh := hold_any w T v A B s n k h hs hk hl hn
  clear hk hn hl
  go_enter Tryd.func11, Tryd.ntmps11
  go_wp2_with (go_at_call 21; refine kh.mono ?_; rintro e w1 ⟨rfl, v1, h1, h2, h3⟩)
  go_end0
  exact ⟨rfl, v1, h1, h2, h3⟩

set_option maxRecDepth 100000 in
set_option maxHeartbeats 2000000 in
theorem sync_any (w : World) (T : Nat) (v : Value) (A B : List ByteArray) (s : Bool) (h : IsTape w T v (rowOf A B s)) (hs : s = false → A = []) (hl : A.length + B.length < 999999) :
    Calls Tryd.prog 8 #[.pointer (some ⟨T, 0, none⟩)] w fun e w' => e = .returned (.tuple #[]) ∧ ∃ v', IsTape w' T v' (rowOf (A ++ B) [] true) ∧ KT T v w w' ∧ NewOr w v v' := by
  have hlen := rowOf_len A B s
  have hz : (rowOf A B s).length ≤ 999999 := by rw [hlen]; split <;> omega
  have kh := hold_any w T v A B s (rowOf A B s).length B.length h hs (by rw [hlen]; split <;> omega) hl (by omega)
  rw [List.take_length] at kh
  obtain ⟨a, c, rfl, _⟩ := h.cs
  have c0 : w.cell? ⟨T, 0, none⟩ = some (.slice a (rowOf A B s).length c) := h.box.cell rfl
  generalize (rowOf A B s).length = len at *
  clear hlen hl
  go_enter Tryd.func8, Tryd.ntmps8
  go_wp2_with (go_at_call 21; refine kh.mono ?_; rintro e w1 ⟨rfl, v1, h1, h2, h3⟩)
  go_end0
  exact ⟨rfl, v1, h1, h2, h3⟩

theorem at_row (A B : List ByteArray) (s : Bool) (hs : s = false → A = []) : max (lastS (rowOf A B s) (rowOf A B s).length) 0 = A.length := by
  cases s with
  | false => obtain rfl := hs rfl; rw [at_false]; rfl
  | true => rw [at_true]; omega

set_option maxRecDepth 100000 in
set_option maxHeartbeats 2000000 in
theorem lasting_any (w : World) (T : Nat) (v : Value) (A B : List ByteArray) (s : Bool) (h : IsTape w T v (rowOf A B s)) (hs : s = false → A = []) :
    Calls Tryd.prog 10 #[.pointer (some ⟨T, 0, none⟩)] w fun e w' => e = .returned (.int .i64 A.length) ∧ w' = w := by
  obtain ⟨a, c, rfl, hcs⟩ := h.cs
  have ka := signAt_any a c _ w hcs
  have hm := at_row A B s hs
  generalize lastS (rowOf A B s) (rowOf A B s).length = t at *
  have c0 : w.cell? ⟨T, 0, none⟩ = some (.slice a (rowOf A B s).length c) := h.box.cell rfl
  generalize (rowOf A B s).length = len at *
  have hm' : Hid (max t 0 = A.length) := hm
  clear hm h
  go_enter Tryd.func10, Tryd.ntmps10
  go_wp2_with (go_at_call 23; refine ka.mono ?_; rintro e w1 ⟨rfl, rfl⟩)
  all_goals
    go_ret
    refine ⟨?_, rfl⟩
    have := hm'.out
    simp
    omega

set_option maxRecDepth 100000 in
set_option maxHeartbeats 2000000 in
theorem tlines_any (w : World) (T : Nat) (v : Value) (A B : List ByteArray) (s : Bool) (h : IsTape w T v (rowOf A B s)) :
    Calls Tryd.prog 9 #[.pointer (some ⟨T, 0, none⟩)] w fun e w' => ∃ a c, e = .returned (.slice a (A ++ B).length c) ∧ w'.ownsRow w.heap.size 9 1 (.slice a (A ++ B).length c) (A ++ B).length ((A ++ B).map Value.string) ∧ Below w.heap.size w w' := by
  obtain ⟨a, c, rfl, hcs⟩ := h.cs
  have kl := lines_any a c _ w hcs
  rw [lines_rowOf] at kl
  have c0 : w.cell? ⟨T, 0, none⟩ = some (.slice a (rowOf A B s).length c) := h.box.cell rfl
  generalize (rowOf A B s).length = len at *
  clear h
  go_enter Tryd.func9, Tryd.ntmps9
  go_wp2_with (go_at_call 22; refine kl.mono ?_; rintro e w1 ⟨v1, rfl, ho1, hb1⟩; obtain ⟨a1, c1, rfl⟩ := slice_of_own ho1)
  go_ret
  exact ⟨a1, c1, by rw [List.length_append]; rfl, ho1, hb1⟩

end Go.Proofs.YtmldpihjndafaabDoor
