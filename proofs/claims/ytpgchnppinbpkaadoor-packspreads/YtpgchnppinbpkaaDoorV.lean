/- The contracts of the functions that hold a Vec against its bounds: of package vec, and of package spec. -/
import Derived.Test.YtpgchnppinbpkaaDoorS
import Derived.Deep.RegionHeld3
import Derived.Deep.DrawnRows
import Derived.StillTactics
import Derived.Laws.Pointers
namespace Go.Proofs.YtpgchnppinbpkaaDoor
open Go.RowKit
attribute [local go_sem ↓] Go.wp_at_zero Go.wp_at_succ

theorem eqVec (x y u v : Int) (w : World) : (Op.equalIn 10000 40 (.agg #[.int .i64 x, .int .i64 y]) (.agg #[.int .i64 u, .int .i64 v])).run Tryd.prog w = .ok (x == u && y == v) w := by
  rw [run_equalIn_struct w 9999 40 _ _ (by kernel_rfl) (by kernel_rfl)]
  have p0 : ∀ (a b : Value) w, (part 3 #[a, b] 0).run Tryd.prog w = .ok a w := fun _ _ _ => by kernel_rfl
  have p1 : ∀ (a b : Value) w, (part 3 #[a, b] 1).run Tryd.prog w = .ok b w := fun _ _ _ => by kernel_rfl
  have q : ∀ (a b : Int) w, (Op.equalIn 9999 3 (.int .i64 a) (.int .i64 b)).run Tryd.prog w = .ok (a == b) w := fun a b w => run_equalIn_int w 9998 3 .i64 .i64 a b Tryd.underlying3
  by_cases h1 : x = u <;> by_cases h2 : y = v <;> simp [Program.fieldsOf, Tryd.underlying40, Op.eqFields, Sem.run_bind, p0, p1, q, h1, h2, Result.andThen]

theorem right_eq (x y : Int) : (x == max x 0 && y == max y 0) = decide (0 ≤ x ∧ 0 ≤ y) := by
  rw [Bool.eq_iff_iff]; simp; omega

/-- A part of a Vec is within its bounds. -/
def sizeB (x y : Int) : Bool := decide (0 ≤ x ∧ 0 ≤ y ∧ x ≤ 1099511627776 ∧ y ≤ 1099511627776)

/-- The block of one pair of numbers. -/
abbrev V (x y : Int) : Obj := .cells #[.int .i64 x, .int .i64 y] 40

theorem raised_any (x y : Int) (w : World) :
    Calls Tryd.prog 73 #[.agg #[.int .i64 x, .int .i64 y]] w fun e w' => e = .returned (.agg #[.int .i64 (max x 0), .int .i64 (max y 0)]) ∧ Below w.heap.size w w' := by
  have hx : max x 0 = if x < 0 then 0 else x := by omega
  have hy : max y 0 = if y < 0 then 0 else y := by omega
  rw [hx, hy]
  clear hx hy
  by_cases h1 : x < 0 <;> by_cases h2 : y < 0 <;> simp only [h1, h2, if_true, if_false]
  all_goals
    go_enter Tryd.func73, Tryd.ntmps73
    go_wp2
    refine bodyPost_ret (by simp [results, Tryd.results73, go_sem]) rfl ⟨rfl, ?_⟩
    exact ((Below.refl _ _).alloc (Nat.le_refl _) _).alloc (by simp) _

theorem lowered_any (x y : Int) (w : World) :
    Calls Tryd.prog 76 #[.agg #[.int .i64 x, .int .i64 y]] w fun e w' => e = .returned (.agg #[.int .i64 (min x 1099511627776), .int .i64 (min y 1099511627776)]) ∧ Below w.heap.size w w' := by
  have hx : min x 1099511627776 = if 1099511627776 < x then 1099511627776 else x := by omega
  have hy : min y 1099511627776 = if 1099511627776 < y then 1099511627776 else y := by omega
  rw [hx, hy]
  clear hx hy
  by_cases h1 : 1099511627776 < x <;> by_cases h2 : 1099511627776 < y <;> simp only [h1, h2, if_true, if_false]
  all_goals
    go_enter Tryd.func76, Tryd.ntmps76
    go_wp2
    refine bodyPost_ret (by simp [results, Tryd.results76, go_sem]) rfl ⟨rfl, ?_⟩
    exact ((Below.refl _ _).alloc (Nat.le_refl _) _).alloc (by simp) _

/-- What a call leaves, with one pair of cells that stays. -/
theorem held_pair {F : Nat} {args : Array Value} {v : Value} {w0 W : World} {B : Nat} {x y : Int} (h : Calls Tryd.prog F args W fun e w' => e = .returned v ∧ Below W.heap.size W w')
    (h1 : W.cell? ⟨B, 0, none⟩ = some (.int .i64 x)) (h2 : W.cell? ⟨B, 1, none⟩ = some (.int .i64 y)) (h0 : Below w0.heap.size w0 W) :
    Calls Tryd.prog F args W fun e w' => e = .returned v ∧ w'.cell? ⟨B, 0, none⟩ = some (.int .i64 x) ∧ w'.cell? ⟨B, 1, none⟩ = some (.int .i64 y) ∧ Below w0.heap.size w0 w' :=
  h.mono fun _ _ h => ⟨h.1, cell_below h.2 h1 (block_lt h1), cell_below h.2 h2 (block_lt h2), h0.trans (h.2.mono h0.size)⟩

theorem right_any (b : Bool) (x y : Int) (h : decide (0 ≤ x ∧ 0 ≤ y) = b) (w : World) :
    Calls Tryd.prog 57 #[.agg #[.int .i64 x, .int .i64 y]] w fun e w' => e = .returned (.bool b) ∧ Below w.heap.size w w' := by
  have he := eqVec
  have h' : (x == max x 0 && y == max y 0) = b := by rw [right_eq, h]
  clear h
  go_enter Tryd.func57, Tryd.ntmps57
  go_wp2
  go_region_with (go_at_call 73; refine (held_pair (w0 := w) (B := w.heap.size) (x := x) (y := y) (raised_any _ _ _) (by simp) (by simp) (Below.drew ((Below.refl _ _).alloc (Nat.le_refl _) _))).mono ?_; rintro e w1 ⟨rfl, hc1, hc2, hb1⟩)
  all_goals
    go_wp2
    go_ret
    exact ⟨rfl, hb1⟩

theorem bounded_any (b : Bool) (x y : Int) (h : sizeB x y = b) (w : World) :
    Calls Tryd.prog 59 #[.agg #[.int .i64 x, .int .i64 y]] w fun e w' => e = .returned (.bool b) ∧ Below w.heap.size w w' := by
  have he := eqVec
  obtain ⟨r, hr⟩ : ∃ r, decide (0 ≤ x ∧ 0 ≤ y) = r := ⟨_, rfl⟩
  cases r
  · have e : b = false := by
      subst h
      unfold sizeB
      simp at hr ⊢
      omega
    subst e
    clear h
    go_enter Tryd.func59, Tryd.ntmps59
    go_wp2
    go_region_with (go_at_call 57; refine (right_any _ _ _ (by assumption) _).mono ?_; rintro e w1 ⟨rfl, hb1⟩)
    all_goals
      go_wp2
      go_ret
      have c3 : Below w.heap.size w (w.alloc (V x y)).drew := Below.drew ((Below.refl _ _).alloc (Nat.le_refl _) _)
      exact ⟨rfl, c3.trans (hb1.mono c3.size)⟩
  · have h' : (x == min x 1099511627776 && y == min y 1099511627776) = b := by
      subst h
      unfold sizeB
      rw [Bool.eq_iff_iff]; simp at hr ⊢; omega
    clear h
    go_enter Tryd.func59, Tryd.ntmps59
    go_wp2
    have c1 : (w.alloc (V x y)).drew.cell? ⟨w.heap.size, 0, none⟩ = some (.int .i64 x) := by simp
    have c2 : (w.alloc (V x y)).drew.cell? ⟨w.heap.size, 1, none⟩ = some (.int .i64 y) := by simp
    have c3 : Below w.heap.size w (w.alloc (V x y)).drew := Below.drew ((Below.refl _ _).alloc (Nat.le_refl _) _)
    go_region_held3 (fun w' => w'.cell? ⟨w.heap.size, 0, none⟩ = some (.int .i64 x) ∧ w'.cell? ⟨w.heap.size, 1, none⟩ = some (.int .i64 y) ∧ Below w.heap.size w w') (exact ⟨by assumption, by assumption, by assumption⟩)
      (first
        | (go_at_call 57; refine (held_pair (right_any _ _ _ (by assumption) _) (by assumption) (by assumption) (by assumption)).mono ?_; rintro e w1 ⟨rfl, hc1, hc2, hb1⟩)
        | (go_at_call 76; refine (held_pair (lowered_any _ _ _) (by assumption) (by assumption) (by assumption)).mono ?_; rintro e w1 ⟨rfl, hc1, hc2, hb1⟩)
        | fail)
    go_wp2
    go_ret
    exact ⟨rfl, by assumption⟩

end Go.Proofs.YtpgchnppinbpkaaDoor
