/- The contracts of the functions that hold a Vec against its bounds: of package vec, and of package spec. -/
import Derived.Test.YtlehlbgaboifoabGreatDoorMg02
import Derived.Deep.RegionHeld3
import Derived.Deep.DrawnRows
import Derived.StillTactics
import Derived.Laws.Pointers
namespace Go.Proofs.YtlehlbgaboifoabGreatDoor
open Go.RowKit
attribute [local go_sem ↓] Go.wp_at_zero Go.wp_at_succ

theorem eqVec (x y u v : Int) (w : World) : (Op.equalIn 10000 57 (.agg #[.int .i64 x, .int .i64 y]) (.agg #[.int .i64 u, .int .i64 v])).run Tryz.prog w = .ok (x == u && y == v) w := by
  rw [run_equalIn_struct w 9999 57 _ _ (by kernel_rfl) (by kernel_rfl)]
  have p0 : ∀ (a b : Value) w, (part 3 #[a, b] 0).run Tryz.prog w = .ok a w := fun _ _ _ => by kernel_rfl
  have p1 : ∀ (a b : Value) w, (part 3 #[a, b] 1).run Tryz.prog w = .ok b w := fun _ _ _ => by kernel_rfl
  have q : ∀ (a b : Int) w, (Op.equalIn 9999 3 (.int .i64 a) (.int .i64 b)).run Tryz.prog w = .ok (a == b) w := fun a b w => run_equalIn_int w 9998 3 .i64 .i64 a b Tryz.underlying3
  by_cases h1 : x = u <;> by_cases h2 : y = v <;> simp [Program.fieldsOf, Tryz.underlying57, Op.eqFields, Sem.run_bind, p0, p1, q, h1, h2, Result.andThen]

theorem right_eq (x y : Int) : (x == max x 0 && y == max y 0) = decide (0 ≤ x ∧ 0 ≤ y) := by
  rw [Bool.eq_iff_iff]; simp; omega

/-- A part of a Vec is within its bounds. -/
def sizeB (x y : Int) : Bool := decide (0 ≤ x ∧ 0 ≤ y ∧ x ≤ 1099511627776 ∧ y ≤ 1099511627776)

/-- The block of one pair of numbers. -/
abbrev V (x y : Int) : Obj := .cells #[.int .i64 x, .int .i64 y] 57

theorem raised_any (x y : Int) (w : World) :
    Calls Tryz.prog 181 #[.agg #[.int .i64 x, .int .i64 y]] w fun e w' => e = .returned (.agg #[.int .i64 (max x 0), .int .i64 (max y 0)]) ∧ Below w.heap.size w w' := by
  have hx : max x 0 = if x < 0 then 0 else x := by omega
  have hy : max y 0 = if y < 0 then 0 else y := by omega
  rw [hx, hy]
  clear hx hy
  by_cases h1 : x < 0 <;> by_cases h2 : y < 0 <;> simp only [h1, h2, if_true, if_false]
  all_goals
    go_enter Tryz.func181, Tryz.ntmps181
    go_wp2
    refine bodyPost_ret (by simp [results, Tryz.results181, go_sem]) rfl ⟨rfl, ?_⟩
    exact ((Below.refl _ _).alloc (Nat.le_refl _) _).alloc (by simp) _

theorem lowered_any (x y : Int) (w : World) :
    Calls Tryz.prog 140 #[.agg #[.int .i64 x, .int .i64 y]] w fun e w' => e = .returned (.agg #[.int .i64 (min x 1099511627776), .int .i64 (min y 1099511627776)]) ∧ Below w.heap.size w w' := by
  have hx : min x 1099511627776 = if 1099511627776 < x then 1099511627776 else x := by omega
  have hy : min y 1099511627776 = if 1099511627776 < y then 1099511627776 else y := by omega
  rw [hx, hy]
  clear hx hy
  by_cases h1 : 1099511627776 < x <;> by_cases h2 : 1099511627776 < y <;> simp only [h1, h2, if_true, if_false]
  all_goals
    go_enter Tryz.func140, Tryz.ntmps140
    go_wp2
    refine bodyPost_ret (by simp [results, Tryz.results140, go_sem]) rfl ⟨rfl, ?_⟩
    exact ((Below.refl _ _).alloc (Nat.le_refl _) _).alloc (by simp) _

/-- What a call leaves, with one pair of cells that stays. -/
theorem held_pair {F : Nat} {args : Array Value} {v : Value} {w0 W : World} {B : Nat} {x y : Int} (h : Calls Tryz.prog F args W fun e w' => e = .returned v ∧ Below W.heap.size W w')
    (h1 : W.cell? ⟨B, 0, none⟩ = some (.int .i64 x)) (h2 : W.cell? ⟨B, 1, none⟩ = some (.int .i64 y)) (h0 : Below w0.heap.size w0 W) :
    Calls Tryz.prog F args W fun e w' => e = .returned v ∧ w'.cell? ⟨B, 0, none⟩ = some (.int .i64 x) ∧ w'.cell? ⟨B, 1, none⟩ = some (.int .i64 y) ∧ Below w0.heap.size w0 w' :=
  h.mono fun _ _ h => ⟨h.1, cell_below h.2 h1 (block_lt h1), cell_below h.2 h2 (block_lt h2), h0.trans (h.2.mono h0.size)⟩

theorem right_any (b : Bool) (x y : Int) (h : decide (0 ≤ x ∧ 0 ≤ y) = b) (w : World) :
    Calls Tryz.prog 139 #[.agg #[.int .i64 x, .int .i64 y]] w fun e w' => e = .returned (.bool b) ∧ Below w.heap.size w w' := by
  have he := eqVec
  have h' : (x == max x 0 && y == max y 0) = b := by rw [right_eq, h]
  clear h
  go_enter Tryz.func139, Tryz.ntmps139
  go_wp2
  go_region_with (go_at_call 181; refine (held_pair (w0 := w) (B := w.heap.size) (x := x) (y := y) (raised_any _ _ _) (by simp) (by simp) (Below.drew ((Below.refl _ _).alloc (Nat.le_refl _) _))).mono ?_; rintro e w1 ⟨rfl, hc1, hc2, hb1⟩)
  all_goals
    go_wp2
    go_ret
    exact ⟨rfl, hb1⟩

theorem bounded_any (b : Bool) (x y : Int) (h : sizeB x y = b) (w : World) :
    Calls Tryz.prog 113 #[.agg #[.int .i64 x, .int .i64 y]] w fun e w' => e = .returned (.bool b) ∧ Below w.heap.size w w' := by
  have he := eqVec
  obtain ⟨r, hr⟩ : ∃ r, decide (0 ≤ x ∧ 0 ≤ y) = r := ⟨_, rfl⟩
  cases r
  · have e : b = false := by
      subst h
      unfold sizeB
      simp at hr ⊢
      omega
    subst e
    clear h
    go_enter Tryz.func113, Tryz.ntmps113
    go_wp2
    go_region_with (go_at_call 139; refine (right_any _ _ _ (by assumption) _).mono ?_; rintro e w1 ⟨rfl, hb1⟩)
    all_goals
      go_wp2
      go_ret
      have c3 : Below w.heap.size w (w.alloc (V x y)).drew := Below.drew ((Below.refl _ _).alloc (Nat.le_refl _) _)
      exact ⟨rfl, c3.trans (hb1.mono c3.size)⟩
  · have h' : (x == min x 1099511627776 && y == min y 1099511627776) = b := by
      subst h
      unfold sizeB
      rw [Bool.eq_iff_iff]; simp at hr ⊢; omega
    clear h
    go_enter Tryz.func113, Tryz.ntmps113
    go_wp2
    have c1 : (w.alloc (V x y)).drew.cell? ⟨w.heap.size, 0, none⟩ = some (.int .i64 x) := by simp
    have c2 : (w.alloc (V x y)).drew.cell? ⟨w.heap.size, 1, none⟩ = some (.int .i64 y) := by simp
    have c3 : Below w.heap.size w (w.alloc (V x y)).drew := Below.drew ((Below.refl _ _).alloc (Nat.le_refl _) _)
    go_region_held3 (fun w' => w'.cell? ⟨w.heap.size, 0, none⟩ = some (.int .i64 x) ∧ w'.cell? ⟨w.heap.size, 1, none⟩ = some (.int .i64 y) ∧ Below w.heap.size w w') (exact ⟨by assumption, by assumption, by assumption⟩)
      (first
        | (go_at_call 139; refine (held_pair (right_any _ _ _ (by assumption) _) (by assumption) (by assumption) (by assumption)).mono ?_; rintro e w1 ⟨rfl, hc1, hc2, hb1⟩)
        | (go_at_call 140; refine (held_pair (lowered_any _ _ _) (by assumption) (by assumption) (by assumption)).mono ?_; rintro e w1 ⟨rfl, hc1, hc2, hb1⟩)
        | fail)
    go_wp2
    go_ret
    exact ⟨rfl, by assumption⟩

end Go.Proofs.YtlehlbgaboifoabGreatDoor

/- Pods and nodes as values; the contracts of asked, Pod and Node of package spec. -/
namespace Go.Proofs.YtlehlbgaboifoabGreatDoor
open Go.RowKit
attribute [local go_sem ↓] Go.wp_at_zero Go.wp_at_succ

/-- The errors that pods and nodes have in common. -/
def askE (name : Bool) (num : Bool) (s t : Bool) : Int := if name then (if num then (if s && t then 0 else 1) else 2) else 1

theorem set_is (a : Option Addr) (n c : Nat) (ss : List ByteArray) (b : Bool) (W : World) (h : Strs W a ss) (e : ss.length = n) (hb : setB ss = b) :
    Calls Tryz.prog 141 #[.slice a n c] W fun e w' => e = .returned (.bool b) ∧ Below W.heap.size W w' := by
  subst e hb
  exact set_any a c ss W h

set_option maxRecDepth 100000 in
theorem asked_any (s : ByteArray) (num : Bool) (a1 a2 : Option Addr) (n1 n2 c1 c2 : Nat) (xs ys : List ByteArray) (w : World) (h1 : Strs w a1 xs) (h2 : Strs w a2 ys) (e1 : xs.length = n1) (e2 : ys.length = n2) :
    Calls Tryz.prog 114 #[.string s, .bool num, .slice a1 n1 c1, .slice a2 n2 c2] w fun e w' => e = .returned (.int .i64 (askE (isName s) num (setB xs) (setB ys))) ∧ Below w.heap.size w w' := by
  obtain ⟨b0, hb0⟩ : ∃ b, isName s = b := ⟨_, rfl⟩
  obtain ⟨b1, hb1⟩ : ∃ b, setB xs = b := ⟨_, rfl⟩
  obtain ⟨b2, hb2⟩ : ∃ b, setB ys = b := ⟨_, rfl⟩
  have n := name_any s w
  rw [hb0] at n
  rw [hb0, hb1, hb2]
  have k1 := fun W (h : Below w.heap.size w W) => set_is a1 n1 c1 xs b1 W (h1.later h) e1 hb1
  have k2 := fun W (h : Below w.heap.size w W) => set_is a2 n2 c2 ys b2 W (h2.later h) e2 hb2
  clear h1 h2 e1 e2 hb0 hb1 hb2
  cases b0 <;> cases num <;> cases b1 <;> cases b2
  all_goals
    go_enter Tryz.func114, Tryz.ntmps114
    go_wp2_with (first
      | (go_at_call 119; refine n.mono ?_; rintro e w3 ⟨rfl, h3⟩; try replace k1 := k1 _ h3)
      | (go_at_call_of 141 (Value.slice a1 n1 c1); refine k1.mono ?_; rintro e w4 ⟨rfl, h4⟩; replace h3 := h3.trans (h4.mono h3.size); replace k2 := k2 _ h3)
      | (go_at_call_of 141 (Value.slice a2 n2 c2); refine k2.mono ?_; rintro e w5 ⟨rfl, h5⟩; replace h3 := h3.trans (h5.mono h3.size)))
    go_ret
    exact ⟨rfl, h3⟩

theorem bounded_is (b : Bool) (x y : Int) (h : sizeB x y = b) (w W : World) (hb : Below w.heap.size w W) :
    Calls Tryz.prog 113 #[.agg #[.int .i64 x, .int .i64 y]] W fun e w' => e = .returned (.bool b) ∧ Below w.heap.size w w' ∧ Below W.heap.size W w' :=
  (bounded_any b x y h W).mono fun _ _ h => ⟨h.1, hb.trans (h.2.mono hb.size), h.2⟩

/-- What Node answers. -/
def nodeE (s : ByteArray) (cpu mem : Int) (xs ys : List ByteArray) : Int := askE (isName s) (sizeB cpu mem) (setB xs) (setB ys)

theorem held_node {F : Nat} {args : Array Value} {v : Value} {w0 W : World} {B : Nat} {s : ByteArray} {x y : Int} {u t : Value} (h : Calls Tryz.prog F args W fun e w' => e = .returned v ∧ Below W.heap.size W w')
    (h1 : W.cell? ⟨B, 0, none⟩ = some (.string s)) (h2 : W.cell? ⟨B, 1, none⟩ = some (.int .i64 x)) (h3 : W.cell? ⟨B, 2, none⟩ = some (.int .i64 y)) (h4 : W.cell? ⟨B, 3, none⟩ = some u) (h5 : W.cell? ⟨B, 4, none⟩ = some t) (h0 : Below w0.heap.size w0 W) :
    Calls Tryz.prog F args W fun e w' => e = .returned v ∧ w'.cell? ⟨B, 0, none⟩ = some (.string s) ∧ w'.cell? ⟨B, 1, none⟩ = some (.int .i64 x) ∧ w'.cell? ⟨B, 2, none⟩ = some (.int .i64 y) ∧ w'.cell? ⟨B, 3, none⟩ = some u ∧ w'.cell? ⟨B, 4, none⟩ = some t ∧ Below w0.heap.size w0 w' :=
  h.mono fun _ _ h => ⟨h.1, cell_below h.2 h1 (block_lt h1), cell_below h.2 h2 (block_lt h2), cell_below h.2 h3 (block_lt h3), cell_below h.2 h4 (block_lt h4), cell_below h.2 h5 (block_lt h5), h0.trans (h.2.mono h0.size)⟩

set_option maxRecDepth 100000 in
set_option maxHeartbeats 1000000 in
theorem node_any (s : ByteArray) (cpu mem : Int) (a1 a2 : Option Addr) (n1 n2 c1 c2 : Nat) (al : Bool) (xs ys : List ByteArray) (w : World) (h1 : Strs w a1 xs) (h2 : Strs w a2 ys) (e1 : xs.length = n1) (e2 : ys.length = n2) :
    Calls Tryz.prog 81 #[.agg #[.string s, .int .i64 cpu, .int .i64 mem, .slice a1 n1 c1, .slice a2 n2 c2, .bool al]] w fun e w' =>
      e = .returned (.int .i64 (nodeE s cpu mem xs ys)) ∧ Below w.heap.size w w' := by
  unfold nodeE
  obtain ⟨b, hb⟩ : ∃ b, sizeB cpu mem = b := ⟨_, rfl⟩
  rw [hb]
  have kb := fun W => bounded_any b cpu mem hb W
  have ka := fun num W (h : Below w.heap.size w W) => asked_any s num a1 a2 n1 n2 c1 c2 xs ys W (h1.later h) (h2.later h) e1 e2
  clear h1 h2 e1 e2 hb
  go_enter Tryz.func81, Tryz.ntmps81
  go_wp2
  have hO : Below w.heap.size w (w.alloc (.cells #[.string s, .int .i64 cpu, .int .i64 mem, .slice a1 n1 c1, .slice a2 n2 c2, .bool al] 86)).drew := Below.drew ((Below.refl _ _).alloc (Nat.le_refl _) _)
  have c0 : (w.alloc (.cells #[.string s, .int .i64 cpu, .int .i64 mem, .slice a1 n1 c1, .slice a2 n2 c2, .bool al] 86)).drew.cell? ⟨w.heap.size, 0, none⟩ = some (.string s) := by simp
  have c1' : (w.alloc (.cells #[.string s, .int .i64 cpu, .int .i64 mem, .slice a1 n1 c1, .slice a2 n2 c2, .bool al] 86)).drew.cell? ⟨w.heap.size, 1, none⟩ = some (.int .i64 cpu) := by simp
  have c2' : (w.alloc (.cells #[.string s, .int .i64 cpu, .int .i64 mem, .slice a1 n1 c1, .slice a2 n2 c2, .bool al] 86)).drew.cell? ⟨w.heap.size, 2, none⟩ = some (.int .i64 mem) := by simp
  have c3' : (w.alloc (.cells #[.string s, .int .i64 cpu, .int .i64 mem, .slice a1 n1 c1, .slice a2 n2 c2, .bool al] 86)).drew.cell? ⟨w.heap.size, 3, none⟩ = some (.slice a1 n1 c1) := by simp
  have c4' : (w.alloc (.cells #[.string s, .int .i64 cpu, .int .i64 mem, .slice a1 n1 c1, .slice a2 n2 c2, .bool al] 86)).drew.cell? ⟨w.heap.size, 4, none⟩ = some (.slice a2 n2 c2) := by simp
  go_region_held3 (fun w' => w'.cell? ⟨w.heap.size, 0, none⟩ = some (.string s) ∧ w'.cell? ⟨w.heap.size, 1, none⟩ = some (.int .i64 cpu) ∧ w'.cell? ⟨w.heap.size, 2, none⟩ = some (.int .i64 mem) ∧ w'.cell? ⟨w.heap.size, 3, none⟩ = some (.slice a1 n1 c1) ∧ w'.cell? ⟨w.heap.size, 4, none⟩ = some (.slice a2 n2 c2) ∧ Below w.heap.size w w')
    (exact ⟨by assumption, by assumption, by assumption, by assumption, by assumption, by assumption⟩)
    (first
      | (go_at_call 113; refine (held_node (kb _) (by assumption) (by assumption) (by assumption) (by assumption) (by assumption) (by assumption)).mono ?_; rintro e w1 ⟨rfl, g0, g1, g2, g3, g4, g5⟩)
      | (go_at_call 114; refine (held_node (ka _ _ (by assumption)) (by assumption) (by assumption) (by assumption) (by assumption) (by assumption) (by assumption)).mono ?_; rintro e w1 ⟨rfl, g0, g1, g2, g3, g4, g5⟩)
      | fail)
  go_wp2
  go_ret
  exact ⟨rfl, by assumption⟩

end Go.Proofs.YtlehlbgaboifoabGreatDoor
