/- Pods and nodes as values; the contracts of asked, Pod and Node of package spec. -/
import Derived.Test.YtpgchnppinbpkaaDoorV
namespace Go.Proofs.YtpgchnppinbpkaaDoor
open Go.RowKit
attribute [local go_sem ↓] Go.wp_at_zero Go.wp_at_succ

/-- The errors that pods and nodes have in common. -/
def askE (name : Bool) (num : Bool) (s t : Bool) : Int := if name then (if num then (if s && t then 0 else 1) else 2) else 1

theorem set_is (a : Option Addr) (n c : Nat) (ss : List ByteArray) (b : Bool) (W : World) (h : Strs W a ss) (e : ss.length = n) (hb : setB ss = b) :
    Calls Tryd.prog 75 #[.slice a n c] W fun e w' => e = .returned (.bool b) ∧ Below W.heap.size W w' := by
  subst e hb
  exact set_any a c ss W h

set_option maxRecDepth 100000 in
theorem asked_any (s : ByteArray) (num : Bool) (a1 a2 : Option Addr) (n1 n2 c1 c2 : Nat) (xs ys : List ByteArray) (w : World) (h1 : Strs w a1 xs) (h2 : Strs w a2 ys) (e1 : xs.length = n1) (e2 : ys.length = n2) :
    Calls Tryd.prog 58 #[.string s, .bool num, .slice a1 n1 c1, .slice a2 n2 c2] w fun e w' => e = .returned (.int .i64 (askE (isName s) num (setB xs) (setB ys))) ∧ Below w.heap.size w w' := by
  obtain ⟨b0, hb0⟩ : ∃ b, isName s = b := ⟨_, rfl⟩
  obtain ⟨b1, hb1⟩ : ∃ b, setB xs = b := ⟨_, rfl⟩
  obtain ⟨b2, hb2⟩ : ∃ b, setB ys = b := ⟨_, rfl⟩
  have n := name_any s w
  rw [hb0] at n
  rw [hb0, hb1, hb2]
  have k1 := fun W (h : Below w.heap.size w W) => set_is a1 n1 c1 xs b1 W (h1.later h) e1 hb1
  have k2 := fun W (h : Below w.heap.size w W) => set_is a2 n2 c2 ys b2 W (h2.later h) e2 hb2
  clear h1 h2 e1 e2 hb0 hb1 hb2
  cases b0 <;> cases num <;> cases b1 <;> cases b2
  all_goals
    go_enter Tryd.func58, Tryd.ntmps58
    go_wp2_with (first
      | (go_at_call 74; refine n.mono ?_; rintro e w3 ⟨rfl, h3⟩; try replace k1 := k1 _ h3)
      | (go_at_call_of 75 (Value.slice a1 n1 c1); refine k1.mono ?_; rintro e w4 ⟨rfl, h4⟩; replace h3 := h3.trans (h4.mono h3.size); replace k2 := k2 _ h3)
      | (go_at_call_of 75 (Value.slice a2 n2 c2); refine k2.mono ?_; rintro e w5 ⟨rfl, h5⟩; replace h3 := h3.trans (h5.mono h3.size)))
    go_ret
    exact ⟨rfl, h3⟩

theorem bounded_is (b : Bool) (x y : Int) (h : sizeB x y = b) (w W : World) (hb : Below w.heap.size w W) :
    Calls Tryd.prog 59 #[.agg #[.int .i64 x, .int .i64 y]] W fun e w' => e = .returned (.bool b) ∧ Below w.heap.size w w' ∧ Below W.heap.size W w' :=
  (bounded_any b x y h W).mono fun _ _ h => ⟨h.1, hb.trans (h.2.mono hb.size), h.2⟩

/-- What Node answers. -/
def nodeE (s : ByteArray) (cpu mem : Int) (xs ys : List ByteArray) : Int := askE (isName s) (sizeB cpu mem) (setB xs) (setB ys)

theorem held_node {F : Nat} {args : Array Value} {v : Value} {w0 W : World} {B : Nat} {s : ByteArray} {x y : Int} {u t : Value} (h : Calls Tryd.prog F args W fun e w' => e = .returned v ∧ Below W.heap.size W w')
    (h1 : W.cell? ⟨B, 0, none⟩ = some (.string s)) (h2 : W.cell? ⟨B, 1, none⟩ = some (.int .i64 x)) (h3 : W.cell? ⟨B, 2, none⟩ = some (.int .i64 y)) (h4 : W.cell? ⟨B, 3, none⟩ = some u) (h5 : W.cell? ⟨B, 4, none⟩ = some t) (h0 : Below w0.heap.size w0 W) :
    Calls Tryd.prog F args W fun e w' => e = .returned v ∧ w'.cell? ⟨B, 0, none⟩ = some (.string s) ∧ w'.cell? ⟨B, 1, none⟩ = some (.int .i64 x) ∧ w'.cell? ⟨B, 2, none⟩ = some (.int .i64 y) ∧ w'.cell? ⟨B, 3, none⟩ = some u ∧ w'.cell? ⟨B, 4, none⟩ = some t ∧ Below w0.heap.size w0 w' :=
  h.mono fun _ _ h => ⟨h.1, cell_below h.2 h1 (block_lt h1), cell_below h.2 h2 (block_lt h2), cell_below h.2 h3 (block_lt h3), cell_below h.2 h4 (block_lt h4), cell_below h.2 h5 (block_lt h5), h0.trans (h.2.mono h0.size)⟩

set_option maxRecDepth 100000 in
set_option maxHeartbeats 1000000 in
theorem node_any (s : ByteArray) (cpu mem : Int) (a1 a2 : Option Addr) (n1 n2 c1 c2 : Nat) (al : Bool) (xs ys : List ByteArray) (w : World) (h1 : Strs w a1 xs) (h2 : Strs w a2 ys) (e1 : xs.length = n1) (e2 : ys.length = n2) :
    Calls Tryd.prog 34 #[.agg #[.string s, .int .i64 cpu, .int .i64 mem, .slice a1 n1 c1, .slice a2 n2 c2, .bool al]] w fun e w' =>
      e = .returned (.int .i64 (nodeE s cpu mem xs ys)) ∧ Below w.heap.size w w' := by
  unfold nodeE
  obtain ⟨b, hb⟩ : ∃ b, sizeB cpu mem = b := ⟨_, rfl⟩
  rw [hb]
  have kb := fun W => bounded_any b cpu mem hb W
  have ka := fun num W (h : Below w.heap.size w W) => asked_any s num a1 a2 n1 n2 c1 c2 xs ys W (h1.later h) (h2.later h) e1 e2
  clear h1 h2 e1 e2 hb
  go_enter Tryd.func34, Tryd.ntmps34
  go_wp2
  have hO : Below w.heap.size w (w.alloc (.cells #[.string s, .int .i64 cpu, .int .i64 mem, .slice a1 n1 c1, .slice a2 n2 c2, .bool al] 43)).drew := Below.drew ((Below.refl _ _).alloc (Nat.le_refl _) _)
  have c0 : (w.alloc (.cells #[.string s, .int .i64 cpu, .int .i64 mem, .slice a1 n1 c1, .slice a2 n2 c2, .bool al] 43)).drew.cell? ⟨w.heap.size, 0, none⟩ = some (.string s) := by simp
  have c1' : (w.alloc (.cells #[.string s, .int .i64 cpu, .int .i64 mem, .slice a1 n1 c1, .slice a2 n2 c2, .bool al] 43)).drew.cell? ⟨w.heap.size, 1, none⟩ = some (.int .i64 cpu) := by simp
  have c2' : (w.alloc (.cells #[.string s, .int .i64 cpu, .int .i64 mem, .slice a1 n1 c1, .slice a2 n2 c2, .bool al] 43)).drew.cell? ⟨w.heap.size, 2, none⟩ = some (.int .i64 mem) := by simp
  have c3' : (w.alloc (.cells #[.string s, .int .i64 cpu, .int .i64 mem, .slice a1 n1 c1, .slice a2 n2 c2, .bool al] 43)).drew.cell? ⟨w.heap.size, 3, none⟩ = some (.slice a1 n1 c1) := by simp
  have c4' : (w.alloc (.cells #[.string s, .int .i64 cpu, .int .i64 mem, .slice a1 n1 c1, .slice a2 n2 c2, .bool al] 43)).drew.cell? ⟨w.heap.size, 4, none⟩ = some (.slice a2 n2 c2) := by simp
  go_region_held3 (fun w' => w'.cell? ⟨w.heap.size, 0, none⟩ = some (.string s) ∧ w'.cell? ⟨w.heap.size, 1, none⟩ = some (.int .i64 cpu) ∧ w'.cell? ⟨w.heap.size, 2, none⟩ = some (.int .i64 mem) ∧ w'.cell? ⟨w.heap.size, 3, none⟩ = some (.slice a1 n1 c1) ∧ w'.cell? ⟨w.heap.size, 4, none⟩ = some (.slice a2 n2 c2) ∧ Below w.heap.size w w')
    (exact ⟨by assumption, by assumption, by assumption, by assumption, by assumption, by assumption⟩)
    (first
      | (go_at_call 59; refine (held_node (kb _) (by assumption) (by assumption) (by assumption) (by assumption) (by assumption) (by assumption)).mono ?_; rintro e w1 ⟨rfl, g0, g1, g2, g3, g4, g5⟩)
      | (go_at_call 58; refine (held_node (ka _ _ (by assumption)) (by assumption) (by assumption) (by assumption) (by assumption) (by assumption) (by assumption)).mono ?_; rintro e w1 ⟨rfl, g0, g1, g2, g3, g4, g5⟩)
      | fail)
  go_wp2
  go_ret
  exact ⟨rfl, by assumption⟩

end Go.Proofs.YtpgchnppinbpkaaDoor
