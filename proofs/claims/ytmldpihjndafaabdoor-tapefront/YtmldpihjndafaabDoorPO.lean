/- The contract of Pod of package spec. -/
import Derived.Test.YtmldpihjndafaabDoorGA
namespace Go.Proofs.YtmldpihjndafaabDoor
open Go.RowKit
set_option linter.unusedSimpArgs false
set_option linter.unusedVariables false

/-- What Pod answers. -/
def podE (s : ByteArray) (shard cpu mem : Int) (xs ys : List ByteArray) (shards : Int) : Int :=
  askE (isName s) (decide (1 ≤ shard) && decide (shard ≤ shards) && sizeB cpu mem) (setB xs) (setB ys)

set_option maxRecDepth 100000 in
set_option maxHeartbeats 1000000 in
theorem pod_any (s : ByteArray) (shard cpu mem : Int) (a1 a2 : Option Addr) (n1 n2 c1 c2 : Nat) (al : Bool) (xs ys : List ByteArray) (shards : Int) (w : World) (h1 : Strs w a1 xs) (h2 : Strs w a2 ys) (e1 : xs.length = n1) (e2 : ys.length = n2) :
    Calls Tryd.prog 78 #[.agg #[.string s, .int .i64 shard, .int .i64 cpu, .int .i64 mem, .slice a1 n1 c1, .slice a2 n2 c2, .bool al], .int .i64 shards] w fun e w' =>
      e = .returned (.int .i64 (podE s shard cpu mem xs ys shards)) ∧ Below w.heap.size w w' := by
  unfold podE
  obtain ⟨b, hb⟩ : ∃ b, sizeB cpu mem = b := ⟨_, rfl⟩
  rw [hb]
  have hA : ∀ o, Below w.heap.size w (w.alloc o) := fun o => (Below.refl _ _).alloc (Nat.le_refl _) _
  have kb := fun W (h : Below w.heap.size w W) => bounded_is b cpu mem hb w W h
  have ka := fun num W (h : Below w.heap.size w W) => asked_any s num a1 a2 n1 n2 c1 c2 xs ys W (h1.later h) (h2.later h) e1 e2
  clear h1 h2 e1 e2 hb
  have hO := hA (.cells #[.string s, .int .i64 shard, .int .i64 cpu, .int .i64 mem, .slice a1 n1 c1, .slice a2 n2 c2, .bool al] 119)
  by_cases g1 : 1 ≤ shard <;> by_cases g2 : shard ≤ shards <;> simp only [g1, g2, decide_true, decide_false, Bool.and_true, Bool.and_false, Bool.true_and, Bool.false_and]
  · go_enter Tryd.func78, Tryd.ntmps78
    go_wp2_with (first
      | (go_at_call 39; refine (kb _ (by assumption)).mono ?_; rintro e w3 ⟨rfl, h3, h4⟩
         have d0 : w3.cell? ⟨w.heap.size, 0, none⟩ = some (.string s) := cell_below h4 (by simp) (by simp)
         have d4 : w3.cell? ⟨w.heap.size, 4, none⟩ = some (.slice a1 n1 c1) := cell_below h4 (by simp) (by simp)
         have d5 : w3.cell? ⟨w.heap.size, 5, none⟩ = some (.slice a2 n2 c2) := cell_below h4 (by simp) (by simp))
      | (go_at_call 38; refine (ka _ _ (by assumption)).mono ?_; rintro e w5 ⟨rfl, h5⟩))
    go_ret
    exact ⟨rfl, h3.trans (h5.mono h3.size)⟩
  all_goals
    go_enter Tryd.func78, Tryd.ntmps78
    go_wp2_with (go_at_call 38; refine (ka _ _ (by assumption)).mono ?_; rintro e w5 ⟨rfl, h5⟩)
    go_ret
    exact ⟨rfl, hO.trans (h5.mono hO.size)⟩

end Go.Proofs.YtmldpihjndafaabDoor
