/- The contract of the statements' own known: the shards of a gang without pods, and two pods. -/
import Derived.Test.YtgcicillmljglaaG
namespace Go.Proofs.Ytgcicillmljglaa
open Go.RowKit Go.Sort

theorem strs_nil (w : World) : Strs w none [] := ⟨by simp, fun i hi => by simp at hi⟩
theorem pods_nil (w : World) : Pods w none [] := ⟨by simp, fun i p hp => by simp at hp⟩

theorem shards_nil (w0 w : World) (hb : Below w0.heap.size w0 w) :
    Calls Try.prog 25 #[.agg #[.int .i64 0, .slice none 0 0]] w fun e w' => (∃ a c, e = .returned (.slice a 0 c)) ∧ Below w0.heap.size w0 w' :=
  (shards_any 0 none 0 0 [] w rfl (pods_nil w)).mono fun e w' ⟨g, cap, he, _, _, h⟩ => ⟨⟨some ⟨g, 0, none⟩, cap, by rw [he]; simp [shardsB, shardsOf, Lib.compact, Lib.compactUpTo]⟩, hb.trans (h.mono hb.size)⟩

theorem up {w W : World} (h : Below w.heap.size w W) (o : Obj) : Below w.heap.size w (W.alloc o) := h.alloc h.size o

/-- A pod without marks. -/
theorem pod_bare (s : ByteArray) (shard cpu mem : Int) (al : Bool) (shards e0 : Int) (w0 w : World) (hb : Below w0.heap.size w0 w) (h : podE s shard cpu mem [] [] shards = e0) :
    Calls Try.prog 13 #[.agg #[.string s, .int .i64 shard, .int .i64 cpu, .int .i64 mem, .slice none 0 0, .slice none 0 0, .bool al], .int .i64 shards] w fun e w' =>
      e = .returned (.int .i64 e0) ∧ Below w0.heap.size w0 w' ∧ Below w.heap.size w w' := by
  subst h
  exact (pod_any s shard cpu mem none none 0 0 0 0 al [] [] shards w (strs_nil w) (strs_nil w) rfl rfl).mono fun _ _ h => ⟨h.1, hb.trans (h.2.mono hb.size), h.2⟩

/-- A node without marks. -/
theorem node_bare (s : ByteArray) (cpu mem : Int) (al : Bool) (e0 : Int) (w0 w : World) (hb : Below w0.heap.size w0 w) (h : nodeE s cpu mem [] [] = e0) :
    Calls Try.prog 19 #[.agg #[.string s, .int .i64 cpu, .int .i64 mem, .slice none 0 0, .slice none 0 0, .bool al]] w fun e w' =>
      e = .returned (.int .i64 e0) ∧ Below w0.heap.size w0 w' ∧ Below w.heap.size w w' := by
  subst h
  exact (node_any s cpu mem none none 0 0 0 0 al [] [] w (strs_nil w) (strs_nil w) rfl rfl).mono fun _ _ h => ⟨h.1, hb.trans (h.2.mono hb.size), h.2⟩

theorem name_a : isName ⟨#[97]⟩ = true := by decide +kernel

set_option maxRecDepth 100000 in
theorem known_on (w0 w : World) (hb : Below w0.heap.size w0 w) : Calls Try.prog 9 #[] w fun e w' => e = .returned (.bool true) ∧ Below w0.heap.size w0 w' := by
  have n1 : podE ⟨#[97]⟩ 1 0 0 [] [] 1 = 0 := by unfold podE; rw [name_a]; decide
  have n2 : podE ⟨#[97]⟩ 2 0 0 [] [] 1 = 2 := by unfold podE; rw [name_a]; decide
  go_enter Try.func9, Try.ntmps9
  go_wp2_with (first
    | (go_at_call 25; refine (shards_nil _ _ (by assumption)).mono ?_; rintro e w1 ⟨⟨a, c, rfl⟩, hb1⟩)
    | (go_at_call 13; refine (pod_bare _ _ _ _ _ _ _ _ _ (by assumption) (by assumption)).mono ?_; rintro e w1 ⟨rfl, hb1, -⟩))
  go_ret
  exact ⟨rfl, by assumption⟩

end Go.Proofs.Ytgcicillmljglaa
