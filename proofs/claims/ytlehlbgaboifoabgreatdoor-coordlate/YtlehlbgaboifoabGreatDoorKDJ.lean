/- known: a gang of one pod is asked for. -/
import Derived.Test.YtlehlbgaboifoabGreatDoorMg32
import Derived.Deep.DeepCutAuto
namespace Go.Proofs.YtlehlbgaboifoabGreatDoor
open Go.RowKit Go.Maps Go.Shelf
set_option linter.unusedSimpArgs false
set_option linter.unusedVariables false

theorem lasting_site {B : Nat} {w0 w : World} {C T : Nat} {l : List (Nat × Array Value × TypeId)} {x : CoS} {fp : Nat → Prop} (h : CSite B w0 C T l x fp w) (n : Nat) (hn : x.A.length = n) :
    Calls Tryz.prog 22 #[ptr T] w fun e w' => e = .returned (.int .i64 n) ∧ w' = w := by
  obtain ⟨m, v, col, rfl, hC⟩ := h.c
  subst hn
  exact lasting_any w T v x.A x.L x.s hC.tp hC.ts

/-- The one pod. -/
def podK : PodT := ⟨⟨#[112]⟩, 2, 0, 0, none, 0, [], none, 0, [], false⟩
theorem shardsK : shardsB [podK] = [2].map fun (p : Nat) => (p : Int) := by
  refine strict_ext _ _ (shardsB_spec _).1 (by decide) fun z => ?_
  rw [(shardsB_spec [podK]).2 z]
  rfl

set_option maxRecDepth 100000 in
set_option maxHeartbeats 8000000 in
theorem known11_any (w : World) (hB : TabB w.heap.size w) : Calls Tryz.prog 9 #[] w fun e w' => e = .returned (.bool true) ∧ Below w.heap.size w w' := by
  have kt := tnew_any w
  go_enter Tryz.func9, Tryz.ntmps9
  go_upto_region 4 with (go_at_call 29; refine kt.mono ?_; rintro e w1 ⟨rfl, hT1, hb1⟩)
  have kc := cnew_nil w1 2 _ _ hT1 rfl
  clear kt
  go_upto_region 5 with (go_at_call 30; refine kc.mono ?_; rintro e w2 ⟨C, fp, rfl, hC, hCl, hfp, hb2⟩)
  have hz1 := hb1.size
  have h2 : CSite w.heap.size w C w.heap.size [] (newC 2) fp w2 := ⟨hC, (fun q hq => by cases hq), (fun b hb => by rcases hfp b hb with e | e <;> omega), fin hb2 hb1, (fin hb2 hb1).size, hB.on (fin hb2 hb1)⟩
  have k4 := state_none h2 4 (by decide) rfl
  have e4 : ((4 : Nat) : Int) = 4 := rfl
  rw [e4] at k4
  clear kc hC hT1
  go_upto_region 7 with (go_at_call 21; refine k4.mono ?_; rintro e w3 ⟨rfl, rfl⟩)
  have h3 := h2.later (up (Below.refl _ _) (.cells #[.string ⟨#[112]⟩, .int .i64 2, .int .i64 0, .int .i64 0, .slice none 0 0, .slice none 0 0, .bool false] 60))
  have hbx := Box.new w3 #[.string ⟨#[112]⟩, .int .i64 2, .int .i64 0, .int .i64 0, .slice none 0 0, .slice none 0 0, .bool false] 60 rfl
  have hn : ¬ fp w3.heap.size := fun hc => by have := h2.c.lt _ hc; omega
  have hP : Pods (w3.alloc (.cells #[.string ⟨#[112]⟩, .int .i64 2, .int .i64 0, .int .i64 0, .slice none 0 0, .slice none 0 0, .bool false] 60)) (some ⟨w3.heap.size, 0, none⟩) [podK] := by
    refine ⟨by decide, fun i p hp => ?_⟩
    have hi : i = 0 := by
      have := (List.getElem?_eq_some_iff.1 hp).1
      simp at this
      exact this
    subst hi
    cases hp
    obtain ⟨d0, d1, d2, d3, d4, d5, d6⟩ := hbx.cells7
    exact ⟨_, 0, rfl, ⟨d0, d1, d2, d3, d4, d5, d6⟩, strs_nil _, strs_nil _⟩
  have hPi : PodsIn (fun k => k < (w3.alloc (.cells #[.string ⟨#[112]⟩, .int .i64 2, .int .i64 0, .int .i64 0, .slice none 0 0, .slice none 0 0, .bool false] 60)).heap.size ∧ ¬ fp k) (some ⟨w3.heap.size, 0, none⟩) [podK] :=
    ⟨(fun y hy _ => by cases hy; exact ⟨by simp, hn⟩), fun p hp => by
      obtain rfl := List.mem_singleton.1 hp
      exact ⟨(fun y hy => by cases hy), (fun y hy => by cases hy)⟩⟩
  have ks := submit_one h3 rfl (by decide) 4 (by decide) (by decide) (some ⟨w3.heap.size, 0, none⟩) 1 1 [podK] rfl (by decide) (by decide) hP hPi (by decide) [2] shardsK (by decide) (by decide) (by decide)
  rw [e4] at ks
  clear hP hPi hbx hn h3 k4
  go_upto_region 8 with (go_at_call 12; refine ks.mono ?_; rintro e w5 ⟨v2, b, pods, fp5, rfl, hM, _, h5⟩)
  obtain ⟨a, c, rfl, _, hat⟩ := hM.cut
  obtain ⟨g, rfl, d0, d1, d2, d3, d6⟩ := hat 0 _ rfl
  have k5 := state_one h5 4 (by decide) rfl (by intro e; cases e)
  rw [e4] at k5
  have kl := lasting_site h5 1 rfl
  have hend := h5.below
  simp only [toAll_length, List.length_singleton] at *
  clear hat h2 h5 hM ks
  go_wp2_with (first
    | (go_at_call 21; refine k5.mono ?_; rintro e w6 ⟨rfl, rfl⟩)
    | (go_at_call 22; refine kl.mono ?_; rintro e w7 ⟨rfl, rfl⟩))
  go_ret
  exact ⟨rfl, hend⟩

end Go.Proofs.YtlehlbgaboifoabGreatDoor
