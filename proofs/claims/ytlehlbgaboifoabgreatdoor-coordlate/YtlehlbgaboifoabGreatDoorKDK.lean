/- A gang of one pod in each of n shards: held, voted for, shard by shard. -/
import Derived.Test.YtlehlbgaboifoabGreatDoorKDJ
import Derived.Deep.DeepCutAuto
namespace Go.Proofs.YtlehlbgaboifoabGreatDoor
open Go.RowKit Go.Maps Go.Shelf
set_option linter.unusedSimpArgs false
set_option linter.unusedVariables false

/-- n of one. -/
abbrev pr (n : Nat) : List Nat := List.range' 1 n
theorem butW_range : ∀ n : Nat, n ≤ 4 → ∀ s : Nat, s ≤ n → butW (List.range' s (n + 1 - s)) s = List.range' (s + 1) (n + 1 - (s + 1)) := by decide
theorem mem_pr {n s : Nat} (h1 : 1 ≤ s) (h2 : s ≤ n) : s ∈ pr n := by rw [List.mem_range'_1]; omega
theorem range_ne {s n : Nat} (h : s ≤ n) : List.range' s (n + 1 - s) ≠ [] := by
  intro e
  have := congrArg List.length e
  simp at this
  omega

/-- Asked to hold: s is next. -/
def HS (n s : Nat) (x : CoS) : Prop := x.A.length + x.L.length ≤ 1 ∧ 1 ≤ s ∧ s ≤ n + 1 ∧ ((s ≤ n ∧ ∃ b pods, x.M = [(((5 : Nat) : Int), ⟨b, pr n, List.range' s (n + 1 - s), .hold 0 pods⟩)]) ∨ (s = n + 1 ∧ ∃ b, x.M = [(((5 : Nat) : Int), ⟨b, pr n, pr n, .prep 0⟩)]))
/-- Asked to prepare: s is next. -/
def VS (n s : Nat) (x : CoS) : Prop := x.A.length + x.L.length ≤ 2 ∧ 1 ≤ s ∧ s ≤ n + 1 ∧ ((s ≤ n ∧ x.A.length + x.L.length ≤ 1 ∧ ∃ b, x.M = [(((5 : Nat) : Int), ⟨b, pr n, List.range' s (n + 1 - s), .prep 0⟩)]) ∨ (s = n + 1 ∧ ∃ b, x.M = [(((5 : Nat) : Int), ⟨b, pr n, pr n, .dec 3⟩)]))
theorem HS.votes {n : Nat} {x : CoS} (h : HS n (n + 1) x) (hn : 1 ≤ n) : VS n 1 x := by
  obtain ⟨h1, h2, h3, ⟨h4, _⟩ | ⟨_, b, h⟩⟩ := h
  · omega
  · exact ⟨by omega, by omega, by omega, .inl ⟨hn, h1, b, by rw [h]; rfl⟩⟩

section
variable {B : Nat} {w0 w : World} {C T : Nat} {l : List (Nat × Array Value × TypeId)} {x : CoS} {fp : Nat → Prop} {n s : Nat}
theorem HS.get (h : CSite B w0 C T l x fp w) (hx : HS n s x) (hn : n ≤ 4) (hs : s ≤ n) :
    Calls Tryz.prog 17 #[ptr C, msgV 2 s 5 true] w fun e w' => ∃ v fp' x', e = .returned v ∧ CSite B w0 C T l x' fp' w' ∧ HS n (s + 1) x' := by
  obtain ⟨h1, h2, h3, ⟨_, b, pods, hM⟩ | ⟨h4, _⟩⟩ := hx
  · by_cases e : s = n
    · subst e
      have hb : butW (List.range' s (s + 1 - s)) s = [] := by rw [butW_range s hn s (Nat.le_refl _)]; simp
      exact (get_held h 5 (by decide) hM rfl s h2 (by omega) (mem_pr h2 (Nat.le_refl _)) hb).mono fun e w' ⟨v, e1, _, fp', h5⟩ => ⟨v, fp', _, e1, h5, h1, by omega, by omega, .inr ⟨rfl, b, rfl⟩⟩
    · have hb : butW (List.range' s (n + 1 - s)) s = List.range' (s + 1) (n + 1 - (s + 1)) := butW_range n hn s hs
      refine (get_some h 5 (by decide) hM rfl 2 s rfl (by decide) h2 (by omega) (mem_pr h2 hs) (by rw [hb]; exact range_ne (by omega))).mono fun e w' ⟨e1, fp', h5⟩ => ⟨_, fp', _, e1, h5, h1, by omega, by omega, .inl ⟨by omega, b, pods, ?_⟩⟩
      simp only [CoS.of, GS.less, hb]
  · omega
theorem VS.get (h : CSite B w0 C T l x fp w) (hx : VS n s x) (hn : n ≤ 4) (hs : s ≤ n) :
    Calls Tryz.prog 17 #[ptr C, msgV 4 s 5 true] w fun e w' => ∃ v fp' x', e = .returned v ∧ CSite B w0 C T l x' fp' w' ∧ VS n (s + 1) x' := by
  obtain ⟨h1, h2, h3, ⟨_, h0, b, hM⟩ | ⟨h4, _⟩⟩ := hx
  · by_cases e : s = n
    · subst e
      have hb : butW (List.range' s (s + 1 - s)) s = [] := by rw [butW_range s hn s (Nat.le_refl _)]; simp
      exact (get_voted h (by omega) 5 (by decide) hM rfl s h2 (by omega) (mem_pr h2 (Nat.le_refl _)) hb).mono fun e w' ⟨v, e1, _, fp', h5⟩ => ⟨v, fp', _, e1, h5, by simp only [CoS.of, recC, List.length_append, List.length_nil, List.length_cons]; omega, by omega, by omega, .inr ⟨rfl, b, rfl⟩⟩
    · have hb : butW (List.range' s (n + 1 - s)) s = List.range' (s + 1) (n + 1 - (s + 1)) := butW_range n hn s hs
      refine (get_some h 5 (by decide) hM rfl 4 s rfl (by decide) h2 (by omega) (mem_pr h2 hs) (by rw [hb]; exact range_ne (by omega))).mono fun e w' ⟨e1, fp', h5⟩ => ⟨_, fp', _, e1, h5, h1, by omega, by omega, .inl ⟨by omega, h0, b, ?_⟩⟩
      simp only [CoS.of, GS.less, hb]
  · omega

/-- The gang is asked for. -/
theorem gang_submit (h : CSite B w0 C T l (newC 3) fp w) (a : Option Addr) (c : Nat) (h1 : 1 ≤ n) (h3 : n ≤ 3) (hc : n ≤ c) (hP : Pods w a (podsN n)) (hPi : PodsIn (fun k => k < w.heap.size ∧ ¬ fp k) a (podsN n)) :
    Calls Tryz.prog 12 #[ptr C, .agg #[.int .i64 5, .slice a n c]] w fun e w' => ∃ v2 pods fp' x', e = .returned (.tuple #[v2, .int .i64 0]) ∧ MsgsN w w' v2 (toAll 5 (pr n) (.hold 0 pods)) ∧ CSite B w0 C T l x' fp' w' ∧ HS n 1 x' ∧ x'.A = [gangT 5 (pr n)] ∧ x'.L = [] := by
  have e5 : ((5 : Nat) : Int) = 5 := rfl
  have k := submit_one h rfl (by decide) 5 (by decide) (by decide) a n c (podsN n) (podsN_length n) hc (by omega) hP hPi (gangE_ok' 5 n 3 (by decide) (by decide) h1 h3 (by decide)) (pr n) (shardsN n) (by simp; omega) (by simp; omega) (riseN n (by omega))
  rw [e5] at k
  exact k.mono fun e w' ⟨v2, b, pods, fp', e1, e2, _, h5⟩ => ⟨v2, pods, fp', _, e1, e2, h5, ⟨by simp [CoS.of, recC, newC], by omega, by omega, .inl ⟨h1, b, pods, rfl⟩⟩, rfl, rfl⟩
end

end Go.Proofs.YtlehlbgaboifoabGreatDoor
