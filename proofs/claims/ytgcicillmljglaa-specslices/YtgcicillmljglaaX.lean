/- What Shards answers: the numbers that there are, rising, none twice. -/
import Derived.Test.YtgcicillmljglaaG
namespace Go.Proofs.Ytgcicillmljglaa
open Go.Lib

theorem strict_ext : ∀ (l r : List Int), l.Pairwise (· < ·) → r.Pairwise (· < ·) → (∀ z, z ∈ l ↔ z ∈ r) → l = r
  | [], [], _, _, _ => rfl
  | [], b :: r, _, _, h => by have := (h b).2 (by simp); simp at this
  | a :: l, [], _, _, h => by have := (h a).1 (by simp); simp at this
  | a :: l, b :: r, hl, hr, h => by
    rw [List.pairwise_cons] at hl hr
    have h1 := (h a).1 (by simp)
    have h2 := (h b).2 (by simp)
    have e : a = b := by
      rcases List.mem_cons.1 h1 with e | e
      · exact e
      · rcases List.mem_cons.1 h2 with e' | e'
        · exact e'.symm
        · have := hl.1 b e'
          have := hr.1 a e
          omega
    subst e
    rw [strict_ext l r hl.2 hr.2 fun z => ⟨fun hz => ?_, fun hz => ?_⟩]
    · rcases List.mem_cons.1 ((h z).1 (by simp [hz])) with e | e
      · have := hl.1 z hz; omega
      · exact e
    · rcases List.mem_cons.1 ((h z).2 (by simp [hz])) with e | e
      · have := hr.1 z hz; omega
      · exact e

theorem compact_step (d : Array Int) (hs : ∀ i j, i ≤ j → j < d.size → d[i]! ≤ d[j]!) : ∀ m, m ≤ d.size →
    (compactUpTo d m).Pairwise (· < ·) ∧ (∀ z ∈ compactUpTo d m, ∃ j, j < m ∧ d[j]! = z) ∧ (∀ j, j < m → d[j]! ∈ compactUpTo d m)
  | 0, _ => by simp [compactUpTo]
  | m + 1, h => by
    obtain ⟨h1, h2, h3⟩ := compact_step d hs m (by omega)
    rw [compactUpTo_succ]
    by_cases hk : keeps d m = true
    · rw [if_pos hk]
      refine ⟨?_, ?_, ?_⟩
      · rw [List.pairwise_append]
        refine ⟨h1, by simp, fun a ha b hb => ?_⟩
        simp only [List.mem_singleton] at hb
        subst hb
        obtain ⟨j, hj, rfl⟩ := h2 a ha
        have e1 := hs j (m - 1) (by omega) (by omega)
        have e2 := hs (m - 1) m (by omega) (by omega)
        simp only [keeps, decide_eq_true_eq] at hk
        omega
      · intro z hz
        rcases List.mem_append.1 hz with hz | hz
        · obtain ⟨j, hj, e⟩ := h2 z hz
          exact ⟨j, by omega, e⟩
        · simp only [List.mem_singleton] at hz
          exact ⟨m, by omega, hz.symm⟩
      · intro j hj
        rcases Nat.lt_or_ge j m with h' | h'
        · exact List.mem_append_left _ (h3 j h')
        · have : j = m := by omega
          subst this
          simp
    · rw [if_neg hk, List.append_nil]
      refine ⟨h1, ?_, ?_⟩
      · intro z hz
        obtain ⟨j, hj, e⟩ := h2 z hz
        exact ⟨j, by omega, e⟩
      · intro j hj
        rcases Nat.lt_or_ge j m with h' | h'
        · exact h3 j h'
        · have : j = m := by omega
          subst this
          simp only [keeps, decide_eq_true_eq] at hk
          have e : d[j]! = d[j - 1]! := by omega
          rw [e]
          exact h3 (j - 1) (by omega)

theorem compact_sorted (l : List Int) (hl : l.Pairwise (· ≤ ·)) : (compact l).Pairwise (· < ·) ∧ ∀ z, z ∈ compact l ↔ z ∈ l := by
  have hs : ∀ i j, i ≤ j → j < l.toArray.size → l.toArray[i]! ≤ l.toArray[j]! := fun i j hij hj => by
    have hj' : j < l.length := by simpa using hj
    rw [getElem!_pos _ i (by simp; omega), getElem!_pos _ j hj]
    rcases Nat.eq_or_lt_of_le hij with e | e
    · subst e; exact Int.le_refl _
    · exact List.pairwise_iff_getElem.1 hl i j (by omega) hj' e
  obtain ⟨h1, h2, h3⟩ := compact_step l.toArray hs l.length (by simp)
  refine ⟨h1, fun z => ⟨fun hz => ?_, fun hz => ?_⟩⟩
  · obtain ⟨j, hj, rfl⟩ := h2 z hz
    rw [getElem!_pos _ j (by simpa using hj)]
    simp
  · obtain ⟨j, hj, rfl⟩ := List.getElem_of_mem hz
    have := h3 j hj
    rw [getElem!_pos _ j (by simpa using hj)] at this
    simpa [compact] using this

theorem shardsB_spec (l : List PodT) : (shardsB l).Pairwise (· < ·) ∧ ∀ z, z ∈ shardsB l ↔ z ∈ shardsOf l := by
  have hp : ((shardsOf l).mergeSort fun x y => decide (x ≤ y)).Pairwise (· ≤ ·) := by
    have := List.pairwise_mergeSort (le := fun x y : Int => decide (x ≤ y)) (fun a b c h1 h2 => by simp at *; omega) (fun a b => by simp; omega) (shardsOf l)
    exact this.imp (fun h => by simpa using h)
  obtain ⟨h1, h2⟩ := compact_sorted _ hp
  exact ⟨h1, fun z => (h2 z).trans List.mem_mergeSort⟩

end Go.Proofs.Ytgcicillmljglaa
