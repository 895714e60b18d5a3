/- The gang that the statements make may be. -/
import Derived.Test.YtgcicillmljglaaLG
namespace Go.Proofs.Ytgcicillmljglaa
open Go.RowKit Go.Maps
set_option linter.unusedSimpArgs false
set_option linter.unusedVariables false

theorem podNames8 : ∀ k : Fin 8, isName (podName k.val) = true ∧ (podName k.val).size ≤ 1000 := by decide +kernel

/-- What may be: a pod by what it is. -/
def goodD (S : Int) (d : PodD) : Prop := isName d.1 = true ∧ d.1.size ≤ 1000 ∧ 1 ≤ d.2.1 ∧ d.2.1 ≤ S ∧ sizeB d.2.2.1 d.2.2.2.1 = true ∧ setB d.2.2.2.2.1 = true ∧ setB d.2.2.2.2.2.1 = true ∧ (∀ s ∈ d.2.2.2.2.1, s.size ≤ 1000) ∧ ∀ s ∈ d.2.2.2.2.2.1, s.size ≤ 1000

theorem picks_good (n : Int) : setB (podPicks n) = true ∧ ∀ s ∈ podPicks n, s.size ≤ 1000 := by
  unfold podPicks
  split
  · exact marks_set _
  · exact ⟨rfl, by simp⟩
theorem bears_good (n : Int) : setB (podBears n) = true ∧ ∀ s ∈ podBears n, s.size ≤ 1000 := by
  unfold podBears
  split
  · exact marks_set _
  · exact ⟨rfl, by simp⟩

theorem podOf_good {S : Int} (h : 0 < S) {k : Nat} (hk : k < 8) (n : Int) : goodD S (podOf S k n) := by
  have h1 := podNames8 ⟨k, hk⟩
  have h2 := Int.emod_nonneg n (show S ≠ 0 by omega)
  have h3 := Int.emod_lt_of_pos n h
  have h4 : sizeB (wrap64 (n.tdiv 4) % 5) (wrap64 (n.tdiv 20) % 5) = true := by unfold sizeB; simp; omega
  exact ⟨h1.1, h1.2, by simp only [podOf]; omega, by simp only [podOf]; omega, h4, (picks_good n).1, (bears_good n).1, (picks_good n).2, (bears_good n).2⟩

theorem podsTo_good {S : Int} (h : 0 < S) (zs : List Int) : ∀ k, k ≤ 8 → ∀ d ∈ podsTo S zs k, goodD S d
  | 0, _, d, hd => by simp [podsTo] at hd
  | k + 1, hk, d, hd => by
    rw [podsTo] at hd
    rcases List.mem_append.1 hd with hd | hd
    · exact podsTo_good h zs k (by omega) d hd
    · simp only [List.mem_singleton] at hd
      subst hd
      exact podOf_good h (by omega) _

theorem podsTo_names (S : Int) (zs : List Int) : ∀ k, (podsTo S zs k).map (·.1) = (List.range k).map podName
  | 0 => rfl
  | k + 1 => by rw [podsTo, List.map_append, podsTo_names S zs k, List.range_succ, List.map_append]; rfl

theorem gangOf_good {S : Int} (h : 0 < S) (id : Int) (zs : List Int) (len : Nat) : ∀ d ∈ gangOf id S zs len, goodD S d := by
  unfold gangOf
  split
  · intro d hd
    simp only [List.mem_singleton] at hd
    subst hd
    exact podOf_good h (by omega) _
  · exact podsTo_good h zs _ (by omega)

/-- Its names are those of the places, as many as there are. -/
theorem gangOf_names (S : Int) (id : Int) (zs : List Int) (len : Nat) : ∃ k, 1 ≤ k ∧ k ≤ 8 ∧ (gangOf id S zs len).map (·.1) = (List.range k).map podName := by
  unfold gangOf
  split
  · exact ⟨1, by omega, by omega, rfl⟩
  · exact ⟨min 8 len, by omega, by omega, podsTo_names S zs _⟩

theorem names_apart : ∀ k : Fin 9, ((List.range k.val).map fun i => (podName i).toList).Nodup := by decide +kernel

theorem inN_false {s : ByteArray} : ∀ {l : List PodT}, s.toList ∉ l.map (fun p => p.name.toList) → inN s l = false
  | [], _ => rfl
  | p :: l, h => by
    simp only [List.map_cons, List.mem_cons, not_or] at h
    have := inN_false h.2
    have hb : (s.toList == p.name.toList) = false := by simpa using h.1
    show ((s.toList == p.name.toList) || inN s l) = false
    rw [hb, this]
    rfl

theorem twB_false : ∀ (l pre : List PodT), ((pre ++ l).map (fun p => p.name.toList)).Nodup → twB pre l = false
  | [], pre, _ => by cases pre <;> rfl
  | p :: l, pre, h => by
    have h1 : inN p.name pre = false := inN_false (fun hm => by
      rw [List.map_append, List.nodup_append] at h
      exact h.2.2 _ hm _ (by simp) rfl)
    have h2 : twB (pre ++ [p]) l = false := twB_false l (pre ++ [p]) (by simpa using h)
    show (inN p.name pre || twB (pre ++ [p]) l) = false
    rw [h1, h2]
    rfl

theorem err_good {S : Int} {p : PodT} (h : goodD S p.data) : p.err S = 0 := by
  obtain ⟨h1, _, h2, h3, h4, h5, h6, _⟩ := h
  change isName p.name = true at h1
  change 1 ≤ p.shard at h2
  change p.shard ≤ S at h3
  change sizeB p.cpu p.mem = true at h4
  change setB p.ps = true at h5
  change setB p.bs = true at h6
  unfold PodT.err podE
  rw [h1, h4, h5, h6, decide_eq_true h2, decide_eq_true h3]
  rfl

theorem firstE_good {S : Int} : ∀ {l : List PodT}, (∀ p ∈ l, goodD S p.data) → firstE S l = 0
  | [], _ => rfl
  | p :: l, h => by
    rw [firstE, err_good (h p (by simp)), if_pos rfl]
    exact firstE_good fun q hq => h q (by simp [hq])

theorem gang_good {S : Int} (h : 0 < S) (id : Int) (zs : List Int) (len : Nat) {l : List PodT} (hd : l.map PodT.data = gangOf id S zs len) :
    gangE (1 + id % 999999) l S = 0 ∧ 1 ≤ l.length ∧ l.length ≤ 8 ∧ ∀ p ∈ l, p.name.size ≤ 1000 ∧ (∀ s ∈ p.ps, s.size ≤ 1000) ∧ ∀ s ∈ p.bs, s.size ≤ 1000 := by
  have hg : ∀ p ∈ l, goodD S p.data := fun p hp => gangOf_good h id zs len _ (hd ▸ List.mem_map_of_mem hp)
  obtain ⟨k, hk1, hk8, hn⟩ := gangOf_names S id zs len
  have hnm : l.map (·.name) = (List.range k).map podName := by
    rw [← hn, ← hd, List.map_map]
    rfl
  have hlen : l.length = k := by have := congrArg List.length hnm; simpa using this
  have hnd : (l.map (fun p => p.name.toList)).Nodup := by
    have e : l.map (fun p => p.name.toList) = (l.map (·.name)).map ByteArray.toList := by rw [List.map_map]; rfl
    rw [e, hnm, List.map_map]
    exact names_apart ⟨k, by omega⟩
  refine ⟨?_, by omega, by omega, fun p hp => ?_⟩
  · unfold gangE
    rw [if_neg (by omega), if_neg (by omega), firstE_good hg, if_pos rfl, twB_false l [] (by simpa using hnd)]
    rfl
  · have := hg p hp
    exact ⟨this.2.1, this.2.2.2.2.2.2.2.1, this.2.2.2.2.2.2.2.2⟩

end Go.Proofs.Ytgcicillmljglaa
