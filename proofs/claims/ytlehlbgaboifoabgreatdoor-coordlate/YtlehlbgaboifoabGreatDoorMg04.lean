/- Maps as rising lists of keys and of what lies there. -/
import Derived.Maps.OwnSet
import Derived.StringKeys
namespace Go.Proofs.YtlehlbgaboifoabGreatDoor
open Go.RowKit Go.Maps

/-- An element as it lies. -/
def raw (v : Value) : Option (DataW Value × List MemPlace) := some (.held v, [])

section
variable {κ ρ : Type} [DecidableEq κ] (lk : κ → Lit) (val : ρ → Value)

def encD (M : List (κ × ρ)) : DataW Value := .map (M.map fun p => (lk p.1, .held (val p.2)))
def look (M : List (κ × ρ)) (k : κ) : Option ρ := (M.find? (fun p => decide (p.1 = k))).map (·.2)
def ins (x : κ × ρ) : List (κ × ρ) → List (κ × ρ)
  | [] => [x]
  | y :: r => if (lk x.1).before (lk y.1) then x :: y :: r else y :: ins x r
def del (M : List (κ × ρ)) (k : κ) : List (κ × ρ) := M.filter fun p => !decide (p.1 = k)
def put (M : List (κ × ρ)) (k : κ) (r : ρ) : List (κ × ρ) := ins lk (k, r) (del M k)

variable (hk : ∀ a b, (lk a).sameKey (lk b) = decide (a = b))

omit [DecidableEq κ] in
theorem enc_ins (k : κ) (r : ρ) : ∀ M : List (κ × ρ), (ins lk (k, r) M).map (fun p => (lk p.1, DataW.held (val p.2))) = DataW.insert (lk k, .held (val r)) (M.map fun p => (lk p.1, DataW.held (val p.2)))
  | [] => rfl
  | y :: t => by
    simp only [ins, List.map_cons, DataW.insert]
    split
    · simp
    · simp [enc_ins k r t]

include hk in
theorem enc_filter (k : κ) : ∀ M : List (κ × ρ), (del M k).map (fun p => (lk p.1, DataW.held (val p.2))) = (M.map fun p => (lk p.1, DataW.held (val p.2))).filter fun p => !p.1.sameKey (lk k)
  | [] => rfl
  | y :: t => by
    have ih := enc_filter k t
    unfold del at ih ⊢
    by_cases h : y.1 = k
    · simp [h, hk, ih]
    · simp [h, hk, ih]

include hk in
theorem encD_del (M : List (κ × ρ)) (k : κ) : (encD lk val M).del (lk k) = encD lk val (del M k) := by
  simp only [encD, DataW.del, enc_filter lk val hk]
include hk in
theorem encD_put (M : List (κ × ρ)) (k : κ) (r : ρ) : (encD lk val M).put (lk k) (.held (val r)) = encD lk val (put lk M k r) := by
  simp only [encD, DataW.put, put, enc_ins, enc_filter lk val hk]
include hk in
theorem find_enc (k : κ) : ∀ M : List (κ × ρ), (M.map fun p => (lk p.1, DataW.held (val p.2))).find? (fun p => p.1.sameKey (lk k)) = (M.find? (fun p => decide (p.1 = k))).map fun p => (lk p.1, DataW.held (val p.2))
  | [] => rfl
  | y :: t => by
    have ih := find_enc k t
    by_cases h : y.1 = k
    · simp [h, hk]
    · simp [h, hk, ih]
include hk in
theorem encD_at (M : List (κ × ρ)) (k : κ) (z : Value) : (encD lk val M).atKey (lk k) (.held z) = .held (((look M k).map val).getD z) := by
  simp only [encD, DataW.atKey, find_enc lk val hk, look]
  cases M.find? (fun p => decide (p.1 = k)) <;> simp
include hk in
theorem encD_has (M : List (κ × ρ)) (k : κ) : has (encD lk val M) (lk k) = (look M k).isSome := by
  simp only [encD, has_eq, look]
  induction M with
  | nil => rfl
  | cons y t ih =>
    by_cases h : y.1 = k
    · simp [h, hk]
    · simp only [List.map_cons, List.any_cons, hk, h, decide_false, Bool.false_or, List.find?_cons]
      exact ih
omit [DecidableEq κ] in
theorem encD_size (M : List (κ × ρ)) : Maps.size (encD lk val M) = M.length := by simp [encD, size_eq]

omit [DecidableEq κ] in
theorem mem_ins {x p : κ × ρ} : ∀ {M : List (κ × ρ)}, p ∈ ins lk x M ↔ p = x ∨ p ∈ M
  | [] => by simp [ins]
  | y :: t => by
    unfold ins
    split
    · simp
    · simp only [List.mem_cons, mem_ins (M := t)]
      constructor
      · rintro (h | h | h) <;> simp [h]
      · rintro (h | h | h) <;> simp [h]
omit [DecidableEq κ] in
theorem length_ins (x : κ × ρ) : ∀ M : List (κ × ρ), (ins lk x M).length = M.length + 1
  | [] => rfl
  | y :: t => by
    unfold ins
    split
    · rfl
    · simp [length_ins x t]
theorem mem_del {p : κ × ρ} {M : List (κ × ρ)} {k : κ} : p ∈ del M k ↔ p ∈ M ∧ p.1 ≠ k := by simp [del]
theorem mem_put {p : κ × ρ} {M : List (κ × ρ)} {k : κ} {r : ρ} : p ∈ put lk M k r ↔ p = (k, r) ∨ (p ∈ M ∧ p.1 ≠ k) := by
  unfold put; rw [mem_ins, mem_del]
theorem mem_of_look {M : List (κ × ρ)} {k : κ} {r : ρ} (h : look M k = some r) : (k, r) ∈ M := by
  unfold look at h
  cases hf : M.find? (fun p => decide (p.1 = k)) with
  | none => simp [hf] at h
  | some p =>
    have h1 := List.mem_of_find?_eq_some hf
    have h2 := List.find?_some hf
    simp [hf] at h
    simp at h2
    subst h h2
    exact h1
theorem look_none {M : List (κ × ρ)} {k : κ} (h : look M k = none) : ∀ p ∈ M, p.1 ≠ k := by
  unfold look at h
  simp at h
  intro p hp e
  exact h p.1 p.2 hp e
theorem look_cons (y : κ × ρ) (t : List (κ × ρ)) (k : κ) : look (y :: t) k = if y.1 = k then some y.2 else look t k := by
  unfold look
  by_cases h : y.1 = k <;> simp [h]
theorem look_del (M : List (κ × ρ)) (k k' : κ) : look (del M k) k' = if k' = k then none else look M k' := by
  induction M with
  | nil => simp [look, del]
  | cons y t ih =>
    by_cases h : y.1 = k
    · have : del (y :: t) k = del t k := by simp [del, h]
      rw [this, ih, look_cons]
      by_cases h2 : k' = k
      · simp [h2]
      · have : ¬ y.1 = k' := fun e => h2 (e.symm.trans h)
        simp [h2, this]
    · have : del (y :: t) k = y :: del t k := by simp [del, h]
      rw [this, look_cons, look_cons, ih]
      by_cases h2 : k' = k
      · have : ¬ y.1 = k' := fun e => h (e.trans h2)
        simp [h2]; intro e; exact absurd e h
      · simp [h2]
theorem look_ins (k : κ) (r : ρ) (k' : κ) : ∀ M : List (κ × ρ), look M k = none → look (ins lk (k, r) M) k' = if k' = k then some r else look M k'
  | [], _ => by simp [ins, look, eq_comm]
  | y :: t, h => by
    rw [look_cons] at h
    have hy : ¬ y.1 = k := fun e => by simp [e] at h
    simp [hy] at h
    unfold ins
    split
    · rw [look_cons]; simp [eq_comm]
    · rw [look_cons, look_ins k r k' t h, look_cons]
      by_cases h2 : k' = k
      · have : ¬ y.1 = k' := fun e => hy (e.trans h2)
        simp [h2, hy]
      · simp [h2]
theorem look_put (M : List (κ × ρ)) (k : κ) (r : ρ) (k' : κ) : look (put lk M k r) k' = if k' = k then some r else look M k' := by
  unfold put
  rw [look_ins lk k r k' _ (by rw [look_del]; simp), look_del]
  split <;> simp_all

/-- No key twice. -/
def Apart (M : List (κ × ρ)) : Prop := M.Pairwise (fun p q => p.1 ≠ q.1)
omit [DecidableEq κ] in
theorem apart_ins {x : κ × ρ} : ∀ {M : List (κ × ρ)}, (∀ p ∈ M, p.1 ≠ x.1) → Apart M → Apart (ins lk x M)
  | [], _, _ => by simp [Apart, ins]
  | y :: t, h, hp => by
    have hy := h y (by simp)
    unfold Apart at hp
    rw [List.pairwise_cons] at hp
    unfold ins
    split
    · unfold Apart
      rw [List.pairwise_cons, List.pairwise_cons]
      exact ⟨fun p hp' => Ne.symm (h p hp'), hp⟩
    · unfold Apart
      rw [List.pairwise_cons]
      refine ⟨fun p hp' => ?_, apart_ins (fun p hp' => h p (by simp [hp'])) hp.2⟩
      rcases (mem_ins lk).1 hp' with rfl | hm
      · exact hy
      · exact hp.1 p hm
theorem Apart.del {M : List (κ × ρ)} (h : Apart M) (k : κ) : Apart (del M k) := List.Pairwise.filter _ h
theorem Apart.put {M : List (κ × ρ)} (h : Apart M) (k : κ) (r : ρ) : Apart (put lk M k r) := apart_ins lk (fun _ hp => (mem_del.1 hp).2) (h.del k)
theorem look_of_mem {M : List (κ × ρ)} (h : Apart M) {k : κ} {r : ρ} (hm : (k, r) ∈ M) : look M k = some r := by
  induction M with
  | nil => cases hm
  | cons y t ih =>
    unfold Apart at h
    rw [List.pairwise_cons] at h
    rw [look_cons]
    rcases List.mem_cons.1 hm with rfl | hm'
    · simp
    · have := h.1 _ hm'
      simp only at this
      simp [this, ih h.2 hm']
theorem length_del {M : List (κ × ρ)} (h : Apart M) (k : κ) : (del M k).length + (if (look M k).isSome then 1 else 0) = M.length := by
  induction M with
  | nil => simp [del, look]
  | cons y t ih =>
    unfold Apart at h
    rw [List.pairwise_cons] at h
    rw [look_cons]
    by_cases e : y.1 = k
    · have h1 : look t k = none := by
        cases hl : look t k with
        | none => rfl
        | some r => exact absurd e (h.1 _ (mem_of_look hl))
      have := ih h.2
      simp [h1] at this
      simp [del, e]
      simpa [del] using this
    · have := ih h.2
      simp [del, e]
      simp [del] at this
      omega
theorem length_put {M : List (κ × ρ)} (h : Apart M) (k : κ) (r : ρ) : (put lk M k r).length = if (look M k).isSome then M.length else M.length + 1 := by
  unfold put
  rw [length_ins]
  have := length_del h k
  split <;> simp_all
theorem del_none {M : List (κ × ρ)} {k : κ} (h : look M k = none) : del M k = M := by
  unfold del
  rw [List.filter_eq_self]
  intro p hp
  simp [look_none h p hp]
end

/-- A text's key, a number's. -/
abbrev sK (s : ByteArray) : Lit := .string s.data.toList
abbrev iK (g : Int) : Lit := .int .i64 g
theorem sK_same (a b : ByteArray) : (sK a).sameKey (sK b) = decide (a = b) := by
  simp only [Lit.sameKey]
  by_cases h : a = b
  · simp [h]
  · have : ¬ a.data = b.data := fun e => h (by cases a; cases b; simpa using e)
    simp [h, this]
theorem iK_same (a b : Int) : (iK a).sameKey (iK b) = decide (a = b) := by simp [Lit.sameKey]

end Go.Proofs.YtlehlbgaboifoabGreatDoor
