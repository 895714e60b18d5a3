/- What is used of a node is the sum of what all have there: the sums, and how taking and giving turn them. -/
import Derived.Test.YtpgchnppinbpkaaDoorEI
namespace Go.Proofs.YtpgchnppinbpkaaDoor
open Go.RowKit Go.Maps

/-- What places on one node come to. -/
def sW (f : Pl → Int) (s : ByteArray) : List Pl → Int
  | [] => 0
  | q :: t => (if q.node = s then f q else 0) + sW f s t
/-- What all have on one node. -/
def gW (f : Pl → Int) (s : ByteArray) : List (Int × Grp) → Int
  | [] => 0
  | e :: t => sW f s e.2.ps + gW f s t
theorem sW_nonneg {f : Pl → Int} {s : ByteArray} : ∀ {ps : List Pl}, (∀ p ∈ ps, 0 ≤ f p) → 0 ≤ sW f s ps
  | [], _ => Int.le_refl _
  | q :: t, h => by
    have h1 := h q (by simp)
    have h2 := sW_nonneg (f := f) (s := s) (ps := t) (fun p hp => h p (by simp [hp]))
    unfold sW
    split <;> omega
theorem sW_zero {f : Pl → Int} {s : ByteArray} : ∀ {ps : List Pl}, (∀ p ∈ ps, p.node ≠ s) → sW f s ps = 0
  | [], _ => rfl
  | q :: t, h => by
    unfold sW
    rw [if_neg (h q (by simp)), sW_zero (fun p hp => h p (by simp [hp]))]
    rfl
theorem sW_append (f : Pl → Int) (s : ByteArray) : ∀ (a b : List Pl), sW f s (a ++ b) = sW f s a + sW f s b
  | [], b => by simp [sW]
  | q :: t, b => by
    rw [List.cons_append]
    simp only [sW]
    rw [sW_append f s t b]; omega
theorem sW_take {f : Pl → Int} {s : ByteArray} {ps : List Pl} {k : Nat} (h : k < ps.length) : sW f s (ps.take (k + 1)) = sW f s (ps.take k) + (if ps[k].node = s then f ps[k] else 0) := by
  rw [List.take_succ_eq_append_getElem h, sW_append]
  simp [sW]
theorem sW_one_le {s : ByteArray} : ∀ (ps : List Pl), 0 ≤ sW (fun _ => 1) s ps ∧ sW (fun _ => 1) s ps ≤ ps.length
  | [] => by simp [sW]
  | q :: t => by
    have := sW_one_le (s := s) t
    unfold sW
    simp only [List.length_cons]
    split <;> omega
theorem gW_ins (f : Pl → Int) (s : ByteArray) (x : Int × Grp) : ∀ G : List (Int × Grp), gW f s (ins iK x G) = sW f s x.2.ps + gW f s G
  | [] => rfl
  | y :: t => by
    unfold ins
    split
    · rfl
    · simp only [gW]
      rw [gW_ins f s x t]; omega
theorem gW_put {f : Pl → Int} {s : ByteArray} {G : List (Int × Grp)} {g : Int} (r : Grp) (h : look G g = none) : gW f s (put iK G g r) = sW f s r.ps + gW f s G := by
  unfold put
  rw [del_none h, gW_ins]
theorem gW_del {f : Pl → Int} {s : ByteArray} : ∀ {G : List (Int × Grp)} {g : Int} {r : Grp}, Apart G → look G g = some r → gW f s G = sW f s r.ps + gW f s (del G g)
  | [], g, r, _, h => by simp [look] at h
  | y :: t, g, r, ha, h => by
    unfold Apart at ha
    rw [List.pairwise_cons] at ha
    rw [look_cons] at h
    by_cases e : y.1 = g
    · rw [if_pos e] at h
      cases h
      have hn : look t g = none := by
        cases hl : look t g with
        | none => rfl
        | some x => exact absurd e (ha.1 _ (mem_of_look hl))
      have hd : del (y :: t) g = t := by
        have : del (y :: t) g = del t g := by simp [del, e]
        rw [this, del_none hn]
      rw [hd]; rfl
    · rw [if_neg e] at h
      have hd : del (y :: t) g = y :: del t g := by simp [del, e]
      rw [hd]
      simp only [gW]
      rw [gW_del ha.2 h]; omega
theorem gW_zero {f : Pl → Int} {s : ByteArray} : ∀ {G : List (Int × Grp)}, (∀ e ∈ G, ∀ p ∈ e.2.ps, p.node ≠ s) → gW f s G = 0
  | [], _ => rfl
  | y :: t, h => by
    unfold gW
    rw [sW_zero (h y (by simp)), gW_zero (fun e he => h e (by simp [he]))]
    rfl
theorem gW_nonneg {f : Pl → Int} {s : ByteArray} : ∀ {G : List (Int × Grp)}, (∀ e ∈ G, ∀ p ∈ e.2.ps, 0 ≤ f p) → 0 ≤ gW f s G
  | [], _ => Int.le_refl _
  | y :: t, h => by
    unfold gW
    have := sW_nonneg (f := f) (s := s) (h y (by simp))
    have := gW_nonneg (f := f) (s := s) (G := t) (fun e he => h e (by simp [he]))
    omega
theorem gW_one_le {s : ByteArray} {n : Nat} : ∀ (G : List (Int × Grp)), (∀ e ∈ G, e.2.ps.length ≤ n) → 0 ≤ gW (fun _ => 1) s G ∧ gW (fun _ => 1) s G ≤ G.length * n
  | [], _ => by simp [gW]
  | y :: t, h => by
    have h1 := sW_one_le (s := s) y.2.ps
    have h2 := gW_one_le (s := s) (n := n) t (fun e he => h e (by simp [he]))
    have h3 := h y (by simp)
    unfold gW
    simp only [List.length_cons]
    refine ⟨by omega, ?_⟩
    have e : ((t.length + 1 : Nat) : Int) * n = t.length * n + n := by rw [Int.natCast_add, Int.add_mul]; simp
    rw [e]
    omega

/-- A node without what is used of it. -/
def Rec.stem (r : Rec) : Rec := { r with u := 0, m := 0, k := 0 }
theorem stem_core {r r' : Rec} (h : r.stem = r'.stem) : r.nm = r'.nm ∧ r.cpu = r'.cpu ∧ r.mem = r'.mem ∧ r.xs = r'.xs ∧ r.ys = r'.ys ∧ r.cl = r'.cl := by
  cases r; cases r'
  simp only [Rec.stem, Rec.mk.injEq] at h
  obtain ⟨h1, h2, h3, h4, h5, h6, h7, h8, h9, h10, _⟩ := h
  exact ⟨h1, h2, h3, h6, h9, h10⟩

/-- What with leaves, node by node. -/
theorem with_look (s : ByteArray) {E : List (ByteArray × Rec)} : ∀ {ps : List Pl} {A M : List (ByteArray × Rec)}, withF E A ps = some M → 0 ≤ (nowR E A s).k → (nowR E A s).k + ps.length ≤ 1000000 →
    (nowR E M s).stem = (nowR E A s).stem ∧ (nowR E M s).u = (nowR E A s).u + sW (·.cpu) s ps ∧ (nowR E M s).m = (nowR E A s).m + sW (·.mem) s ps ∧ (nowR E M s).k = (nowR E A s).k + sW (fun _ => 1) s ps ∧
      ((nowR E A s).u ≤ (nowR E A s).cpu ∧ (nowR E A s).m ≤ (nowR E A s).mem → (nowR E M s).u ≤ (nowR E M s).cpu ∧ (nowR E M s).m ≤ (nowR E M s).mem)
  | [], A, M, h, _, _ => by
    simp only [withF, Option.some.injEq] at h
    subst h
    exact ⟨rfl, by simp [sW], by simp [sW], by simp [sW], fun h => h⟩
  | q :: t, A, M, h, h0, h1 => by
    unfold withF at h
    split at h
    case isFalse => cases h
    case isTrue hf =>
      simp only [List.length_cons] at h1
      by_cases e : q.node = s
      · have en : nowR E (put sK A q.node ((nowR E A q.node).plus q)) s = (nowR E A s).plus q := by
          unfold nowR
          rw [look_put, if_pos e.symm, e]
          rfl
        have hk : ((nowR E A s).plus q).k = (nowR E A s).k + 1 := by
          show wrap64 _ = _
          unfold wrap64; omega
        obtain ⟨g1, g2, g3, g4, g5⟩ := with_look s h (by rw [en, hk]; omega) (by rw [en, hk]; omega)
        rw [en] at g1 g2 g3 g4 g5
        rw [hk] at g4
        rw [e] at hf
        refine ⟨g1.trans rfl, ?_, ?_, ?_, fun _ => g5 hf⟩
        · rw [g2]; simp only [sW, if_pos e, Rec.plus]; omega
        · rw [g3]; simp only [sW, if_pos e, Rec.plus]; omega
        · rw [g4]; simp only [sW, if_pos e]; omega
      · have en : nowR E (put sK A q.node ((nowR E A q.node).plus q)) s = nowR E A s := by
          unfold nowR
          rw [look_put, if_neg (fun h => e h.symm)]
        obtain ⟨g1, g2, g3, g4, g5⟩ := with_look s h (by rw [en]; omega) (by rw [en]; omega)
        rw [en] at g1 g2 g3 g4 g5
        exact ⟨g1, by rw [g2]; simp [sW, e], by rw [g3]; simp [sW, e], by rw [g4]; simp [sW, e], g5⟩
theorem with_apart {E : List (ByteArray × Rec)} : ∀ {ps : List Pl} {A M : List (ByteArray × Rec)}, withF E A ps = some M → Apart A → Apart M
  | [], A, M, h, ha => by simp only [withF, Option.some.injEq] at h; subst h; exact ha
  | q :: t, A, M, h, ha => by
    unfold withF at h
    split at h
    · exact with_apart h (ha.put sK _ _)
    · cases h
theorem with_keys {E : List (ByteArray × Rec)} : ∀ {ps : List Pl} {A M : List (ByteArray × Rec)}, withF E A ps = some M → ∀ s, look M s ≠ none → look A s ≠ none ∨ ∃ p ∈ ps, p.node = s
  | [], A, M, h, s, hs => by simp only [withF, Option.some.injEq] at h; subst h; exact .inl hs
  | q :: t, A, M, h, s, hs => by
    unfold withF at h
    split at h
    · rcases with_keys h s hs with hh | ⟨p, hp, e⟩
      · rw [look_put] at hh
        by_cases e : s = q.node
        · exact .inr ⟨q, by simp, e.symm⟩
        · rw [if_neg e] at hh; exact .inl hh
      · exact .inr ⟨p, by simp [hp], e⟩
    · cases h
theorem merge_look (s : ByteArray) : ∀ (M E : List (ByteArray × Rec)), Apart M → look (mergeF E M) s = match look M s with | some r => some r | none => look E s
  | [], E, _ => rfl
  | e :: t, E, ha => by
    unfold Apart at ha
    rw [List.pairwise_cons] at ha
    have ih := merge_look s t (put sK E e.1 e.2) ha.2
    show look (mergeF (put sK E e.1 e.2) t) s = _
    rw [ih, look_cons]
    by_cases h : e.1 = s
    · have hn : look t s = none := by
        cases hl : look t s with
        | none => rfl
        | some x => exact absurd h (ha.1 _ (mem_of_look hl))
      rw [hn, if_pos h]
      simp only
      rw [look_put, if_pos h.symm]
    · rw [if_neg h]
      cases look t s with
      | some r => rfl
      | none =>
        simp only
        rw [look_put, if_neg (fun e' => h e'.symm)]
theorem merge_keys : ∀ (M E : List (ByteArray × Rec)), Rises (E.map (·.1)) → (∀ e ∈ M, look E e.1 ≠ none) → (mergeF E M).map (·.1) = E.map (·.1)
  | [], _, _, _ => rfl
  | e :: t, E, hr, h => by
    have hk := put_keys_has e.2 hr (h e (by simp))
    show (mergeF (put sK E e.1 e.2) t).map (·.1) = _
    rw [merge_keys t (put sK E e.1 e.2) (by rw [hk]; exact hr) (fun e' he' => by
      rw [look_iff, hk, ← look_iff]
      exact h e' (by simp [he'])), hk]

/-- What giving leaves, node by node. -/
theorem give_look : ∀ {ps : List Pl} {E : List (ByteArray × Rec)}, Rises (E.map (·.1)) → (∀ p ∈ ps, 0 ≤ p.cpu ∧ 0 ≤ p.mem ∧ look E p.node ≠ none) → (∀ s r, look E s = some r → sW (·.cpu) s ps ≤ r.u ∧ sW (·.mem) s ps ≤ r.m ∧ r.k ≤ 1000000 ∧ sW (fun _ => 1) s ps ≤ r.k) →
    ∃ E', giveF E ps = some E' ∧ E'.map (·.1) = E.map (·.1) ∧ ∀ s, look E' s = (look E s).map (fun r => { r with u := r.u - sW (·.cpu) s ps, m := r.m - sW (·.mem) s ps, k := r.k - sW (fun _ => 1) s ps })
  | [], E, hr, _, _ => ⟨E, rfl, rfl, fun s => by simp [sW]⟩
  | q :: t, E, hr, hq, hs => by
    obtain ⟨h1, h2, h3⟩ := hq q (by simp)
    cases hl : look E q.node with
    | none => exact absurd hl h3
    | some r =>
      obtain ⟨g1, g2, g3, g4⟩ := hs q.node r hl
      simp only [sW, if_pos] at g1 g2 g4
      have n1 := sW_nonneg (f := (·.cpu)) (s := q.node) (ps := t) (fun p hp => (hq p (by simp [hp])).1)
      have n2 := sW_nonneg (f := (·.mem)) (s := q.node) (ps := t) (fun p hp => (hq p (by simp [hp])).2.1)
      have n3 := sW_one_le (s := q.node) t
      have hk : (r.minus q).k = r.k - 1 := by show wrap64 _ = _; unfold wrap64; omega
      have hkeys : (put sK E q.node (r.minus q)).map (·.1) = E.map (·.1) := put_keys_has _ hr (by rw [hl]; simp)
      obtain ⟨E', k1, k2, k3⟩ := give_look (ps := t) (E := put sK E q.node (r.minus q)) (by rw [hkeys]; exact hr)
        (fun p hp => ⟨(hq p (by simp [hp])).1, (hq p (by simp [hp])).2.1, by
          rw [look_put]
          split
          · simp
          · exact (hq p (by simp [hp])).2.2⟩)
        (fun s r' hl' => by
          rw [look_put] at hl'
          by_cases e : s = q.node
          · rw [if_pos e] at hl'
            cases hl'
            subst e
            rw [hk]
            simp only [Rec.minus]
            refine ⟨by omega, by omega, by omega, by omega⟩
          · rw [if_neg e] at hl'
            have := hs s r' hl'
            have e' : ¬ q.node = s := fun h => e h.symm
            simp only [sW, if_neg e'] at this
            refine ⟨by omega, by omega, this.2.2.1, by omega⟩)
      refine ⟨E', ?_, k2.trans hkeys, fun s => ?_⟩
      · show (match look E q.node with | none => none | some r => if q.cpu ≤ r.u ∧ q.mem ≤ r.m then giveF (put sK E q.node (r.minus q)) t else none) = _
        rw [hl]
        simp only
        rw [if_pos ⟨by omega, by omega⟩, k1]
      · rw [k3, look_put]
        by_cases e : s = q.node
        · subst e
          rw [if_pos rfl, hl]
          simp only [Option.map_some, Option.some.injEq, sW, if_pos]
          cases r
          simp only [Rec.minus, Rec.mk.injEq, true_and] at hk ⊢
          refine ⟨by omega, by omega, by omega⟩
        · have e' : ¬ q.node = s := fun h => e h.symm
          rw [if_neg e]
          simp only [sW, if_neg e']
          congr 1
          funext r
          simp

end Go.Proofs.YtpgchnppinbpkaaDoor
