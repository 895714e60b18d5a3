/- Ledgers in order: nodes by names, what is used of each is the sum of what all have there, and no more than it has. -/
import Derived.Test.YtpgchnppinbpkaaDoorIV
namespace Go.Proofs.YtpgchnppinbpkaaDoor
open Go.RowKit Go.Maps

/-- A ledger in order. -/
structure Inv (E : List (ByteArray × Rec)) (G : List (Int × Grp)) : Prop where
  rise : Rises (E.map (·.1))
  apE : Apart E
  apG : Apart G
  named : ∀ e ∈ E, e.2.nm = e.1 ∧ e.1.size ≤ maxLen
  cap : ∀ e ∈ E, 0 ≤ e.2.cpu ∧ e.2.cpu ≤ 1099511627776 ∧ 0 ≤ e.2.mem ∧ e.2.mem ≤ 1099511627776
  uses : ∀ s r, look E s = some r → r.u = gW (·.cpu) s G ∧ r.m = gW (·.mem) s G ∧ r.k = gW (fun _ => 1) s G ∧ r.u ≤ r.cpu ∧ r.m ≤ r.mem
  pls : ∀ e ∈ G, e.2.ps.length ≤ 8 ∧ ∀ p ∈ e.2.ps, 0 ≤ p.cpu ∧ 0 ≤ p.mem ∧ look E p.node ≠ none ∧ p.node.size ≤ maxLen
  lenE : E.length ≤ 8
  marks : ∀ e ∈ E, (∀ s ∈ e.2.xs, s.size ≤ maxLen) ∧ ∀ s ∈ e.2.ys, s.size ≤ maxLen

section
variable {E : List (ByteArray × Rec)} {G : List (Int × Grp)}
theorem Inv.nil : Inv [] [] := ⟨List.Pairwise.nil, List.Pairwise.nil, List.Pairwise.nil, by simp, by simp, by simp [look], by simp, by simp, by simp⟩
theorem Inv.count (h : Inv E G) (s : ByteArray) : 0 ≤ gW (fun _ => 1) s G ∧ gW (fun _ => 1) s G ≤ G.length * 8 := gW_one_le (n := 8) G (fun e he => (h.pls e he).1)
theorem Inv.least (h : Inv E G) (s : ByteArray) : 0 ≤ gW (·.cpu) s G ∧ 0 ≤ gW (·.mem) s G :=
  ⟨gW_nonneg fun e he p hp => ((h.pls e he).2 p hp).1, gW_nonneg fun e he p hp => ((h.pls e he).2 p hp).2.1⟩
theorem Inv.fair (h : Inv E G) : ∀ e ∈ E, e.2.Fair := by
  intro e he
  have hl := look_of_mem h.apE (show (e.1, e.2) ∈ E from he)
  obtain ⟨h1, h2, _, h4, h5⟩ := h.uses _ _ hl
  have hc := h.cap e he
  have hn := h.least e.1
  exact ⟨by omega, by omega, by omega, by omega, by omega, by omega⟩
theorem Inv.size (h : Inv E G) : ∀ e ∈ E, e.1.size ≤ maxLen := fun e he => (h.named e he).2
/-- What is used of any name, there or not. -/
theorem Inv.used (h : Inv E G) (s : ByteArray) : ((look E s).getD zrec).u = gW (·.cpu) s G ∧ ((look E s).getD zrec).m = gW (·.mem) s G ∧ ((look E s).getD zrec).k = gW (fun _ => 1) s G := by
  cases hl : look E s with
  | some r =>
    obtain ⟨h1, h2, h3, _⟩ := h.uses s r hl
    exact ⟨h1, h2, h3⟩
  | none =>
    have hz : ∀ e ∈ G, ∀ p ∈ e.2.ps, p.node ≠ s := fun e he p hp hn => ((h.pls e he).2 p hp).2.2.1 (by rw [hn, hl])
    rw [gW_zero hz, gW_zero hz, gW_zero hz]
    exact ⟨rfl, rfl, rfl⟩

theorem nodeE_size {s : ByteArray} {cpu mem : Int} {xs ys : List ByteArray} (h : nodeE s cpu mem xs ys = 0) : 0 ≤ cpu ∧ cpu ≤ 1099511627776 ∧ 0 ≤ mem ∧ mem ≤ 1099511627776 := by
  unfold nodeE askE at h
  split at h
  · split at h
    · rename_i hs
      unfold sizeB at hs
      simp at hs
      omega
    · cases h
  · cases h
theorem put_some {s : ByteArray} {cpu mem : Int} {xs ys : List ByteArray} (h : putE E s cpu mem xs ys = 0) : nodeE s cpu mem xs ys = 0 ∧ ((look E s).getD zrec).u ≤ cpu ∧ ((look E s).getD zrec).m ≤ mem ∧ (look E s = none → E.length < 8) := by
  unfold putE at h
  split at h
  · rename_i hn; exact absurd h hn
  · rename_i hn
    split at h
    · cases h
    · rename_i hf
      split at h
      · cases h
      · rename_i hc
        refine ⟨by simpa using hn, by omega, by omega, fun hl => ?_⟩
        rcases Nat.lt_or_ge E.length 8 with h8 | h8
        · exact h8
        · exact absurd ⟨hl, h8⟩ hc

/-- A node more, or one anew. -/
theorem Inv.put (h : Inv E G) {s : ByteArray} {cpu mem : Int} {xs ys : List ByteArray} {a3 a4 : Option Addr} {c3 c4 : Nat} {al : Bool} (hs : s.size ≤ maxLen) (hxs : ∀ t ∈ xs, t.size ≤ maxLen) (hys : ∀ t ∈ ys, t.size ≤ maxLen) (hA : putE E s cpu mem xs ys = 0) (hr : Rises ((put sK E s ⟨s, cpu, mem, a3, c3, xs, a4, c4, ys, al, ((look E s).getD zrec).u, ((look E s).getD zrec).m, ((look E s).getD zrec).k⟩).map (·.1))) :
    Inv (put sK E s ⟨s, cpu, mem, a3, c3, xs, a4, c4, ys, al, ((look E s).getD zrec).u, ((look E s).getD zrec).m, ((look E s).getD zrec).k⟩) G := by
  obtain ⟨hn, hu, hm, h8⟩ := put_some hA
  have hz := nodeE_size hn
  have hus := h.used s
  refine ⟨hr, h.apE.put sK _ _, h.apG, ?_, ?_, ?_, ?_, ?_, ?_⟩
  · intro e he
    rcases (mem_put sK).1 he with rfl | ⟨he, _⟩
    · exact ⟨rfl, hs⟩
    · exact h.named e he
  · intro e he
    rcases (mem_put sK).1 he with rfl | ⟨he, _⟩
    · exact hz
    · exact h.cap e he
  · intro t r hl
    rw [look_put] at hl
    by_cases e : t = s
    · subst e
      rw [if_pos rfl] at hl
      cases hl
      exact ⟨hus.1, hus.2.1, hus.2.2, hu, hm⟩
    · rw [if_neg e] at hl
      exact h.uses t r hl
  · intro e he
    refine ⟨(h.pls e he).1, fun p hp => ?_⟩
    obtain ⟨k1, k2, k3, k4⟩ := (h.pls e he).2 p hp
    refine ⟨k1, k2, ?_, k4⟩
    rw [look_put]
    split
    · simp
    · exact k3
  · rw [length_put sK h.apE]
    split
    · exact h.lenE
    · rename_i hi
      have := h8 (by simpa using hi)
      omega
  · intro e he
    rcases (mem_put sK).1 he with rfl | ⟨he, _⟩
    · exact ⟨hxs, hys⟩
    · exact h.marks e he

theorem take_some {g : Int} {ps : List Pl} (h : takeE E G g ps = 0) : look G g = none ∧ ps ≠ [] ∧ checkF E ps = 0 := by
  unfold takeE at h
  split at h
  · cases h
  · rename_i h1
    split at h
    · cases h
    · rename_i h2
      split at h
      · rename_i h3; exact absurd h h3
      · rename_i h3
        exact ⟨by simpa using h1, h2, by simpa using h3⟩

/-- What lies at a node behind a taking. -/
theorem take_look {ps : List Pl} {M : List (ByteArray × Rec)} (hE : withF E [] ps = some M) (hc : checkF E ps = 0) (s : ByteArray) : look (mergeF E M) s = (look E s).map (fun _ => nowR E M s) ∧ (look E s = none → look M s = none) := by
  have hap := with_apart hE (List.Pairwise.nil : Apart ([] : List (ByteArray × Rec)))
  have hk : look M s ≠ none → look E s ≠ none := fun hh => by
    rcases with_keys hE s hh with h1 | ⟨p, hp, rfl⟩
    · exact absurd rfl h1
    · exact check_some hc p hp
  rw [merge_look s M E hap]
  unfold nowR
  refine ⟨?_, fun hn => ?_⟩
  · cases hm : look M s with
    | some r =>
      cases he : look E s with
      | none => exact absurd he (hk (by rw [hm]; simp))
      | some r' => rfl
    | none =>
      simp only [Option.getD_none]
      cases look E s <;> rfl
  · cases hm : look M s with
    | none => rfl
    | some r => exact absurd hn (hk (by rw [hm]; simp))

theorem Inv.take (h : Inv E G) {g : Int} {ps : List Pl} {M : List (ByteArray × Rec)} {a : Option Addr} {c : Nat} (hA : takeE E G g ps = 0) (hE : withF E [] ps = some M) (hl : ps.length ≤ 8) (hG : G.length ≤ 1000) (hz : ∀ p ∈ ps, p.node.size ≤ maxLen) :
    Inv (mergeF E M) (Go.Proofs.YtpgchnppinbpkaaDoor.put iK G g ⟨a, c, ps⟩) ∧ (mergeF E M).map (·.1) = E.map (·.1) ∧ (mergeF E M).map (fun e => e.2.core) = E.map (fun e => e.2.core) := by
  obtain ⟨hgn, hne, hc⟩ := take_some hA
  have hap := with_apart hE (List.Pairwise.nil : Apart ([] : List (ByteArray × Rec)))
  have hk := merge_keys M E h.rise (fun e he => by
    have hm := look_of_mem hap (show (e.1, e.2) ∈ M from he)
    intro hn
    rw [(take_look hE hc e.1).2 hn] at hm
    cases hm)
  have hlk := fun s => take_look hE hc s
  have h0 : ∀ s, nowR E [] s = (look E s).getD zrec := fun s => rfl
  have hwl : ∀ s, _ := fun s => with_look s hE (by rw [h0, (h.used s).2.2]; exact (h.count s).1) (by rw [h0, (h.used s).2.2]; have := (h.count s).2; omega)
  have hlen : (mergeF E M).length = E.length := by
    have := congrArg List.length hk
    simpa using this
  have hapE : Apart (mergeF E M) := by
    unfold Apart
    have : Rises ((mergeF E M).map (·.1)) := by rw [hk]; exact h.rise
    unfold Rises at this
    rw [List.pairwise_map] at this
    exact this.imp fun hh e => by rw [e, sb_irrefl] at hh; cases hh
  have hcore : ∀ e ∈ mergeF E M, ∃ r, look E e.1 = some r ∧ e.2 = nowR E M e.1 ∧ e.2.core = r.core := by
    intro e he
    have hm := look_of_mem hapE (show (e.1, e.2) ∈ _ from he)
    rw [(hlk e.1).1] at hm
    cases hl' : look E e.1 with
    | none => rw [hl'] at hm; cases hm
    | some r =>
      rw [hl'] at hm
      simp only [Option.map_some, Option.some.injEq] at hm
      refine ⟨r, rfl, hm.symm, ?_⟩
      obtain ⟨w1, _⟩ := hwl e.1
      rw [h0, hl', hm] at w1
      obtain ⟨q1, q2, q3, q4, q5, q6⟩ := stem_core w1
      simp only [Option.getD_some] at q1 q2 q3 q4 q5 q6
      simp only [Rec.core, q1, q2, q3, q4, q5, q6]
  refine ⟨⟨by rw [hk]; exact h.rise, hapE, h.apG.put iK _ _, ?_, ?_, ?_, ?_, by rw [hlen]; exact h.lenE, fun e he => by
      obtain ⟨r, hr, _, hcr⟩ := hcore e he
      have hm := h.marks _ (mem_of_look hr)
      have e1 : e.2.xs = r.xs := congrArg (fun x => x.2.2.2.1) hcr
      have e2 : e.2.ys = r.ys := congrArg (fun x => x.2.2.2.2.1) hcr
      rw [e1, e2]; exact hm⟩, hk, ?_⟩
  · intro e he
    obtain ⟨r, hr, _, hcr⟩ := hcore e he
    have hm := h.named _ (mem_of_look hr)
    exact ⟨(congrArg (fun x => x.1) hcr).trans hm.1, hm.2⟩
  · intro e he
    obtain ⟨r, hr, _, hcr⟩ := hcore e he
    have hm := h.cap _ (mem_of_look hr)
    have e1 : e.2.cpu = r.cpu := congrArg (fun x => x.2.1) hcr
    have e2 : e.2.mem = r.mem := congrArg (fun x => x.2.2.1) hcr
    rw [e1, e2]; exact hm
  · intro s r hl'
    rw [(hlk s).1] at hl'
    cases he : look E s with
    | none => rw [he] at hl'; cases hl'
    | some r0 =>
      rw [he] at hl'
      simp only [Option.map_some, Option.some.injEq] at hl'
      obtain ⟨w1, w2, w3, w4, w5⟩ := hwl s
      obtain ⟨u1, u2, u3, u4, u5⟩ := h.uses s r0 he
      rw [h0, he, hl'] at w1 w2 w3 w4 w5
      simp only [Option.getD_some] at w1 w2 w3 w4 w5
      rw [gW_put _ hgn, gW_put _ hgn, gW_put _ hgn, w2, w3, w4]
      have := w5 ⟨u4, u5⟩
      refine ⟨by dsimp only; omega, by dsimp only; omega, by dsimp only; omega, by omega, by omega⟩
  · intro e he
    have hsome : ∀ s, look E s ≠ none → look (mergeF E M) s ≠ none := fun s hs => by
      rw [(hlk s).1]
      cases h' : look E s with
      | none => exact absurd h' hs
      | some r => simp
    rcases (mem_put iK).1 he with rfl | ⟨he, _⟩
    · exact ⟨hl, fun p hp => ⟨(check_right hc p hp).1, (check_right hc p hp).2, hsome _ (check_some hc p hp), hz p hp⟩⟩
    · refine ⟨(h.pls e he).1, fun p hp => ?_⟩
      obtain ⟨k1, k2, k3, k4⟩ := (h.pls e he).2 p hp
      exact ⟨k1, k2, hsome _ k3, k4⟩
  · refine List.ext_getElem (by simp [hlen]) fun i h1 h2 => ?_
    simp only [List.length_map] at h1 h2
    simp only [List.getElem_map]
    obtain ⟨r, hr, _, hcr⟩ := hcore _ (List.getElem_mem h1)
    have hki : (mergeF E M)[i].1 = E[i].1 := by
      have : ((mergeF E M).map (·.1))[i]'(by simpa using h1) = (E.map (·.1))[i]'(by simpa using h2) := by simp only [hk]
      simpa using this
    rw [hki, look_of_mem h.apE (show (E[i].1, E[i].2) ∈ E from List.getElem_mem h2)] at hr
    cases hr
    exact hcr

theorem Inv.give (h : Inv E G) {g : Int} {r : Grp} (hg : look G g = some r) (hG : G.length ≤ 1000) : ∃ E', giveF E r.ps = some E' ∧ Inv E' (del G g) ∧ E'.map (·.1) = E.map (·.1) ∧ E'.map (fun e => e.2.core) = E.map (fun e => e.2.core) := by
  have hmem := mem_of_look hg
  obtain ⟨p1, p2⟩ := h.pls _ hmem
  have hd := fun (f : Pl → Int) (s : ByteArray) => gW_del (f := f) (s := s) h.apG hg
  have hsub : ∀ e ∈ del G g, e ∈ G := fun e he => (mem_del.1 he).1
  have hn1 : ∀ s, 0 ≤ gW (·.cpu) s (del G g) := fun s => gW_nonneg fun e he p hp => ((h.pls e (hsub e he)).2 p hp).1
  have hn2 : ∀ s, 0 ≤ gW (·.mem) s (del G g) := fun s => gW_nonneg fun e he p hp => ((h.pls e (hsub e he)).2 p hp).2.1
  have hn3 : ∀ s, 0 ≤ gW (fun _ => 1) s (del G g) := fun s => gW_nonneg fun e he p hp => by decide
  obtain ⟨E', k1, k2, k3⟩ := give_look (ps := r.ps) (E := E) h.rise (fun p hp => ⟨(p2 p hp).1, (p2 p hp).2.1, (p2 p hp).2.2.1⟩) (fun s r' hl => by
    obtain ⟨u1, u2, u3, u4, u5⟩ := h.uses s r' hl
    have d1 := hd (·.cpu) s
    have d2 := hd (·.mem) s
    have d3 := hd (fun _ => 1) s
    have n1 := hn1 s
    have n2 := hn2 s
    have n3 := hn3 s
    have hc := (h.count s).2
    refine ⟨by omega, by omega, by omega, by omega⟩)
  have hlen : E'.length = E.length := by
    have := congrArg List.length k2
    simpa using this
  have hapE : Apart E' := by
    unfold Apart
    have : Rises (E'.map (·.1)) := by rw [k2]; exact h.rise
    unfold Rises at this
    rw [List.pairwise_map] at this
    exact this.imp fun hh e => by rw [e, sb_irrefl] at hh; cases hh
  have hcore : ∀ e ∈ E', ∃ r0, look E e.1 = some r0 ∧ e.2.core = r0.core := by
    intro e he
    have hm := look_of_mem hapE (show (e.1, e.2) ∈ _ from he)
    rw [k3 e.1] at hm
    cases hl' : look E e.1 with
    | none => rw [hl'] at hm; cases hm
    | some r0 =>
      rw [hl'] at hm
      simp only [Option.map_some, Option.some.injEq] at hm
      exact ⟨r0, rfl, by rw [← hm]; rfl⟩
  refine ⟨E', k1, ⟨by rw [k2]; exact h.rise, hapE, h.apG.del g, ?_, ?_, ?_, ?_, by rw [hlen]; exact h.lenE, fun e he => by
      obtain ⟨r, hr, hcr⟩ := hcore e he
      have hm := h.marks _ (mem_of_look hr)
      have e1 : e.2.xs = r.xs := congrArg (fun x => x.2.2.2.1) hcr
      have e2 : e.2.ys = r.ys := congrArg (fun x => x.2.2.2.2.1) hcr
      rw [e1, e2]; exact hm⟩, k2, ?_⟩
  · intro e he
    obtain ⟨r0, hr, hcr⟩ := hcore e he
    have hm := h.named _ (mem_of_look hr)
    exact ⟨(congrArg (fun x => x.1) hcr).trans hm.1, hm.2⟩
  · intro e he
    obtain ⟨r0, hr, hcr⟩ := hcore e he
    have hm := h.cap _ (mem_of_look hr)
    have e1 : e.2.cpu = r0.cpu := congrArg (fun x => x.2.1) hcr
    have e2 : e.2.mem = r0.mem := congrArg (fun x => x.2.2.1) hcr
    rw [e1, e2]; exact hm
  · intro s r' hl'
    rw [k3] at hl'
    cases he : look E s with
    | none => rw [he] at hl'; cases hl'
    | some r0 =>
      rw [he] at hl'
      simp only [Option.map_some, Option.some.injEq] at hl'
      obtain ⟨u1, u2, u3, u4, u5⟩ := h.uses s r0 he
      have d1 := hd (·.cpu) s
      have d2 := hd (·.mem) s
      have d3 := hd (fun _ => 1) s
      have s1 := sW_nonneg (f := (·.cpu)) (s := s) (ps := r.ps) (fun p hp => (p2 p hp).1)
      have s2 := sW_nonneg (f := (·.mem)) (s := s) (ps := r.ps) (fun p hp => (p2 p hp).2.1)
      rw [← hl']
      refine ⟨by simp only; omega, by simp only; omega, by simp only; omega, by simp only; omega, by simp only; omega⟩
  · intro e he
    refine ⟨(h.pls e (hsub e he)).1, fun p hp => ?_⟩
    obtain ⟨q1, q2, q3, q4⟩ := (h.pls e (hsub e he)).2 p hp
    refine ⟨q1, q2, ?_, q4⟩
    rw [k3]
    cases h' : look E p.node with
    | none => exact absurd h' q3
    | some r => simp
  · refine List.ext_getElem (by simp [hlen]) fun i h1 h2 => ?_
    simp only [List.length_map] at h1 h2
    simp only [List.getElem_map]
    obtain ⟨r0, hr, hcr⟩ := hcore _ (List.getElem_mem h1)
    have hki : E'[i].1 = E[i].1 := by
      have : (E'.map (·.1))[i]'(by simpa using h1) = (E.map (·.1))[i]'(by simpa using h2) := by simp only [k2]
      simpa using this
    rw [hki, look_of_mem h.apE (show (E[i].1, E[i].2) ∈ E from List.getElem_mem h2)] at hr
    cases hr
    exact hcr

theorem sW_one_zero {s : ByteArray} : ∀ {ps : List Pl}, sW (fun _ => 1) s ps = 0 → ∀ p ∈ ps, p.node ≠ s
  | [], _, p, hp => by cases hp
  | q :: t, h, p, hp => by
    have := sW_one_le (s := s) t
    unfold sW at h
    split at h
    · omega
    · rename_i hq
      rcases List.mem_cons.1 hp with rfl | hp
      · exact hq
      · exact sW_one_zero (by omega) p hp
theorem gW_one_zero {s : ByteArray} : ∀ {G : List (Int × Grp)}, gW (fun _ => 1) s G = 0 → ∀ e ∈ G, ∀ p ∈ e.2.ps, p.node ≠ s
  | [], _, e, he => by cases he
  | y :: t, h, e, he => by
    have h1 := sW_one_le (s := s) y.2.ps
    have h2 : 0 ≤ gW (fun _ => 1) s t := gW_nonneg fun _ _ _ _ => by decide
    unfold gW at h
    rcases List.mem_cons.1 he with rfl | he
    · exact sW_one_zero (by omega)
    · exact gW_one_zero (by omega) e he
theorem Inv.gone (h : Inv E G) {s : ByteArray} (hA : goneE E s = 0) : Inv (del E s) G := by
  have hk : ∀ e ∈ G, ∀ p ∈ e.2.ps, p.node ≠ s := by
    unfold goneE at hA
    cases hl : look E s with
    | none => rw [hl] at hA; cases hA
    | some r =>
      rw [hl] at hA
      simp only at hA
      split at hA
      · cases hA
      · rename_i hr
        have := (h.uses s r hl).2.2.1
        have h2 := (h.count s).1
        exact gW_one_zero (by omega)
  refine ⟨?_, h.apE.del s, h.apG, fun e he => h.named e (mem_del.1 he).1, fun e he => h.cap e (mem_del.1 he).1, ?_, ?_, ?_, fun e he => h.marks e (mem_del.1 he).1⟩
  · have := h.rise
    unfold Rises at *
    rw [List.pairwise_map] at *
    exact List.Pairwise.filter _ this
  · intro t r hl
    rw [look_del] at hl
    split at hl
    · cases hl
    · exact h.uses t r hl
  · intro e he
    refine ⟨(h.pls e he).1, fun p hp => ?_⟩
    obtain ⟨q1, q2, q3, q4⟩ := (h.pls e he).2 p hp
    refine ⟨q1, q2, ?_, q4⟩
    rw [look_del, if_neg (hk e he p hp)]
    exact q3
  · have := h.lenE
    have h2 : (del E s).length ≤ E.length := List.length_filter_le _ _
    omega
end

end Go.Proofs.YtpgchnppinbpkaaDoor
