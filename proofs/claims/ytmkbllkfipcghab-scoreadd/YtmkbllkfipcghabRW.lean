/- The law of a region that draws its order, where operations make memory of their own, hand it on and write to it: what two of them have does not overlap. -/
import Derived.Test.YtmkbllkfipcghabRX
namespace Go.Proofs.Ytmkbllkfipcghab
open Go.RowKit

section
variable {P : Program} {ops : Array Oper}

/-- The law. -/
theorem wp_region_sep {id : Nat} {Q : Exit → Act → World → Prop} {a : Act} {w : World} (own : Nat → Bool) (used : Nat → Option Nat) (R : World → Prop) (F : Nat → Value → World → Prop)
    (hm : P.follows .mixedOrders = true) (hn : Region.neatZ .any ops a.tmps.size = true) (hR : R w.drew)
    (hkB : ∀ j v w1 w2, R w1 → Below w1.heap.size w1 w2 → F j v w1 → F j v w2)
    (hkG : ∀ j v w1 w2 q, R w1 → w1.grownBy w2 (some q) → (own j = true → v.ownBlock ≠ some q) → F j v w1 → F j v w2)
    (hlt : ∀ j v w1 g, own j = true → F j v w1 → v.ownBlock = some g → g < w1.heap.size)
    (hstep : ∀ i o, ops[i]? = some o → ∀ b w1, R w1 → (∀ t, filledBehind ops t i = true → sl b t = sl a t) →
      (∀ j oj, ops[j]? = some oj → waits o j = true → (used j = none ∨ used j = some i) → F j (slv b oj) w1) →
      okOp P ops i (fun b' w2 => ∃ v, b' = b.put o.dst v ∧ (o.dst = none → v = undef) ∧ R w2 ∧
        (Below w1.heap.size w1 w2 ∨ ∃ c q, used c = some i ∧ own c = true ∧ waits o c = true ∧ (vals ops b c).ownBlock = some q ∧ w1.grownBy w2 (some q)) ∧
        ((own i = true → ∀ g, v.ownBlock = some g → w1.heap.size ≤ g ∨ ∃ c, used c = some i ∧ own c = true ∧ waits o c = true ∧ (vals ops b c).ownBlock = some g) ∧ F i v w2)) b w1)
    (hend : ∀ b w1, R w1 → b.tmps.size = a.tmps.size → b.defers = a.defers → (∀ t, fills ops t = false → sl b t = sl a t) →
      (∀ i o, ops[i]? = some o → used i = none → F i (slv b o) w1) → Q .normal b w1) : (Code.region id ops true).wp P Q a w := by
  have hval : ∀ b j oj, ops[j]? = some oj → vals ops b j = slv b oj := fun b j oj hj => by unfold vals; rw [hj]
  refine wp_region_K (fun _ => True) hm (wpK_inv (J := fun l b w1 => l.size = ops.size ∧ R w1 ∧ b.tmps.size = a.tmps.size ∧ b.defers = a.defers ∧
    (∀ j oj, ops[j]? = some oj → l.getD j false = true → ∀ e ∈ oj.after, Region.binds .any e = true → l.getD e.on false = true) ∧
    (∀ t, (∀ j oj, ops[j]? = some oj → oj.dst = some t → l.getD j false = false) → sl b t = sl a t) ∧
    (∀ i o, ops[i]? = some o → l.getD i false = true → (∀ c, used i = some c → l.getD c false = false) → F i (vals ops b i) w1) ∧
    (∀ j k, j ≠ k → own j = true → own k = true → j < ops.size → k < ops.size → l.getD j false = true → l.getD k false = true → (∀ c, used j = some c → l.getD c false = false) → (∀ c, used k = some c → l.getD c false = false) →
      ∀ g, (vals ops b j).ownBlock = some g → (vals ops b k).ownBlock ≠ some g)) ?_ ?_ _ _ _ _ ?_ ?_)
  · intro l b w1 i ⟨hs, hR1, hsz, hdf, hcl, hold, hfact, hsep⟩ hi
    obtain ⟨hun, o, ho, hall⟩ := mem_ready.1 hi
    obtain ⟨hd, _⟩ := neatZ_spec hn ho
    have hlt' : i < l.size := by have := (Array.getElem?_eq_some_iff.1 ho).1; omega
    have hif : l.getD i false = false := by
      rw [Array.getD_eq_getD_getElem?, Array.getElem?_eq_getElem hlt'] at hun ⊢
      simpa using hun
    have hnw : ∀ j oj, ops[j]? = some oj → l.getD j false = true → waits oj i = false := by
      intro j oj hj hl
      cases hx : waits oj i with
      | false => rfl
      | true =>
        obtain ⟨e, he, hon, hb⟩ := after_any hx
        have := hcl j oj hj hl e he hb
        rw [hon, hif] at this
        cases this
    have hlisted : ∀ c, waits o c = true → l.getD c false = true ∧ c < ops.size := fun c hx => by
      obtain ⟨e, he, hon, hb⟩ := after_any hx
      have hlc : l.getD c false = true := hon ▸ hall e he hb
      refine ⟨hlc, ?_⟩
      rcases Nat.lt_or_ge c l.size with h | h
      · omega
      · rw [Array.getD_eq_getD_getElem?, Array.getElem?_eq_none h] at hlc; cases hlc
    have hlive : ∀ c, used c = some i → ∀ c', used c = some c' → l.getD c' false = false := fun c h c' h' => by
      rw [h] at h'; cases h'; exact hif
    refine okOp_mono ?_ (hstep i o ho b w1 hR1 (fun t ht => hold t fun j oj hj hdj => ?_) fun j oj hj hx hu => ?_)
    · rintro b' w2 ⟨v, rfl, hu, hR2, hS, hnew, hF⟩
      have hv1 : vals ops (b.put o.dst v) i = v := by
        rw [hval _ i o ho]
        unfold slv
        cases hdst : o.dst with
        | none => exact (hu hdst).symm
        | some d => exact sl_same rfl hsz (hd d hdst).1
      have hv2 : ∀ j, i ≠ j → vals ops (b.put o.dst v) j = vals ops b j := fun j hij => by
        unfold vals
        cases hj : ops[j]? with
        | none => rfl
        | some oj =>
          simp only
          unfold slv
          cases hdj : oj.dst with
          | none => rfl
          | some dj =>
            cases hdst : o.dst with
            | none => rfl
            | some d =>
              have hne : d ≠ dj := by
                intro e
                subst e
                exact hij ((hd d hdst).2 j oj hj hdj)
              exact sl_ne rfl hne rfl
      have before : ∀ j, i ≠ j → (∀ c, used j = some c → (l.setIfInBounds i true).getD c false = false) → (∀ c, used j = some c → l.getD c false = false) ∧ used j ≠ some i := fun j hij hus => by
        have hne : used j ≠ some i := by
          intro e
          have := hus i e
          rw [getD_set_same hlt'] at this
          cases this
        refine ⟨fun c hc => ?_, hne⟩
        have := hus c hc
        rcases Decidable.em (i = c) with rfl | hic
        · exact hif
        · rwa [getD_set_ne false hic] at this
      refine ⟨by simp [hs], hR2, by rw [put_size, hsz], hdf ▸ (by cases o.dst <;> rfl), fun j oj hj hl e he hb => ?_, fun t ht => ?_, fun j oj hj hl hus => ?_, fun j k hjk oj ok hjs hks hlj hlk huj huk g hg => ?_⟩
      · have key : l.getD e.on false = true := by
          rcases Decidable.em (i = j) with rfl | hne
          · rw [ho] at hj; cases hj; exact hall e he hb
          · exact hcl j oj hj (by rwa [getD_set_ne false hne] at hl) e he hb
        rcases Decidable.em (i = e.on) with h1 | h1
        · rw [← h1]; exact getD_set_same hlt'
        · rw [getD_set_ne false h1]; exact key
      · have hne : o.dst ≠ some t := by
          intro e
          have := ht i o ho e
          rw [getD_set_same hlt'] at this
          cases this
        have hb : sl b t = sl a t := hold t fun j oj hj hdj => by
          have := ht j oj hj hdj
          rcases Decidable.em (i = j) with rfl | hij
          · exact hif
          · rwa [getD_set_ne false hij] at this
        cases hdst : o.dst with
        | none => exact hb
        | some d => exact sl_ne rfl (fun e => hne (by rw [hdst, e])) hb
      · rcases Decidable.em (i = j) with rfl | hij
        · rw [hv1]; exact hF
        · have hlj : l.getD j false = true := by rwa [getD_set_ne false hij] at hl
          obtain ⟨hus', hnu⟩ := before j hij hus
          have hFj := hfact j oj hj hlj hus'
          rw [hv2 j hij]
          rcases hS with hB | ⟨c, q, hc1, hc2, hc3, hc4, hg⟩
          · exact hkB j _ _ _ hR1 hB hFj
          · refine hkG j _ _ _ q hR1 hg (fun hoj => ?_) hFj
            have hcj : c ≠ j := fun e => hnu (e ▸ hc1)
            exact hsep c j hcj hc2 hoj (hlisted c hc3).2 (by have := (Array.getElem?_eq_some_iff.1 hj).1; omega) (hlisted c hc3).1 hlj (hlive c hc1) hus' q hc4
      · rcases Decidable.em (i = j) with rfl | hij
        · rcases Decidable.em (i = k) with rfl | hik
          · exact absurd rfl hjk
          · have hlk' : l.getD k false = true := by rwa [getD_set_ne false hik] at hlk
            obtain ⟨huk', hnu⟩ := before k hik huk
            rw [hv1] at hg
            rw [hv2 k hik]
            have hFk := hfact k ops[k] (Array.getElem?_eq_getElem hks) hlk' huk'
            rcases hnew oj g hg with h | ⟨c, hc1, hc2, hc3, hc4⟩
            · intro e
              have := hlt k _ _ g ok hFk e
              omega
            · exact hsep c k (fun e => hnu (e ▸ hc1)) hc2 ok (hlisted c hc3).2 hks (hlisted c hc3).1 hlk' (hlive c hc1) huk' g hc4
        · have hlj' : l.getD j false = true := by rwa [getD_set_ne false hij] at hlj
          obtain ⟨huj', hnu⟩ := before j hij huj
          rw [hv2 j hij] at hg
          rcases Decidable.em (i = k) with rfl | hik
          · rw [hv1]
            intro e
            have hFj := hfact j ops[j] (Array.getElem?_eq_getElem hjs) hlj' huj'
            rcases hnew ok g e with h | ⟨c, hc1, hc2, hc3, hc4⟩
            · have := hlt j _ _ g oj hFj hg
              omega
            · exact hsep j c (fun e => hnu (e ▸ hc1)) oj hc2 hjs (hlisted c hc3).2 hlj' (hlisted c hc3).1 huj' (hlive c hc1) g hg hc4
          · rw [hv2 k hik]
            have hlk' : l.getD k false = true := by rwa [getD_set_ne false hik] at hlk
            exact hsep j k hjk oj ok hjs hks hlj' hlk' huj' (before k hik huk).1 g hg
    · cases hx : l.getD j false with
      | false => rfl
      | true =>
        have h1 := hnw j oj hj hx
        unfold filledBehind at ht
        have h2 := Array.all_eq_true_iff_forall_mem.1 ht oj (Array.mem_of_getElem? hj)
        rw [h1, hdj] at h2
        simp at h2
    · rw [← hval b j oj hj]
      refine hfact j oj hj (hlisted j hx).1 fun c hc => ?_
      rcases hu with hu | hu
      · rw [hu] at hc; cases hc
      · rw [hu] at hc; cases hc; exact hif
  · intro l b w1 ⟨hs, hR1, hsz, hdf, hcl, hold, hfact, hsep⟩ hr
    refine hend b w1 hR1 hsz hdf (fun t ht => hold t fun j oj hj hdj => ?_) fun i o hi hu => by
      rw [← hval b i o hi]
      exact hfact i o hi (readyZ_all hn hs hr i (Array.getElem?_eq_some_iff.1 hi).1) (fun c hc => by rw [hu] at hc; cases hc)
    exfalso
    have : fills ops t = true := by
      unfold fills
      rw [Array.any_eq_true]
      obtain ⟨h1, h2⟩ := Array.getElem?_eq_some_iff.1 hj
      exact ⟨j, h1, by rw [h2]; simp [hdj]⟩
    rw [this] at ht
    cases ht
  · have : left (Array.replicate ops.size false) = ops.size := by simp [left]
    omega
  · have none' : ∀ i, (Array.replicate ops.size false).getD i false = false := fun i => by
      rw [Array.getD_eq_getD_getElem?, Array.getElem?_replicate]
      split <;> rfl
    refine ⟨by simp, hR, rfl, rfl, fun j oj hj hl => ?_, fun _ _ => rfl, fun i o hi hl => ?_, fun j k _ _ _ _ _ hl => ?_⟩
    · rw [none'] at hl; cases hl
    · rw [none'] at hl; cases hl
    · rw [none'] at hl; cases hl

end
end Go.Proofs.Ytmkbllkfipcghab
