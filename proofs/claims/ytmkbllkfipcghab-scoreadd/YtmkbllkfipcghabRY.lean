/- The law of a region that draws its order, where an operation may use up what was there at the start. -/
import Derived.Test.YtmkbllkfipcghabRZ
namespace Go.Proofs.Ytmkbllkfipcghab
open Go.RowKit

section
variable {P : Program} {ops : Array Oper}

/-- Does this operation wait for that one? -/
def waits (o : Oper) (i : Nat) : Bool := o.after.any fun e => e.on == i && Region.binds .any e

/-- Every operation that fills this slot waits for that one. -/
def filledBehind (ops : Array Oper) (t : Tmp) (i : Nat) : Bool := ops.all fun o => o.dst != some t || waits o i

/-- The law: F: what an operation leaves; G: what it needs and finds, as long as it has not come up. -/
theorem wp_region_relyY {id : Nat} {Q : Exit → Act → World → Prop} {a : Act} {w : World} (R : World → Prop) (S : Nat → World → World → Prop) (F : Nat → Value → World → Prop) (G : Nat → World → Prop)
    (hm : P.follows .mixedOrders = true) (hn : Region.neatZ .any ops a.tmps.size = true) (hR : R w.drew) (hG : ∀ c, G c w.drew)
    (hkeep : ∀ i j oj v w1 w2, i ≠ j → ops[j]? = some oj → waits oj i = false → R w1 → S i w1 w2 → F j v w1 → F j v w2)
    (hgive : ∀ i c w1 w2, i ≠ c → R w1 → S i w1 w2 → G c w1 → G c w2)
    (hstep : ∀ i o, ops[i]? = some o → ∀ b w1, R w1 → G i w1 → (∀ t, filledBehind ops t i = true → sl b t = sl a t) →
      (∀ j oj, ops[j]? = some oj → waits o j = true → F j (slv b oj) w1) →
      okOp P ops i (fun b' w2 => ∃ v, b' = b.put o.dst v ∧ (o.dst = none → v = undef) ∧ R w2 ∧ S i w1 w2 ∧ F i v w2) b w1)
    (hend : ∀ b w1, R w1 → b.tmps.size = a.tmps.size → b.defers = a.defers → (∀ t, fills ops t = false → sl b t = sl a t) →
      (∀ i o, ops[i]? = some o → F i (slv b o) w1) → Q .normal b w1) : (Code.region id ops true).wp P Q a w := by
  refine wp_region_K (fun _ => True) hm (wpK_inv (J := fun l b w1 => l.size = ops.size ∧ R w1 ∧ b.tmps.size = a.tmps.size ∧ b.defers = a.defers ∧
    (∀ j oj, ops[j]? = some oj → l.getD j false = true → ∀ e ∈ oj.after, Region.binds .any e = true → l.getD e.on false = true) ∧
    (∀ t, (∀ j oj, ops[j]? = some oj → oj.dst = some t → l.getD j false = false) → sl b t = sl a t) ∧
    (∀ i o, ops[i]? = some o → l.getD i false = true → F i (slv b o) w1) ∧ ∀ c, l.getD c false = false → G c w1) ?_ ?_ _ _ _ _ ?_ ?_)
  · intro l b w1 i ⟨hs, hR1, hsz, hdf, hcl, hold, hfact, hgs⟩ hi
    obtain ⟨hun, o, ho, hall⟩ := mem_ready.1 hi
    obtain ⟨hd, _⟩ := neatZ_spec hn ho
    have hlt : i < l.size := by have := (Array.getElem?_eq_some_iff.1 ho).1; omega
    have hif : l.getD i false = false := by
      rw [Array.getD_eq_getD_getElem?, Array.getElem?_eq_getElem hlt] at hun ⊢
      simpa using hun
    have hnw : ∀ j oj, ops[j]? = some oj → l.getD j false = true → waits oj i = false := by
      intro j oj hj hl
      cases hx : waits oj i with
      | false => rfl
      | true =>
        obtain ⟨e, he, hon, hb⟩ := after_any hx
        have := hcl j oj hj hl e he hb
        rw [hon, hif] at this
        cases this
    refine okOp_mono ?_ (hstep i o ho b w1 hR1 (hgs i hif) (fun t ht => hold t fun j oj hj hdj => ?_) fun j oj hj hx => by
      obtain ⟨e, he, hon, hb⟩ := after_any hx
      exact hfact j oj hj (hon ▸ hall e he hb))
    · rintro b' w2 ⟨v, rfl, hu, hR2, hS, hF⟩
      refine ⟨by simp [hs], hR2, by rw [put_size, hsz], hdf ▸ (by cases o.dst <;> rfl), fun j oj hj hl e he hb => ?_, fun t ht => ?_, fun j oj hj hl => ?_, fun c hc => ?_⟩
      · have key : l.getD e.on false = true := by
          rcases Decidable.em (i = j) with rfl | hne
          · rw [ho] at hj; cases hj; exact hall e he hb
          · exact hcl j oj hj (by rwa [getD_set_ne false hne] at hl) e he hb
        rcases Decidable.em (i = e.on) with h1 | h1
        · rw [← h1]; exact getD_set_same hlt
        · rw [getD_set_ne false h1]; exact key
      · have hne : o.dst ≠ some t := by
          intro e
          have := ht i o ho e
          rw [getD_set_same hlt] at this
          cases this
        have hb : sl b t = sl a t := hold t fun j oj hj hdj => by
          have := ht j oj hj hdj
          rcases Decidable.em (i = j) with rfl | hij
          · exact hif
          · rwa [getD_set_ne false hij] at this
        cases hdst : o.dst with
        | none => exact hb
        | some d => exact sl_ne rfl (fun e => hne (by rw [hdst, e])) hb
      · rcases Decidable.em (i = j) with rfl | hij
        · rw [ho] at hj
          cases hj
          have : slv (b.put o.dst v) o = v := by
            unfold slv
            cases hdst : o.dst with
            | none => exact (hu hdst).symm
            | some d => exact sl_same rfl hsz (hd d hdst).1
          rw [this]
          exact hF
        · have hlj : l.getD j false = true := by rwa [getD_set_ne false hij] at hl
          have : slv (b.put o.dst v) oj = slv b oj := by
            unfold slv
            cases hdj : oj.dst with
            | none => rfl
            | some dj =>
              cases hdst : o.dst with
              | none => rfl
              | some d =>
                have hne : d ≠ dj := by
                  intro e
                  subst e
                  exact hij ((hd d hdst).2 j oj hj hdj)
                exact sl_ne rfl hne rfl
          rw [this]
          exact hkeep i j oj _ _ _ hij hj (hnw j oj hj hlj) hR1 hS (hfact j oj hj hlj)
      · have hic : i ≠ c := by
          intro e
          subst e
          rw [getD_set_same hlt] at hc
          cases hc
        exact hgive i c _ _ hic hR1 hS (hgs c (by rwa [getD_set_ne false hic] at hc))
    · cases hx : l.getD j false with
      | false => rfl
      | true =>
        have h1 := hnw j oj hj hx
        unfold filledBehind at ht
        have h2 := Array.all_eq_true_iff_forall_mem.1 ht oj (Array.mem_of_getElem? hj)
        rw [h1, hdj] at h2
        simp at h2
  · intro l b w1 ⟨hs, hR1, hsz, hdf, hcl, hold, hfact, hgs⟩ hr
    refine hend b w1 hR1 hsz hdf (fun t ht => hold t fun j oj hj hdj => ?_) fun i o hi => hfact i o hi (readyZ_all hn hs hr i (Array.getElem?_eq_some_iff.1 hi).1)
    exfalso
    have : fills ops t = true := by
      unfold fills
      rw [Array.any_eq_true]
      obtain ⟨h1, h2⟩ := Array.getElem?_eq_some_iff.1 hj
      exact ⟨j, h1, by rw [h2]; simp [hdj]⟩
    rw [this] at ht
    cases ht
  · have : left (Array.replicate ops.size false) = ops.size := by simp [left]
    omega
  · have none' : ∀ i, (Array.replicate ops.size false).getD i false = false := fun i => by
      rw [Array.getD_eq_getD_getElem?, Array.getElem?_replicate]
      split <;> rfl
    refine ⟨by simp, hR, rfl, rfl, fun j oj hj hl => ?_, fun _ _ => rfl, fun i o hi hl => ?_, fun c _ => hG c⟩
    · rw [none'] at hl; cases hl
    · rw [none'] at hl; cases hl

end
end Go.Proofs.Ytmkbllkfipcghab
