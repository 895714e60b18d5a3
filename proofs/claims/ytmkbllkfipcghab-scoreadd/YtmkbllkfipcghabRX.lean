/- The law of a region that draws its order, where what is said of an operation may name those that it waits for, and may be used up by another one. -/
import Derived.Test.YtmkbllkfipcghabRY
namespace Go.Proofs.Ytmkbllkfipcghab
open Go.RowKit

section
variable {P : Program} {ops : Array Oper}

/-- What each operation has left. -/
def vals (ops : Array Oper) (b : Act) (j : Nat) : Value := match ops[j]? with
  | none => undef
  | some o => slv b o
/-- The same with one more. -/
def upd (val : Nat → Value) (i : Nat) (v : Value) : Nat → Value := fun j => if j = i then v else val j

/-- The law. -/
theorem wp_region_relyX {id : Nat} {Q : Exit → Act → World → Prop} {a : Act} {w : World} (used : Nat → Option Nat) (R : World → Prop) (S : Nat → (Nat → Value) → World → World → Prop) (F : Nat → (Nat → Value) → World → Prop) (G : Nat → World → Prop)
    (hm : P.follows .mixedOrders = true) (hn : Region.neatZ .any ops a.tmps.size = true) (hR : R w.drew) (hG : ∀ c, G c w.drew)
    (hloc : ∀ j oj val val' w1, ops[j]? = some oj → val j = val' j → (∀ c, waits oj c = true → val c = val' c) → F j val w1 → F j val' w1)
    (hkeep : ∀ i j oi oj val w1 w2, i ≠ j → ops[i]? = some oi → ops[j]? = some oj → waits oj i = false → used j ≠ some i → R w1 →
      (∀ c, waits oi c = true → (used c = none ∨ used c = some i) → F c val w1) → S i val w1 w2 → F j val w1 → F j val w2)
    (hgive : ∀ i c val w1 w2, i ≠ c → R w1 → S i val w1 w2 → G c w1 → G c w2)
    (hstep : ∀ i o, ops[i]? = some o → ∀ b w1, R w1 → G i w1 → (∀ t, filledBehind ops t i = true → sl b t = sl a t) →
      (∀ j oj, ops[j]? = some oj → waits o j = true → (used j = none ∨ used j = some i) → F j (vals ops b) w1 ∧ vals ops b j = slv b oj) →
      okOp P ops i (fun b' w2 => ∃ v, b' = b.put o.dst v ∧ (o.dst = none → v = undef) ∧ R w2 ∧ S i (vals ops b) w1 w2 ∧ F i (upd (vals ops b) i v) w2) b w1)
    (hend : ∀ b w1, R w1 → b.tmps.size = a.tmps.size → b.defers = a.defers → (∀ t, fills ops t = false → sl b t = sl a t) →
      (∀ i o, ops[i]? = some o → used i = none → F i (vals ops b) w1 ∧ vals ops b i = slv b o) → Q .normal b w1) : (Code.region id ops true).wp P Q a w := by
  have hval : ∀ b j oj, ops[j]? = some oj → vals ops b j = slv b oj := fun b j oj hj => by unfold vals; rw [hj]
  refine wp_region_K (fun _ => True) hm (wpK_inv (J := fun l b w1 => l.size = ops.size ∧ R w1 ∧ b.tmps.size = a.tmps.size ∧ b.defers = a.defers ∧
    (∀ j oj, ops[j]? = some oj → l.getD j false = true → ∀ e ∈ oj.after, Region.binds .any e = true → l.getD e.on false = true) ∧
    (∀ t, (∀ j oj, ops[j]? = some oj → oj.dst = some t → l.getD j false = false) → sl b t = sl a t) ∧
    (∀ i o, ops[i]? = some o → l.getD i false = true → (∀ c, used i = some c → l.getD c false = false) → F i (vals ops b) w1) ∧ ∀ c, l.getD c false = false → G c w1) ?_ ?_ _ _ _ _ ?_ ?_)
  · intro l b w1 i ⟨hs, hR1, hsz, hdf, hcl, hold, hfact, hgs⟩ hi
    obtain ⟨hun, o, ho, hall⟩ := mem_ready.1 hi
    obtain ⟨hd, _⟩ := neatZ_spec hn ho
    have hlt : i < l.size := by have := (Array.getElem?_eq_some_iff.1 ho).1; omega
    have hif : l.getD i false = false := by
      rw [Array.getD_eq_getD_getElem?, Array.getElem?_eq_getElem hlt] at hun ⊢
      simpa using hun
    have hnw : ∀ j oj, ops[j]? = some oj → l.getD j false = true → waits oj i = false := by
      intro j oj hj hl
      cases hx : waits oj i with
      | false => rfl
      | true =>
        obtain ⟨e, he, hon, hb⟩ := after_any hx
        have := hcl j oj hj hl e he hb
        rw [hon, hif] at this
        cases this
    have hdeps : ∀ j oj, ops[j]? = some oj → waits o j = true → (used j = none ∨ used j = some i) → F j (vals ops b) w1 := fun j oj hj hx hu => by
      obtain ⟨e, he, hon, hb⟩ := after_any hx
      refine hfact j oj hj (hon ▸ hall e he hb) fun c hc => ?_
      rcases hu with hu | hu
      · rw [hu] at hc; cases hc
      · rw [hu] at hc; cases hc; exact hif
    refine okOp_mono ?_ (hstep i o ho b w1 hR1 (hgs i hif) (fun t ht => hold t fun j oj hj hdj => ?_) fun j oj hj hx hu => ⟨hdeps j oj hj hx hu, hval b j oj hj⟩)
    · rintro b' w2 ⟨v, rfl, hu, hR2, hS, hF⟩
      have hv1 : vals ops (b.put o.dst v) i = v := by
        rw [hval _ i o ho]
        unfold slv
        cases hdst : o.dst with
        | none => exact (hu hdst).symm
        | some d => exact sl_same rfl hsz (hd d hdst).1
      have hv2 : ∀ j, i ≠ j → vals ops (b.put o.dst v) j = vals ops b j := fun j hij => by
        unfold vals
        cases hj : ops[j]? with
        | none => rfl
        | some oj =>
          simp only
          unfold slv
          cases hdj : oj.dst with
          | none => rfl
          | some dj =>
            cases hdst : o.dst with
            | none => rfl
            | some d =>
              have hne : d ≠ dj := by
                intro e
                subst e
                exact hij ((hd d hdst).2 j oj hj hdj)
              exact sl_ne rfl hne rfl
      have hupd : upd (vals ops b) i v = vals ops (b.put o.dst v) := by
        funext j
        unfold upd
        split
        · rename_i e; subst e; exact hv1.symm
        · rename_i e; exact (hv2 j (fun h => e h.symm)).symm
      refine ⟨by simp [hs], hR2, by rw [put_size, hsz], hdf ▸ (by cases o.dst <;> rfl), fun j oj hj hl e he hb => ?_, fun t ht => ?_, fun j oj hj hl hus => ?_, fun c hc => ?_⟩
      · have key : l.getD e.on false = true := by
          rcases Decidable.em (i = j) with rfl | hne
          · rw [ho] at hj; cases hj; exact hall e he hb
          · exact hcl j oj hj (by rwa [getD_set_ne false hne] at hl) e he hb
        rcases Decidable.em (i = e.on) with h1 | h1
        · rw [← h1]; exact getD_set_same hlt
        · rw [getD_set_ne false h1]; exact key
      · have hne : o.dst ≠ some t := by
          intro e
          have := ht i o ho e
          rw [getD_set_same hlt] at this
          cases this
        have hb : sl b t = sl a t := hold t fun j oj hj hdj => by
          have := ht j oj hj hdj
          rcases Decidable.em (i = j) with rfl | hij
          · exact hif
          · rwa [getD_set_ne false hij] at this
        cases hdst : o.dst with
        | none => exact hb
        | some d => exact sl_ne rfl (fun e => hne (by rw [hdst, e])) hb
      · rcases Decidable.em (i = j) with rfl | hij
        · rw [← hupd]
          exact hF
        · have hlj : l.getD j false = true := by rwa [getD_set_ne false hij] at hl
          have hnot := hnw j oj hj hlj
          have huj : used j ≠ some i := by
            intro e
            have := hus i e
            rw [getD_set_same hlt] at this
            cases this
          have hFj : F j (vals ops b) w1 := hfact j oj hj hlj fun c hc => by
            have := hus c hc
            rcases Decidable.em (i = c) with rfl | hic
            · exact hif
            · rwa [getD_set_ne false hic] at this
          have h2 : F j (vals ops b) w2 := hkeep i j o oj _ _ _ hij ho hj hnot huj hR1 (fun c hx hu => by
            obtain ⟨e, he, hon, hb⟩ := after_any hx
            have hlc : l.getD c false = true := hon ▸ hall e he hb
            have hcl2 : c < ops.size := by
              rcases Nat.lt_or_ge c l.size with h | h
              · omega
              · rw [Array.getD_eq_getD_getElem?, Array.getElem?_eq_none h] at hlc; cases hlc
            exact hdeps c ops[c] (Array.getElem?_eq_getElem hcl2) hx hu) hS hFj
          refine hloc j oj _ _ _ hj (hv2 j hij).symm (fun c hc => (hv2 c fun e => ?_).symm) h2
          subst e
          rw [hnot] at hc
          cases hc
      · have hic : i ≠ c := by
          intro e
          subst e
          rw [getD_set_same hlt] at hc
          cases hc
        exact hgive i c _ _ _ hic hR1 hS (hgs c (by rwa [getD_set_ne false hic] at hc))
    · cases hx : l.getD j false with
      | false => rfl
      | true =>
        have h1 := hnw j oj hj hx
        unfold filledBehind at ht
        have h2 := Array.all_eq_true_iff_forall_mem.1 ht oj (Array.mem_of_getElem? hj)
        rw [h1, hdj] at h2
        simp at h2
  · intro l b w1 ⟨hs, hR1, hsz, hdf, hcl, hold, hfact, hgs⟩ hr
    refine hend b w1 hR1 hsz hdf (fun t ht => hold t fun j oj hj hdj => ?_) fun i o hi hu => ⟨hfact i o hi (readyZ_all hn hs hr i (Array.getElem?_eq_some_iff.1 hi).1) (fun c hc => by rw [hu] at hc; cases hc), hval b i o hi⟩
    exfalso
    have : fills ops t = true := by
      unfold fills
      rw [Array.any_eq_true]
      obtain ⟨h1, h2⟩ := Array.getElem?_eq_some_iff.1 hj
      exact ⟨j, h1, by rw [h2]; simp [hdj]⟩
    rw [this] at ht
    cases ht
  · have : left (Array.replicate ops.size false) = ops.size := by simp [left]
    omega
  · have none' : ∀ i, (Array.replicate ops.size false).getD i false = false := fun i => by
      rw [Array.getD_eq_getD_getElem?, Array.getElem?_replicate]
      split <;> rfl
    refine ⟨by simp, hR, rfl, rfl, fun j oj hj hl => ?_, fun _ _ => rfl, fun i o hi hl => ?_, fun c _ => hG c⟩
    · rw [none'] at hl; cases hl
    · rw [none'] at hl; cases hl

end
end Go.Proofs.Ytmkbllkfipcghab
