/- The law of a region that draws its order, where what is there hangs on which operations have come up. -/
import Derived.Test.YtcmgpbdciifdmaaRZ
namespace Go.Proofs.Ytcmgpbdciifdmaa
open Go.RowKit

section
variable {P : Program} {ops : Array Oper}

/-- Does this operation wait for that one? -/
def waits (o : Oper) (i : Nat) : Bool := o.after.any fun e => e.on == i && Region.binds .any e
def done (l : Array Bool) (k : Nat) : Bool := l.getD k false

/-- The law: R: what is there, by what has come up; F: what an operation yields. -/
theorem wp_region_done {id : Nat} {Q : Exit → Act → World → Prop} {a : Act} {w : World} (R : (Nat → Bool) → World → Prop) (F : Nat → Value → Prop)
    (hm : P.follows .mixedOrders = true) (hn : Region.neatZ .any ops a.tmps.size = true) (hR : ∀ d : Nat → Bool, (∀ k, d k = false) → R d w.drew)
    (hstep : ∀ i o, ops[i]? = some o → ∀ (d d' : Nat → Bool) b w1, d i = false → d' i = true → (∀ k, k ≠ i → d' k = d k) → (∀ j oj, ops[j]? = some oj → d j = true → ∀ k, waits oj k = true → d k = true) → R d w1 → (∀ t, fills ops t = false → sl b t = sl a t) →
      (∀ j oj, ops[j]? = some oj → waits o j = true → F j (slv b oj)) →
      okOp P ops i (fun b' w2 => ∃ v, b' = b.put o.dst v ∧ (o.dst = none → v = undef) ∧ R d' w2 ∧ True ∧ F i v) b w1)
    (hend : ∀ b w1 (d : Nat → Bool), (∀ i, i < ops.size → d i = true) → R d w1 → b.tmps.size = a.tmps.size → b.defers = a.defers → (∀ t, fills ops t = false → sl b t = sl a t) →
      (∀ i o, ops[i]? = some o → F i (slv b o)) → Q .normal b w1) : (Code.region id ops true).wp P Q a w := by
  refine wp_region_K (fun _ => True) hm (wpK_inv (J := fun l b w1 => l.size = ops.size ∧ R (done l) w1 ∧ b.tmps.size = a.tmps.size ∧ b.defers = a.defers ∧
    (∀ j oj, ops[j]? = some oj → done l j = true → ∀ k, waits oj k = true → done l k = true) ∧ (∀ t, fills ops t = false → sl b t = sl a t) ∧ ∀ i o, ops[i]? = some o → done l i = true → F i (slv b o)) ?_ ?_ _ _ _ _ ?_ ?_)
  · intro l b w1 i ⟨hs, hR1, hsz, hdf, hcl, hold, hfact⟩ hi
    obtain ⟨hun, o, ho, hall⟩ := mem_ready.1 hi
    obtain ⟨hd, _⟩ := neatZ_spec hn ho
    have hlt : i < l.size := by have := (Array.getElem?_eq_some_iff.1 ho).1; omega
    have hif : done l i = false := by
      unfold done
      rw [Array.getD_eq_getD_getElem?, Array.getElem?_eq_getElem hlt] at hun ⊢
      simpa using hun
    have hw : ∀ k, waits o k = true → done l k = true := fun k hx => by
      obtain ⟨e, he, hon, hb⟩ := after_any hx
      exact hon ▸ hall e he hb
    have hd1 : done (l.setIfInBounds i true) i = true := getD_set_same hlt
    have hd2 : ∀ k, k ≠ i → done (l.setIfInBounds i true) k = done l k := fun k hk => getD_set_ne false (Ne.symm hk)
    refine okOp_mono ?_ (hstep i o ho (done l) (done (l.setIfInBounds i true)) b w1 hif hd1 hd2 hcl hR1 hold fun j oj hj hx => hfact j oj hj (hw j hx))
    rintro b' w2 ⟨v, rfl, hu, hR2, _, hF⟩
    refine ⟨by simp [hs], hR2, by rw [put_size, hsz], hdf ▸ (by cases o.dst <;> rfl), fun j oj hj hl k hk => ?_, fun t ht => ?_, fun j oj hj hl => ?_⟩
    · have key : done l k = true := by
        rcases Decidable.em (j = i) with rfl | hne
        · rw [ho] at hj; cases hj; exact hw k hk
        · exact hcl j oj hj (by rwa [hd2 j hne] at hl) k hk
      rcases Decidable.em (k = i) with h1 | h1
      · rw [h1]; exact hd1
      · rw [hd2 k h1]; exact key
    · cases hdst : o.dst with
      | none => exact hold t ht
      | some d =>
        have hne : d ≠ t := by
          intro e
          subst e
          have : fills ops d = true := by
            unfold fills
            rw [Array.any_eq_true]
            obtain ⟨h1, h2⟩ := Array.getElem?_eq_some_iff.1 ho
            exact ⟨i, h1, by rw [h2]; simp [hdst]⟩
          rw [this] at ht
          cases ht
        exact sl_ne rfl hne (hold t ht)
    · rcases Decidable.em (j = i) with rfl | hij
      · rw [ho] at hj
        cases hj
        have : slv (b.put o.dst v) o = v := by
          unfold slv
          cases hdst : o.dst with
          | none => exact (hu hdst).symm
          | some d => exact sl_same rfl hsz (hd d hdst).1
        rw [this]
        exact hF
      · have : slv (b.put o.dst v) oj = slv b oj := by
          unfold slv
          cases hdj : oj.dst with
          | none => rfl
          | some dj =>
            cases hdst : o.dst with
            | none => rfl
            | some d =>
              have hne : d ≠ dj := by
                intro e
                subst e
                exact hij ((hd d hdst).2 j oj hj hdj).symm
              exact sl_ne rfl hne rfl
        rw [this]
        exact hfact j oj hj (by rwa [hd2 j hij] at hl)
  · intro l b w1 ⟨hs, hR1, hsz, hdf, hcl, hold, hfact⟩ hr
    have hall := fun i hi => readyZ_all hn hs hr i hi
    exact hend b w1 (done l) hall hR1 hsz hdf hold fun i o hi => hfact i o hi (hall i (Array.getElem?_eq_some_iff.1 hi).1)
  · have : left (Array.replicate ops.size false) = ops.size := by simp [left]
    omega
  · have none' : ∀ i, done (Array.replicate ops.size false) i = false := fun i => by
      unfold done
      rw [Array.getD_eq_getD_getElem?, Array.getElem?_replicate]
      split <;> rfl
    refine ⟨by simp, hR _ none', rfl, rfl, fun j oj hj hl => ?_, fun _ _ => rfl, fun i o hi hl => ?_⟩
    · rw [none'] at hl; cases hl
    · rw [none'] at hl; cases hl

theorem okD_val {i : Nat} {o : Oper} {d : Tmp} {b : Act} {v : Value} {w1 w2 : World} {R : World → Prop} {F : Nat → Value → Prop} (ho : ops[i]? = some o) (hd : o.dst = some d) (hw : Region.wanted o (yielded ops b.tmps) = true)
    (hrun : (execOp b.eval o).run P w1 = .ok (.value v) w2) (hR : R w2) (hF : F i v) : okOp P ops i (fun b' w2 => ∃ v, b' = b.put o.dst v ∧ (o.dst = none → v = undef) ∧ R w2 ∧ True ∧ F i v) b w1 := by
  unfold okOp
  simp only [ho, hw, if_true, okAt]
  rw [hrun]
  exact ⟨v, rfl, fun h => (by rw [hd] at h; cases h), hR, trivial, hF⟩
theorem okD_store {i : Nat} {o : Oper} {b : Act} {w1 w2 : World} {R : World → Prop} {F : Nat → Value → Prop} (ho : ops[i]? = some o) (hd : o.dst = none) (hw : Region.wanted o (yielded ops b.tmps) = true)
    (hrun : (execOp b.eval o).run P w1 = .ok .skip w2) (hR : R w2) (hF : F i undef) : okOp P ops i (fun b' w2 => ∃ v, b' = b.put o.dst v ∧ (o.dst = none → v = undef) ∧ R w2 ∧ True ∧ F i v) b w1 := by
  unfold okOp
  simp only [ho, hw, if_true, okAt]
  rw [hrun]
  exact ⟨undef, by rw [hd], fun _ => rfl, hR, trivial, hF⟩

end
end Go.Proofs.Ytcmgpbdciifdmaa
