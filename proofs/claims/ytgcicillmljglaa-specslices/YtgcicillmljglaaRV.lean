/- A law for a region that draws its order: a fact an operation, which the others keep until the one that uses it up has come. -/
import Derived.Test.YtgcicillmljglaaRL
namespace Go.Proofs.Ytgcicillmljglaa
open Go.RowKit

section
variable {P : Program} {ops : Array Oper} {md : Region.Mode}

/-- The slots that the first m operations fill. -/
def fillsUp (m : Nat) (ops : Array Oper) (t : Tmp) : Bool := (List.range m).any fun i => (ops[i]?).bind (·.dst) == some t

/-- Neat, and the last one waits for all the others. -/
def Region.neatAll (md : Region.Mode) (ops : Array Oper) (n m : Nat) : Bool :=
  Region.neat md ops n && decide (ops.size = m + 1) && match ops[m]? with
    | none => false
    | some o => (List.range m).all fun i => o.after.any fun e => e.on == i && Region.binds md e

theorem wp_region_used {id : Nat} {Q : Exit → Act → World → Prop} {a : Act} {w : World} (m : Nat) (used : Nat → Option Nat) (R : World → Prop) (S : Nat → World → World → Prop) (F : Nat → Value → World → Prop)
    (hm : P.follows .mixedOrders = true) (hn : Region.neatAll .any ops a.tmps.size m = true) (hR : R w.drew)
    (hkeep : ∀ i j o oj v w1 w2, i ≠ j → ops[i]? = some o → ops[j]? = some oj → S i w1 w2 → used j ≠ some i → (∀ c, used j = some c → (o.after.any fun e => e.on == c && Region.binds .any e) = false) → (oj.after.any fun e => e.on == i && Region.binds .any e) = false → F j v w1 → F j v w2)
    (hstep : ∀ i o d, ops[i]? = some o → o.dst = some d → ∀ b w1, R w1 → (∀ t, fillsUp m ops t = false → sl b t = sl a t) →
      (∀ j oj dj, ops[j]? = some oj → oj.dst = some dj → (o.after.any fun e => e.on == j && Region.binds .any e) = true → (used j = none ∨ used j = some i) → F j (sl b dj) w1) →
      okOp P ops i (fun b' w2 => ∃ v, b' = b.put (some d) v ∧ R w2 ∧ S i w1 w2 ∧ F i v w2) b w1)
    (hend : ∀ b w1, R w1 → b.tmps.size = a.tmps.size → b.defers = a.defers → (∀ t, fills ops t = false → sl b t = sl a t) →
      (∀ i o d, ops[i]? = some o → o.dst = some d → used i = none → F i (sl b d) w1) → Q .normal b w1) : (Code.region id ops true).wp P Q a w := by
  unfold Region.neatAll at hn
  simp only [Bool.and_eq_true, decide_eq_true_eq] at hn
  obtain ⟨⟨hneat, hsize⟩, hlast⟩ := hn
  refine wp_region_K (fun _ => True) hm (wpK_inv (J := fun l b w1 => l.size = ops.size ∧ R w1 ∧ b.tmps.size = a.tmps.size ∧ b.defers = a.defers ∧
    (∀ j oj, ops[j]? = some oj → l.getD j false = true → ∀ e ∈ oj.after, Region.binds .any e = true → l.getD e.on false = true) ∧
    (∀ t, fills ops t = false → sl b t = sl a t) ∧ (l.getD m false = false → ∀ t, fillsUp m ops t = false → sl b t = sl a t) ∧
    (∀ i o d, ops[i]? = some o → o.dst = some d → l.getD i false = true → (∀ c, used i = some c → l.getD c false = false) → F i (sl b d) w1)) ?_ ?_ _ _ _ _ ?_ ?_)
  · rintro l b w1 i ⟨hs, hR1, hsz, hdf, hcl, hold, holdm, hF⟩ hi
    obtain ⟨hun, o, ho, hall⟩ := mem_ready.1 hi
    obtain ⟨d, hd, hdn, huniq, hbef⟩ := neat_spec hneat ho
    have hlt : i < l.size := by have := (Array.getElem?_eq_some_iff.1 ho).1; omega
    have hif : l.getD i false = false := by
      rw [Array.getD_eq_getD_getElem?, Array.getElem?_eq_getElem hlt] at hun ⊢
      simpa using hun
    have hmf : l.getD m false = false := by
      rcases hmd : l.getD m false with _ | _
      · rfl
      · exfalso
        have hmo : ops[m]? = some ops[m] := Array.getElem?_eq_getElem (by omega)
        rw [hmo] at hlast
        have him : i < m := by
          have h1 := (Array.getElem?_eq_some_iff.1 ho).1
          rcases Decidable.em (i = m) with rfl | h2
          · rw [hmd] at hif; cases hif
          · omega
        obtain ⟨e, he, hon, hb⟩ := after_any (List.all_eq_true.1 hlast i (List.mem_range.2 him))
        have := hcl m _ hmo hmd e he hb
        rw [hon] at this
        rw [this] at hif
        cases hif
    refine okOp_mono ?_ (hstep i o d ho hd b w1 hR1 (holdm hmf) fun j oj dj hj hdj hx hu => by
      obtain ⟨e, he, hon, hb⟩ := after_any hx
      refine hF j oj dj hj hdj (hon ▸ hall e he hb) fun c hc => ?_
      rcases hu with hu | hu
      · rw [hu] at hc; cases hc
      · rw [hu] at hc; cases hc; exact hif)
    rintro b' w2 ⟨v, rfl, hR2, hS, hFv⟩
    refine ⟨by simp [hs], hR2, by rw [put_size, hsz], hdf, ?_, ?_, ?_, ?_⟩
    · intro j oj hj hl e he hb
      have key : l.getD e.on false = true := by
        rcases Decidable.em (i = j) with rfl | hne
        · rw [ho] at hj; cases hj; exact hall e he hb
        · exact hcl j oj hj (by rwa [getD_set_ne false hne] at hl) e he hb
      rcases Decidable.em (i = e.on) with h1 | h1
      · rw [← h1]; exact getD_set_same hlt
      · rw [getD_set_ne false h1]; exact key
    · intro t ht
      have hne : d ≠ t := by
        intro e
        subst e
        have : fills ops d = true := by
          unfold fills
          rw [Array.any_eq_true]
          obtain ⟨h1, h2⟩ := Array.getElem?_eq_some_iff.1 ho
          exact ⟨i, h1, by rw [h2]; simp [hd]⟩
        rw [this] at ht
        cases ht
      exact sl_ne rfl hne (hold t ht)
    · intro hm2 t ht
      have him : i < m := by
        have h1 := (Array.getElem?_eq_some_iff.1 ho).1
        rcases Decidable.em (i = m) with rfl | h2
        · rw [getD_set_same hlt] at hm2; cases hm2
        · omega
      have hne : d ≠ t := by
        intro e
        subst e
        have : fillsUp m ops d = true := by
          unfold fillsUp
          exact List.any_eq_true.2 ⟨i, List.mem_range.2 him, by rw [ho]; simp [hd]⟩
        rw [this] at ht
        cases ht
      exact sl_ne rfl hne (holdm hmf t ht)
    · intro j oj dj hj hdj hl hc
      rcases Decidable.em (d = dj) with rfl | hne
      · have : j = i := (huniq j oj hj hdj).symm
        subst this
        rw [sl_same rfl hsz hdn]
        exact hFv
      · have hji : i ≠ j := by
          intro e
          subst e
          rw [ho] at hj
          cases hj
          rw [hd] at hdj
          exact hne (Option.some.inj hdj)
        rw [sl_ne rfl hne rfl]
        have hui : used j ≠ some i := fun e => by
          have := hc i e
          rw [getD_set_same hlt] at this
          cases this
        have hcn : ∀ c, used j = some c → l.getD c false = false := fun c he => by
          have h1 := hc c he
          rwa [getD_set_ne false (show i ≠ c from fun e => hui (by rw [e]; exact he))] at h1
        refine hkeep i j o oj _ _ _ hji ho hj hS hui (fun c he => Bool.eq_false_iff.2 fun hx => ?_) (Bool.eq_false_iff.2 fun hx => ?_) (hF j oj dj hj hdj (by rwa [getD_set_ne false hji] at hl) hcn)
        · obtain ⟨e, he', hon, hb⟩ := after_any hx
          have h2 := hall e he' hb
          rw [hon, hcn c he] at h2
          cases h2
        · obtain ⟨e, he', hon, hb⟩ := after_any hx
          have h2 := hcl j oj hj (by rwa [getD_set_ne false hji] at hl) e he' hb
          rw [hon, hif] at h2
          cases h2
  · rintro l b w1 ⟨hs, hR1, hsz, hdf, hcl, hold, holdm, hF⟩ hr
    exact hend b w1 hR1 hsz hdf hold fun i o d hi hd hu => hF i o d hi hd (ready_all hneat hs hr i (Array.getElem?_eq_some_iff.1 hi).1) fun c hc => by rw [hu] at hc; cases hc
  · have : left (Array.replicate ops.size false) = ops.size := by simp [left]
    omega
  · have none' : ∀ i, (Array.replicate ops.size false).getD i false = false := fun i => by
      rw [Array.getD_eq_getD_getElem?, Array.getElem?_replicate]
      split <;> rfl
    refine ⟨by simp, hR, rfl, rfl, fun j oj hj hl => ?_, fun _ _ => rfl, fun _ _ _ => rfl, fun i o d hi hd hl => ?_⟩
    · rw [none'] at hl; cases hl
    · rw [none'] at hl; cases hl

theorem ok_valS {i : Nat} {o : Oper} {d : Tmp} {b : Act} {v : Value} {w1 w2 : World} {R : World → Prop} {S : Nat → World → World → Prop} {F : Nat → Value → World → Prop} (ho : ops[i]? = some o) (hd : o.dst = some d) (hw : Region.wanted o (yielded ops b.tmps) = true)
    (hrun : (execOp b.eval o).run P w1 = .ok (.value v) w2) (hR : R w2) (hS : S i w1 w2) (hF : F i v w2) : okOp P ops i (fun b' w2 => ∃ v, b' = b.put (some d) v ∧ R w2 ∧ S i w1 w2 ∧ F i v w2) b w1 := by
  unfold okOp
  simp only [ho, hw, if_true, okAt]
  rw [hrun, hd]
  exact ⟨v, rfl, hR, hS, hF⟩
theorem ok_atS {i : Nat} {o : Oper} {d : Tmp} {b : Act} {w1 : World} {R : World → Prop} {S : Nat → World → World → Prop} {F : Nat → Value → World → Prop} (ho : ops[i]? = some o) (hd : o.dst = some d) (hw : Region.wanted o (yielded ops b.tmps) = true)
    (h : okAt P o b w1 (fun v w2 => R w2 ∧ S i w1 w2 ∧ F i v w2)) : okOp P ops i (fun b' w2 => ∃ v, b' = b.put (some d) v ∧ R w2 ∧ S i w1 w2 ∧ F i v w2) b w1 := by
  unfold okOp
  simp only [ho, hw, if_true, hd]
  exact okUpon_mono (fun v w2 h => ⟨v, rfl, h⟩) h

end
end Go.Proofs.Ytgcicillmljglaa
