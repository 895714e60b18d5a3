/- A law for a region that draws its order: the first m operations in whatever order, then the others one after another. -/
import Derived.Test.YtmldpihjndafaabDoorGD
namespace Go.Proofs.YtmldpihjndafaabDoor
open Go.RowKit

section
variable {P : Program} {ops : Array Oper} {md : Region.Mode}

/-- The first m operations in whatever order, then the others one after another. -/
def Region.neatUpto (md : Region.Mode) (ops : Array Oper) (n m : Nat) : Bool :=
  decide (m < ops.size) && ((List.range m).all fun i => match ops[i]? with
    | none => false
    | some o => (match o.dst with
      | none => false
      | some d => decide (d < n) && (List.range m).all fun j => i == j || (ops[j]?).bind (·.dst) != some d) && (o.after.all fun e => !Region.binds md e || decide (e.on < i)) &&
        (List.range (m + 1)).any fun j => decide (i < j) && ((ops[j]?).map fun oj => oj.after.any fun e => Region.binds md e && e.on == i).getD false) &&
  (List.range ops.size).all fun j => decide (j ≤ m) || ((ops[j]?).map fun oj => oj.after.any fun e => Region.binds md e && e.on == m).getD false

structure NeatUpto (md : Region.Mode) (ops : Array Oper) (n m : Nat) : Prop where
  size : m < ops.size
  one : ∀ i o, i < m → ops[i]? = some o → (∃ d, o.dst = some d ∧ d < n ∧ ∀ j oj, j < m → ops[j]? = some oj → oj.dst = some d → i = j) ∧ (∀ e ∈ o.after, Region.binds md e = true → e.on < i) ∧
    ∃ j oj, i < j ∧ j ≤ m ∧ ops[j]? = some oj ∧ ∃ e ∈ oj.after, Region.binds md e = true ∧ e.on = i
  later : ∀ j o, m < j → ops[j]? = some o → ∃ e ∈ o.after, Region.binds md e = true ∧ e.on = m

theorem neatUpto_spec {n m : Nat} (h : Region.neatUpto md ops n m = true) : NeatUpto md ops n m := by
  unfold Region.neatUpto at h
  simp only [Bool.and_eq_true, decide_eq_true_eq] at h
  obtain ⟨⟨hs, h1⟩, h2⟩ := h
  refine ⟨hs, fun i o hi ho => ?_, fun j o hj ho => ?_⟩
  · have h3 := List.all_eq_true.1 h1 i (List.mem_range.2 hi)
    simp only [ho, Bool.and_eq_true] at h3
    obtain ⟨⟨h4, h5⟩, h6⟩ := h3
    refine ⟨?_, fun e he hb => ?_, ?_⟩
    · cases hd : o.dst with
      | none => simp [hd] at h4
      | some d =>
        simp only [hd, Bool.and_eq_true, decide_eq_true_eq] at h4
        refine ⟨d, rfl, h4.1, fun j oj hjm hj he => ?_⟩
        have := List.all_eq_true.1 h4.2 j (List.mem_range.2 hjm)
        simpa [hj, he] using this
    · have := Array.all_eq_true_iff_forall_mem.1 h5 e he
      simpa [hb] using this
    · obtain ⟨j, hj, h7⟩ := List.any_eq_true.1 h6
      simp only [Bool.and_eq_true, decide_eq_true_eq] at h7
      cases hoj : ops[j]? with
      | none => simp [hoj] at h7
      | some oj =>
        simp only [hoj, Option.map_some, Option.getD_some] at h7
        obtain ⟨k, hk, hke⟩ := Array.any_eq_true.1 h7.2
        simp only [Bool.and_eq_true, beq_iff_eq] at hke
        exact ⟨j, oj, h7.1, by have := List.mem_range.1 hj; omega, hoj, _, Array.getElem_mem hk, hke.1, hke.2⟩
  · have h3 := List.all_eq_true.1 h2 j (List.mem_range.2 (Array.getElem?_eq_some_iff.1 ho).1)
    have hno : decide (j ≤ m) = false := decide_eq_false (by omega)
    rw [hno, Bool.false_or, ho] at h3
    obtain ⟨k, hk, hke⟩ := Array.any_eq_true.1 h3
    simp only [Bool.and_eq_true, beq_iff_eq] at hke
    exact ⟨_, Array.getElem_mem hk, hke.1, hke.2⟩

/-- The slots that the first m operations fill. -/
def fillsTo (m : Nat) (ops : Array Oper) (t : Tmp) : Bool := (List.range m).any fun i => (ops[i]?).bind (·.dst) == some t

/-- The law, where the first m operations come in whatever order. -/
theorem wp_region_rely_upto {id : Nat} {Q : Exit → Act → World → Prop} {a : Act} {w : World} (m k : Nat) (R : World → Prop) (S : World → World → Prop) (F : Nat → Value → World → Prop)
    (hm : P.follows .mixedOrders = true) (hn : Region.neatUpto .any ops a.tmps.size m = true) (hmk : ops.size = m + k) (hR : R w.drew)
    (hkeep : ∀ i v w1 w2, S w1 w2 → F i v w1 → F i v w2)
    (hstep : ∀ i o d, i < m → ops[i]? = some o → o.dst = some d → ∀ b w1, R w1 → (∀ t, fillsTo m ops t = false → sl b t = sl a t) →
      (∀ j oj dj, ops[j]? = some oj → oj.dst = some dj → (o.after.any fun e => e.on == j && Region.binds .any e) = true → F j (sl b dj) w1) →
      okOp P ops i (fun b' w2 => ∃ v, b' = b.put (some d) v ∧ R w2 ∧ S w1 w2 ∧ F i v w2) b w1)
    (hend : ∀ b w1, R w1 → b.tmps.size = a.tmps.size → b.defers = a.defers → (∀ t, fillsTo m ops t = false → sl b t = sl a t) →
      (∀ i oi d, i < m → ops[i]? = some oi → oi.dst = some d → F i (sl b d) w1) → wpK P .any ops (fun _ => True) (fun a w => Q .normal a w) k (Array.replicate m true ++ Array.replicate k false) b w1) : (Code.region id ops true).wp P Q a w := by
  have hN := neatUpto_spec hn
  have upto : ∀ l : Array Bool, (∀ j oj, ops[j]? = some oj → (l.getD j false = true ∨ j = m) → ∀ e ∈ oj.after, Region.binds .any e = true → l.getD e.on false = true) → ∀ q i, m - i = q → i < m → l.getD i false = true := by
    intro l hcl q
    induction q using Nat.strongRecOn with
    | _ q ih =>
      intro i hq hi
      obtain ⟨_, _, j, oj, hij, hjm, hoj, e, he, hb, hon⟩ := hN.one i _ hi (Array.getElem?_eq_getElem (by have := hN.size; omega))
      rw [← hon]
      refine hcl j oj hoj ?_ e he hb
      rcases Nat.lt_or_ge j m with h1 | h1
      · exact .inl (ih (m - j) (by omega) j rfl h1)
      · exact .inr (by omega)
  have main : ∀ (fuel : Nat) (l : Array Bool) (b : Act) (w1 : World), left l = fuel → l.size = ops.size → (∀ j oj, ops[j]? = some oj → l.getD j false = true → ∀ e ∈ oj.after, Region.binds .any e = true → l.getD e.on false = true) → (∀ j, m ≤ j → l.getD j false = false) →
      R w1 → b.tmps.size = a.tmps.size → b.defers = a.defers → (∀ t, fillsTo m ops t = false → sl b t = sl a t) → (∀ i o d, i < m → ops[i]? = some o → o.dst = some d → l.getD i false = true → F i (sl b d) w1) → wpK P .any ops (fun _ => True) (fun a w => Q .normal a w) fuel l b w1 := by
    intro fuel
    induction fuel with
    | zero =>
      intro l b w1 hl hs hcl hlate hR1 hsz hdf hold hF
      exfalso
      have h0 : l.getD m true = false := by
        have := hlate m (Nat.le_refl _)
        rw [Array.getD_eq_getD_getElem?, Array.getElem?_eq_getElem (by have := hN.size; omega)] at this ⊢
        simpa using this
      have := left_set h0
      omega
    | succ fuel ih =>
      intro l b w1 hl hs hcl hlate hR1 hsz hdf hold hF
      by_cases hall : ∀ i, i < m → l.getD i false = true
      · have hL : l = Array.replicate m true ++ Array.replicate k false := by
          refine Array.ext (by simp [hs, hmk]) fun i h1 h2 => ?_
          rcases Nat.lt_or_ge i m with him | him
          · have := hall i him
            rw [Array.getD_eq_getD_getElem?, Array.getElem?_eq_getElem h1] at this
            rw [Array.getElem_append_left (by simpa using him)]
            simpa using this
          · have := hlate i him
            rw [Array.getD_eq_getD_getElem?, Array.getElem?_eq_getElem h1] at this
            rw [Array.getElem_append_right (by simpa using him)]
            simpa using this
        have hk : k = fuel + 1 := by
          rw [← hl, hL]
          simp [left, List.count_replicate]
        rw [hL, ← hk]
        exact hend b w1 hR1 hsz hdf hold fun i oi d hi hoi hd => hF i oi d hi hoi hd (hall i hi)
      · have notm : l.getD m false = true → False := fun h => by rw [hlate m (Nat.le_refl _)] at h; cases h
        have small : ∀ i, i ∈ Region.ready .any ops l → i < m := by
          intro i hi
          obtain ⟨hun, o, ho, haf⟩ := mem_ready.1 hi
          refine Decidable.byContradiction fun hge => ?_
          rcases Decidable.em (i = m) with rfl | hne
          · exact hall (fun q hq => upto l (fun j oj hj h e he hb => by
              rcases h with h | rfl
              · exact hcl j oj hj h e he hb
              · rw [ho] at hj; cases hj; exact haf e he hb) _ q rfl hq)
          · obtain ⟨e, he, hb, hon⟩ := hN.later i o (by omega) ho
            exact notm (hon ▸ haf e he hb)
        refine ⟨fun hr => ?_, fun i hi => ?_⟩
        · exfalso
          have all : ∀ i, i < m → l.getD i false = true := by
            intro i
            induction i using Nat.strongRecOn with
            | _ i ihi =>
              intro him
              refine Decidable.byContradiction fun hno => ?_
              have his : i < ops.size := by have := hN.size; omega
              have hi' : ops[i]? = some ops[i] := Array.getElem?_eq_getElem his
              have hw := (hN.one i _ him hi').2.1
              have : i ∈ Region.ready .any ops l := mem_ready.2 ⟨by
                rw [Array.getD_eq_getD_getElem?, Array.getElem?_eq_getElem (by omega)] at hno ⊢
                simpa using hno, _, hi', fun e he hb => ihi _ (hw e he hb) (by have := hw e he hb; omega)⟩
              rw [hr] at this
              cases this
          exact hall all
        · have him := small i hi
          obtain ⟨hun, o, ho, haf⟩ := mem_ready.1 hi
          have hlt : i < l.size := by have := (Array.getElem?_eq_some_iff.1 ho).1; omega
          obtain ⟨⟨d, hd, hdn, huniq⟩, hbef, _⟩ := hN.one i o him ho
          refine okOp_mono ?_ (hstep i o d him ho hd b w1 hR1 hold fun j oj dj hj hdj hx => by
            obtain ⟨e, he, hon, hb⟩ := after_any hx
            exact hF j oj dj (by have := hbef e he hb; omega) hj hdj (hon ▸ haf e he hb))
          rintro b' w2 ⟨v, rfl, hR2, hS, hFv⟩
          refine ⟨trivial, ih _ _ _ (by have := left_set hun; omega) (by simp [hs]) ?_ ?_ hR2 (by rw [put_size, hsz]) hdf ?_ ?_⟩
          · intro j oj hj hl' e he hb
            have key : l.getD e.on false = true := by
              rcases Decidable.em (i = j) with rfl | hne
              · rw [ho] at hj; cases hj; exact haf e he hb
              · exact hcl j oj hj (by rwa [getD_set_ne false hne] at hl') e he hb
            rcases Decidable.em (i = e.on) with h1 | h1
            · rw [← h1]; exact getD_set_same hlt
            · rw [getD_set_ne false h1]; exact key
          · intro j hj
            rw [getD_set_ne false (by omega)]
            exact hlate j hj
          · intro t ht
            have hne : d ≠ t := by
              intro e
              subst e
              have : fillsTo m ops d = true := by
                unfold fillsTo
                exact List.any_eq_true.2 ⟨i, List.mem_range.2 him, by rw [ho]; simp [hd]⟩
              rw [this] at ht
              cases ht
            exact sl_ne rfl hne (hold t ht)
          · intro j oj dj hjm hj hdj hl'
            rcases Decidable.em (d = dj) with rfl | hne
            · have : j = i := (huniq j oj hjm hj hdj).symm
              subst this
              rw [sl_same rfl hsz hdn]
              exact hFv
            · have hji : i ≠ j := by
                intro e
                subst e
                rw [ho] at hj
                cases hj
                rw [hd] at hdj
                exact hne (Option.some.inj hdj)
              rw [sl_ne rfl hne rfl]
              refine hkeep _ _ _ _ hS (hF j oj dj hjm hj hdj ?_)
              rwa [getD_set_ne false hji] at hl'
  have none' : ∀ i, (Array.replicate ops.size false).getD i false = false := fun i => by
    rw [Array.getD_eq_getD_getElem?, Array.getElem?_replicate]
    split <;> rfl
  refine wp_region_K (fun _ => True) hm (main _ _ _ _ (by simp [left]) (by simp) ?_ (fun j _ => none' j) hR rfl rfl (fun _ _ => rfl) ?_)
  · intro j oj hj hl
    rw [none'] at hl
    cases hl
  · intro i o d _ hi hd hl
    rw [none'] at hl
    cases hl

end
end Go.Proofs.YtmldpihjndafaabDoor
