/- Single operations over a frame that is a variable: what they yield. -/
import Derived.Test.YtlehlbgaboifoabGreatDoorMg10
import Derived.Test.YtlehlbgaboifoabGreatDoorMg02
namespace Go.Proofs.YtlehlbgaboifoabGreatDoor
open Go.RowKit

/-- What a slot holds. -/
abbrev sl (A : Act) (t : Tmp) : Value := A.tmps[t]?.getD undef

theorem put_size (a : Act) (d : Option Tmp) (v : Value) : (a.put d v).tmps.size = a.tmps.size := by
  cases d <;> simp [Act.put]
theorem sl_same {a A : Act} {d : Tmp} {v : Value} (h : A = a.put (some d) v) {n : Nat} (hs : a.tmps.size = n) (hd : d < n) : sl A d = v := by
  subst h hs
  simp [sl, Act.put, hd]
theorem sl_ne {a A : Act} {d k : Tmp} {v u : Value} (h : A = a.put (some d) v) (hd : d ≠ k) (hk : sl a k = u) : sl A k = u := by
  subst h hk
  simp [sl, Act.put, hd]
theorem size_of {a A : Act} {d : Option Tmp} {v : Value} (h : A = a.put d v) {n : Nat} (hs : a.tmps.size = n) : A.tmps.size = n := by
  subst h hs
  exact put_size _ _ _
theorem want {ops : Array Oper} {A : Act} {o : Oper} (j : Nat) (d : Tmp) {b : Bool} (ho : o.guard = some (j, b)) (hj : (ops[j]?).bind (·.dst) = some d) (h : sl A d = .bool b) : Region.wanted o (yielded ops A.tmps) = true := by
  have e : A.tmps[d]? = some (.bool b) := by
    unfold sl at h
    cases hx : A.tmps[d]? with
    | none => rw [hx] at h; cases h
    | some x => rw [hx] at h; simpa using h
  unfold Region.wanted yielded
  rw [ho]
  simp only [hj]
  simp [e]
theorem unwant {ops : Array Oper} {A : Act} {o : Oper} (j : Nat) (d : Tmp) {b : Bool} {v : Value} (ho : o.guard = some (j, b)) (hj : (ops[j]?).bind (·.dst) = some d) (h : sl A d = v) (hv : v ≠ .bool b) : Region.wanted o (yielded ops A.tmps) = false := by
  unfold Region.wanted yielded
  rw [ho]
  simp only [hj, Option.bind_some]
  unfold sl at h
  cases hx : A.tmps[d]? with
  | none => rfl
  | some x =>
    rw [hx] at h
    have h' : x = v := h
    subst h'
    cases x <;> simp
    next p => intro e; subst e; exact hv rfl
theorem Same.skips {P : Program} {ops : Array Oper} {C : World → Prop} {o : Oper} {a : Act} (hw : Region.wanted o (yielded ops a.tmps) = false) : Same P ops C o undef a := by
  rw [Same, if_neg (by rw [hw]; decide)]

end Go.Proofs.YtlehlbgaboifoabGreatDoor

/- A law for a region that draws its order: a fact an operation, which all the others keep. -/
namespace Go.Proofs.YtlehlbgaboifoabGreatDoor
open Go.RowKit

section
variable {P : Program} {ops : Array Oper} {md : Region.Mode}

/-- How many have not come up. -/
def left (l : Array Bool) : Nat := l.toList.count false

theorem left_set {l : Array Bool} {i : Nat} (h : l.getD i true = false) : left (l.setIfInBounds i true) + 1 = left l := by
  have hi : i < l.size := by
    rcases Nat.lt_or_ge i l.size with h1 | h1
    · exact h1
    · rw [Array.getD_eq_getD_getElem?, Array.getElem?_eq_none h1] at h; cases h
  have hv : l.toList[i]'(by simpa using hi) = false := by
    rw [Array.getD_eq_getD_getElem?, Array.getElem?_eq_getElem hi] at h
    simpa using h
  have hpos : 0 < l.toList.count false := List.count_pos_iff.2 (hv ▸ List.getElem_mem _)
  unfold left
  rw [Array.toList_setIfInBounds, List.count_set (by simpa using hi), if_pos (by rw [hv]; rfl), if_neg (by decide)]
  omega

theorem ready_nil {l : Array Bool} (h : left l = 0) : Region.ready md ops l = [] := by
  refine List.eq_nil_iff_forall_not_mem.2 fun i hi => ?_
  have := left_set (mem_ready.1 hi).1
  omega

/-- What is kept from operation to operation, whatever order is drawn. -/
theorem wpK_inv {Q : Act → World → Prop} {J : Array Bool → Act → World → Prop}
    (hstep : ∀ l a w i, J l a w → i ∈ Region.ready md ops l → okOp P ops i (fun a' w' => J (l.setIfInBounds i true) a' w') a w)
    (hend : ∀ l a w, J l a w → Region.ready md ops l = [] → Q a w) : ∀ (fuel : Nat) (l : Array Bool) (a : Act) (w : World), left l ≤ fuel → J l a w → wpK P md ops (fun _ => True) Q fuel l a w
  | 0, l, a, w, hl, hJ => ⟨ready_nil (by omega), hend l a w hJ (ready_nil (by omega))⟩
  | fuel + 1, l, a, w, hl, hJ => ⟨fun h => hend l a w hJ h, fun i hi => okOp_mono (fun a' w' hk => ⟨trivial, wpK_inv hstep hend fuel _ a' w' (by have := left_set (mem_ready.1 hi).1; omega) hk⟩) (hstep l a w i hJ hi)⟩

/-- The slots that the region fills. -/
def fills (ops : Array Oper) (t : Tmp) : Bool := ops.any fun o => o.dst == some t

/-- The facts: what was there is there; of each operation that has come up what is said of it. -/
structure Facts (ops : Array Oper) (a0 : Act) (R : World → Prop) (F : Nat → Value → World → Prop) (l : Array Bool) (a : Act) (w : World) : Prop where
  world : R w
  size : a.tmps.size = a0.tmps.size
  defers : a.defers = a0.defers
  old : ∀ t, fills ops t = false → sl a t = sl a0 t
  fact : ∀ i o d, ops[i]? = some o → o.dst = some d → l.getD i false = true → F i (sl a d) w

/-- The operations fill different slots, each within the frame; each waits but for ones ahead of it. -/
def Region.neat (md : Region.Mode) (ops : Array Oper) (n : Nat) : Bool :=
  (List.range ops.size).all fun i => match ops[i]? with
    | none => false
    | some o => (match o.dst with
      | none => false
      | some d => decide (d < n) && (List.range ops.size).all fun j => i == j || (ops[j]?).bind (·.dst) != some d) && o.after.all fun e => !Region.binds md e || decide (e.on < i)

theorem neat_spec {n : Nat} (h : Region.neat md ops n = true) {i : Nat} {o : Oper} (hi : ops[i]? = some o) :
    ∃ d, o.dst = some d ∧ d < n ∧ (∀ j oj, ops[j]? = some oj → oj.dst = some d → i = j) ∧ ∀ e ∈ o.after, Region.binds md e = true → e.on < i := by
  have hlt : i < ops.size := (Array.getElem?_eq_some_iff.1 hi).1
  unfold Region.neat at h
  have h1 := List.all_eq_true.1 h i (List.mem_range.2 hlt)
  simp only [hi] at h1
  cases hd : o.dst with
  | none => simp [hd] at h1
  | some d =>
    simp only [hd, Bool.and_eq_true, decide_eq_true_eq] at h1
    refine ⟨d, rfl, h1.1.1, fun j oj hj he => ?_, fun e he hb => ?_⟩
    · have := List.all_eq_true.1 h1.1.2 j (List.mem_range.2 (Array.getElem?_eq_some_iff.1 hj).1)
      simpa [hj, he] using this
    · have := Array.all_eq_true_iff_forall_mem.1 h1.2 e he
      simpa [hb] using this

theorem ready_all {n : Nat} (h : Region.neat md ops n = true) {l : Array Bool} (hs : l.size = ops.size) (hr : Region.ready md ops l = []) : ∀ i, i < ops.size → l.getD i false = true := by
  intro i
  induction i using Nat.strongRecOn with
  | _ i ih =>
    intro hi
    refine Decidable.byContradiction fun hn => ?_
    have hi' : ops[i]? = some ops[i] := Array.getElem?_eq_getElem hi
    obtain ⟨d, _, _, _, hw⟩ := neat_spec h hi'
    have : i ∈ Region.ready md ops l := mem_ready.2 ⟨by
      rw [Array.getD_eq_getD_getElem?, Array.getElem?_eq_getElem (by omega)] at *
      simpa using hn, _, hi', fun e he hb => ih _ (hw e he hb) (by have := hw e he hb; omega)⟩
    rw [hr] at this
    cases this

theorem getD_set_same {l : Array Bool} {i : Nat} (h : i < l.size) : (l.setIfInBounds i true).getD i false = true := by
  rw [Array.getD_eq_getD_getElem?]
  simp [h]

theorem after_any {o : Oper} {j : Nat} (h : (o.after.any fun e => e.on == j && Region.binds md e) = true) : ∃ e ∈ o.after, e.on = j ∧ Region.binds md e = true := by
  obtain ⟨k, hk, hke⟩ := Array.any_eq_true.1 h
  simp only [Bool.and_eq_true, beq_iff_eq] at hke
  exact ⟨_, Array.getElem_mem hk, hke.1, hke.2⟩

/-- The law. -/
theorem wp_region_rely {id : Nat} {Q : Exit → Act → World → Prop} {a : Act} {w : World} (R : World → Prop) (S : World → World → Prop) (F : Nat → Value → World → Prop)
    (hm : P.follows .mixedOrders = true) (hn : Region.neat .any ops a.tmps.size = true) (hR : R w.drew)
    (hkeep : ∀ i v w1 w2, S w1 w2 → F i v w1 → F i v w2)
    (hstep : ∀ i o d, ops[i]? = some o → o.dst = some d → ∀ b w1, R w1 → (∀ t, fills ops t = false → sl b t = sl a t) →
      (∀ j oj dj, ops[j]? = some oj → oj.dst = some dj → (o.after.any fun e => e.on == j && Region.binds .any e) = true → F j (sl b dj) w1) →
      okOp P ops i (fun b' w2 => ∃ v, b' = b.put (some d) v ∧ R w2 ∧ S w1 w2 ∧ F i v w2) b w1)
    (hend : ∀ b w1, R w1 → b.tmps.size = a.tmps.size → b.defers = a.defers → (∀ t, fills ops t = false → sl b t = sl a t) →
      (∀ i o d, ops[i]? = some o → o.dst = some d → F i (sl b d) w1) → Q .normal b w1) : (Code.region id ops true).wp P Q a w := by
  refine wp_region_K (fun _ => True) hm (wpK_inv (J := fun l b w1 => l.size = ops.size ∧ Facts ops a R F l b w1) ?_ ?_ _ _ _ _ ?_ ?_)
  · intro l b w1 i ⟨hs, hJ⟩ hi
    obtain ⟨hun, o, ho, hall⟩ := mem_ready.1 hi
    obtain ⟨d, hd, hdn, huniq, _⟩ := neat_spec hn ho
    have hlt : i < l.size := by have := (Array.getElem?_eq_some_iff.1 ho).1; omega
    refine okOp_mono ?_ (hstep i o d ho hd b w1 hJ.world hJ.old fun j oj dj hj hdj hx => by
      obtain ⟨e, he, hon, hb⟩ := after_any hx
      exact hJ.fact j oj dj hj hdj (hon ▸ hall e he hb))
    rintro b' w2 ⟨v, rfl, hR2, hS, hF⟩
    refine ⟨by simp [hs], ⟨hR2, by rw [put_size, hJ.size], hJ.defers, fun t ht => ?_, fun j oj dj hj hdj hl => ?_⟩⟩
    · have hne : d ≠ t := by
        intro e
        subst e
        have : fills ops d = true := by
          unfold fills
          rw [Array.any_eq_true]
          obtain ⟨h1, h2⟩ := Array.getElem?_eq_some_iff.1 ho
          exact ⟨i, h1, by rw [h2]; simp [hd]⟩
        rw [this] at ht
        cases ht
      exact sl_ne rfl hne (hJ.old t ht)
    · rcases Decidable.em (d = dj) with rfl | hne
      · have : j = i := huniq j oj hj hdj |>.symm
        subst this
        rw [sl_same rfl hJ.size hdn]
        exact hF
      · have hji : i ≠ j := by
          intro e
          subst e
          rw [ho] at hj
          cases hj
          rw [hd] at hdj
          exact hne (Option.some.inj hdj)
        rw [sl_ne rfl hne rfl]
        refine hkeep _ _ _ _ hS (hJ.fact j oj dj hj hdj ?_)
        rwa [getD_set_ne false hji] at hl
  · intro l b w1 ⟨hs, hJ⟩ hr
    exact hend b w1 hJ.world hJ.size hJ.defers hJ.old fun i o d hi hd => hJ.fact i o d hi hd (ready_all hn hs hr i (Array.getElem?_eq_some_iff.1 hi).1)
  · have : left (Array.replicate ops.size false) = ops.size := by simp [left]
    omega
  · refine ⟨by simp, ⟨hR, rfl, rfl, fun _ _ => rfl, fun i o d hi hd hl => ?_⟩⟩
    exfalso
    rw [Array.getD_eq_getD_getElem?] at hl
    have := (Array.getElem?_eq_some_iff.1 hi).1
    simp [this] at hl

/-- As neat, but for the last operation, a store, which fills no slot; each of the others is waited for by a later one. -/
def Region.neatLast (md : Region.Mode) (ops : Array Oper) (n m : Nat) : Bool :=
  decide (ops.size = m + 1) && ((List.range m).all fun i => match ops[i]? with
    | none => false
    | some o => (match o.dst with
      | none => false
      | some d => decide (d < n) && (List.range m).all fun j => i == j || (ops[j]?).bind (·.dst) != some d) && (o.after.all fun e => !Region.binds md e || decide (e.on < i)) &&
        (List.range ops.size).any fun j => decide (i < j) && ((ops[j]?).map fun oj => oj.after.any fun e => Region.binds md e && e.on == i).getD false) &&
  match ops[m]? with
    | none => false
    | some o => o.dst == none && o.after.all fun e => !Region.binds md e || decide (e.on < m)

structure NeatLast (md : Region.Mode) (ops : Array Oper) (n m : Nat) : Prop where
  size : ops.size = m + 1
  one : ∀ i o, i < m → ops[i]? = some o → (∃ d, o.dst = some d ∧ d < n ∧ ∀ j oj, j < m → ops[j]? = some oj → oj.dst = some d → i = j) ∧ (∀ e ∈ o.after, Region.binds md e = true → e.on < i) ∧
    ∃ j oj, i < j ∧ ops[j]? = some oj ∧ ∃ e ∈ oj.after, Region.binds md e = true ∧ e.on = i
  last : ∃ o, ops[m]? = some o ∧ o.dst = none ∧ ∀ e ∈ o.after, Region.binds md e = true → e.on < m

theorem neatLast_spec {n m : Nat} (h : Region.neatLast md ops n m = true) : NeatLast md ops n m := by
  unfold Region.neatLast at h
  simp only [Bool.and_eq_true, decide_eq_true_eq] at h
  obtain ⟨⟨hs, h1⟩, h2⟩ := h
  refine ⟨hs, fun i o hi ho => ?_, ?_⟩
  · have h3 := List.all_eq_true.1 h1 i (List.mem_range.2 hi)
    simp only [ho, Bool.and_eq_true] at h3
    obtain ⟨⟨h4, h5⟩, h6⟩ := h3
    refine ⟨?_, fun e he hb => ?_, ?_⟩
    · cases hd : o.dst with
      | none => simp [hd] at h4
      | some d =>
        simp only [hd, Bool.and_eq_true, decide_eq_true_eq] at h4
        refine ⟨d, rfl, h4.1, fun j oj hjm hj he => ?_⟩
        have := List.all_eq_true.1 h4.2 j (List.mem_range.2 hjm)
        simpa [hj, he] using this
    · have := Array.all_eq_true_iff_forall_mem.1 h5 e he
      simpa [hb] using this
    · obtain ⟨j, hj, h7⟩ := List.any_eq_true.1 h6
      simp only [Bool.and_eq_true, decide_eq_true_eq] at h7
      cases hoj : ops[j]? with
      | none => simp [hoj] at h7
      | some oj =>
        simp only [hoj, Option.map_some, Option.getD_some] at h7
        obtain ⟨k, hk, hke⟩ := Array.any_eq_true.1 h7.2
        simp only [Bool.and_eq_true, beq_iff_eq] at hke
        exact ⟨j, oj, h7.1, hoj, _, Array.getElem_mem hk, hke.1, hke.2⟩
  · cases ho : ops[m]? with
    | none => simp [ho] at h2
    | some o =>
      simp only [ho, Bool.and_eq_true, beq_iff_eq] at h2
      refine ⟨o, rfl, h2.1, fun e he hb => ?_⟩
      have := Array.all_eq_true_iff_forall_mem.1 h2.2 e he
      simpa [hb] using this

/-- The law, where the last operation is a store. -/
theorem wp_region_rely_last {id : Nat} {Q : Exit → Act → World → Prop} {a : Act} {w : World} (m : Nat) (R : World → Prop) (S : World → World → Prop) (F : Nat → Value → World → Prop)
    (hm : P.follows .mixedOrders = true) (hn : Region.neatLast .any ops a.tmps.size m = true) (hR : R w.drew)
    (hkeep : ∀ i v w1 w2, S w1 w2 → F i v w1 → F i v w2)
    (hstep : ∀ i o d, i < m → ops[i]? = some o → o.dst = some d → ∀ b w1, R w1 → (∀ t, fills ops t = false → sl b t = sl a t) →
      (∀ j oj dj, ops[j]? = some oj → oj.dst = some dj → (o.after.any fun e => e.on == j && Region.binds .any e) = true → F j (sl b dj) w1) →
      okOp P ops i (fun b' w2 => ∃ v, b' = b.put (some d) v ∧ R w2 ∧ S w1 w2 ∧ F i v w2) b w1)
    (hend : ∀ o b w1, ops[m]? = some o → R w1 → b.tmps.size = a.tmps.size → b.defers = a.defers → (∀ t, fills ops t = false → sl b t = sl a t) →
      (∀ i oi d, i < m → ops[i]? = some oi → oi.dst = some d → F i (sl b d) w1) → okOp P ops m (fun b' w2 => Q .normal b' w2) b w1) : (Code.region id ops true).wp P Q a w := by
  have hN := neatLast_spec hn
  obtain ⟨om, hom, hdm, haft⟩ := hN.last
  have upto : ∀ l : Array Bool, (∀ j oj, ops[j]? = some oj → (l.getD j false = true ∨ j = m) → ∀ e ∈ oj.after, Region.binds .any e = true → l.getD e.on false = true) → ∀ k i, m - i = k → i < m → l.getD i false = true := by
    intro l hcl k
    induction k using Nat.strongRecOn with
    | _ k ih =>
      intro i hk hi
      obtain ⟨_, _, j, oj, hij, hoj, e, he, hb, hon⟩ := hN.one i _ hi (Array.getElem?_eq_getElem (by have := hN.size; omega))
      have hjs : j < ops.size := (Array.getElem?_eq_some_iff.1 hoj).1
      have hjm : j ≤ m := by have := hN.size; omega
      rw [← hon]
      refine hcl j oj hoj ?_ e he hb
      rcases Nat.lt_or_ge j m with h1 | h1
      · exact .inl (ih (m - j) (by omega) j rfl h1)
      · exact .inr (by omega)
  refine wp_region_K (fun _ => True) hm (wpK_inv (J := fun l b w1 => l.size = ops.size ∧ (∀ j oj, ops[j]? = some oj → l.getD j false = true → ∀ e ∈ oj.after, Region.binds .any e = true → l.getD e.on false = true) ∧
    ((l.getD m false = false ∧ R w1 ∧ b.tmps.size = a.tmps.size ∧ b.defers = a.defers ∧ (∀ t, fills ops t = false → sl b t = sl a t) ∧ ∀ i o d, i < m → ops[i]? = some o → o.dst = some d → l.getD i false = true → F i (sl b d) w1) ∨ (l.getD m false = true ∧ Q .normal b w1))) ?_ ?_ _ _ _ _ ?_ ?_)
  · rintro l b w1 i ⟨hs, hcl, hJ⟩ hi
    obtain ⟨hun, o, ho, hall⟩ := mem_ready.1 hi
    have hlt : i < l.size := by have := (Array.getElem?_eq_some_iff.1 ho).1; omega
    have hcl' : ∀ j oj, ops[j]? = some oj → (l.setIfInBounds i true).getD j false = true → ∀ e ∈ oj.after, Region.binds .any e = true → (l.setIfInBounds i true).getD e.on false = true := by
      intro j oj hj hl e he hb
      have key : l.getD e.on false = true := by
        rcases Decidable.em (i = j) with rfl | hne
        · rw [ho] at hj; cases hj; exact hall e he hb
        · exact hcl j oj hj (by rwa [getD_set_ne false hne] at hl) e he hb
      rcases Decidable.em (i = e.on) with h1 | h1
      · rw [← h1]; exact getD_set_same hlt
      · rw [getD_set_ne false h1]; exact key
    rcases hJ with ⟨hm0, hR1, hsz, hdf, hold, hF⟩ | ⟨hm1, hQ⟩
    · rcases Nat.lt_or_ge i m with him | him
      · obtain ⟨⟨d, hd, hdn, huniq⟩, _, _⟩ := hN.one i o him ho
        refine okOp_mono ?_ (hstep i o d him ho hd b w1 hR1 hold fun j oj dj hj hdj hx => by
          obtain ⟨e, he, hon, hb⟩ := after_any hx
          exact hF j oj dj (by have := (hN.one i o him ho).2.1 e he hb; omega) hj hdj (hon ▸ hall e he hb))
        · rintro b' w2 ⟨v, rfl, hR2, hS, hFv⟩
          refine ⟨by simp [hs], hcl', .inl ⟨by rw [getD_set_ne false (by omega)]; exact hm0, hR2, by rw [put_size, hsz], hdf, fun t ht => ?_, fun j oj dj hjm hj hdj hl => ?_⟩⟩
          · have hne : d ≠ t := by
              intro e
              subst e
              have : fills ops d = true := by
                unfold fills
                rw [Array.any_eq_true]
                obtain ⟨h1, h2⟩ := Array.getElem?_eq_some_iff.1 ho
                exact ⟨i, h1, by rw [h2]; simp [hd]⟩
              rw [this] at ht
              cases ht
            exact sl_ne rfl hne (hold t ht)
          · rcases Decidable.em (d = dj) with rfl | hne
            · have : j = i := (huniq j oj hjm hj hdj).symm
              subst this
              rw [sl_same rfl hsz hdn]
              exact hFv
            · have hji : i ≠ j := by
                intro e
                subst e
                rw [ho] at hj
                cases hj
                rw [hd] at hdj
                exact hne (Option.some.inj hdj)
              rw [sl_ne rfl hne rfl]
              refine hkeep _ _ _ _ hS (hF j oj dj hjm hj hdj ?_)
              rwa [getD_set_ne false hji] at hl
      · have him' : i = m := by have := (Array.getElem?_eq_some_iff.1 ho).1; have := hN.size; omega
        subst him'
        have hle : ∀ k, k < i → l.getD k false = true := fun k hk => upto l (fun j oj hj h e he hb => by
          rcases h with h | rfl
          · exact hcl j oj hj h e he hb
          · rw [ho] at hj; cases hj; exact hall e he hb) _ k rfl hk
        refine okOp_mono ?_ (hend o b w1 ho hR1 hsz hdf hold fun k ok d hk hok hd => hF k ok d hk hok hd (hle k hk))
        intro b' w2 hQ
        exact ⟨by simp [hs], hcl', .inr ⟨getD_set_same hlt, hQ⟩⟩
    · exfalso
      have hle : ∀ k, k < m → l.getD k false = true := fun k hk => upto l (fun j oj hj h e he hb => by
        rcases h with h | rfl
        · exact hcl j oj hj h e he hb
        · exact hcl _ oj hj hm1 e he hb) _ k rfl hk
      have : l.getD i false = true := by
        rcases Nat.lt_or_ge i m with him | him
        · exact hle i him
        · have him' : i = m := by have := (Array.getElem?_eq_some_iff.1 ho).1; have := hN.size; omega
          rw [him']; exact hm1
      exact listed_both hun this
  · rintro l b w1 ⟨hs, hcl, hJ⟩ hr
    rcases hJ with ⟨hm0, _⟩ | ⟨_, hQ⟩
    · exfalso
      have all : ∀ i, i < ops.size → l.getD i false = true := by
        intro i
        induction i using Nat.strongRecOn with
        | _ i ih =>
          intro hi
          refine Decidable.byContradiction fun hno => ?_
          have hi' : ops[i]? = some ops[i] := Array.getElem?_eq_getElem hi
          have hw : ∀ e ∈ ops[i].after, Region.binds .any e = true → e.on < i := by
            rcases Nat.lt_or_ge i m with him | him
            · exact (hN.one i _ him hi').2.1
            · have him' : i = m := by have := hN.size; omega
              subst him'
              rw [hi'] at hom
              cases hom
              exact haft
          have : i ∈ Region.ready .any ops l := mem_ready.2 ⟨by
            rw [Array.getD_eq_getD_getElem?, Array.getElem?_eq_getElem (by omega)] at hno ⊢
            simpa using hno, _, hi', fun e he hb => ih _ (hw e he hb) (by have := hw e he hb; omega)⟩
          rw [hr] at this
          cases this
      have := all m (by have := hN.size; omega)
      rw [this] at hm0
      cases hm0
    · exact hQ
  · have : left (Array.replicate ops.size false) = ops.size := by simp [left]
    omega
  · have none' : ∀ i, (Array.replicate ops.size false).getD i false = false := fun i => by
      rw [Array.getD_eq_getD_getElem?, Array.getElem?_replicate]
      split <;> rfl
    refine ⟨by simp, fun j oj hj hl => ?_, .inl ⟨none' m, hR, rfl, rfl, fun _ _ => rfl, fun i o d _ hi hd hl => ?_⟩⟩
    · rw [none'] at hl; cases hl
    · rw [none'] at hl; cases hl

theorem want_none {o : Oper} (hg : o.guard = none) (a : Act) : Region.wanted o (yielded ops a.tmps) = true := by
  unfold Region.wanted
  rw [hg]

/-- An operation that yields a value. -/
theorem ok_val {i : Nat} {o : Oper} {d : Tmp} {b : Act} {v : Value} {w1 w2 : World} {R : World → Prop} {S : World → World → Prop} {F : Nat → Value → World → Prop} (ho : ops[i]? = some o) (hd : o.dst = some d) (hg : o.guard = none)
    (hrun : (execOp b.eval o).run P w1 = .ok (.value v) w2) (hR : R w2) (hS : S w1 w2) (hF : F i v w2) : okOp P ops i (fun b' w2 => ∃ v, b' = b.put (some d) v ∧ R w2 ∧ S w1 w2 ∧ F i v w2) b w1 := by
  unfold okOp
  simp only [ho, want_none hg, if_true, okAt]
  rw [hrun, hd]
  exact ⟨v, rfl, hR, hS, hF⟩

/-- An operation that calls. -/
theorem ok_enter {i : Nat} {o : Oper} {d : Tmp} {b : Act} {f : FuncId} {args : Array Value} {w1 : World} {R : World → Prop} {S : World → World → Prop} {F : Nat → Value → World → Prop} (ho : ops[i]? = some o) (hd : o.dst = some d) (hg : o.guard = none)
    (hrun : (execOp b.eval o).run P w1 = .ok (.enter f args) w1) (hc : Calls P f args w1 (fun e w2 => ∃ v, e = .returned v ∧ R w2 ∧ S w1 w2 ∧ F i v w2)) : okOp P ops i (fun b' w2 => ∃ v, b' = b.put (some d) v ∧ R w2 ∧ S w1 w2 ∧ F i v w2) b w1 := by
  unfold okOp
  simp only [ho, want_none hg, if_true, okAt]
  rw [hrun, hd]
  exact hc.mono fun e w2 ⟨v, he, h⟩ => ⟨v, he, v, rfl, h⟩

/-- The last operation, a store. -/
theorem ok_last {i : Nat} {o : Oper} {b : Act} {v : Value} {w1 w2 : World} {K : Act → World → Prop} (ho : ops[i]? = some o) (hd : o.dst = none) (hg : o.guard = none)
    (hrun : (execOp b.eval o).run P w1 = .ok (.value v) w2) (hK : K b w2) : okOp P ops i K b w1 := by
  unfold okOp
  simp only [ho, want_none hg, if_true, okAt]
  rw [hrun, hd]
  exact hK
theorem ok_skip {i : Nat} {o : Oper} {b : Act} {w1 w2 : World} {K : Act → World → Prop} (ho : ops[i]? = some o) (hd : o.dst = none) (hg : o.guard = none)
    (hrun : (execOp b.eval o).run P w1 = .ok .skip w2) (hK : K b w2) : okOp P ops i K b w1 := by
  unfold okOp
  simp only [ho, want_none hg, if_true, okAt]
  rw [hrun, hd]
  exact hK

/-- A frame, slot by slot. -/
theorem act_list (b : Act) {n : Nat} {df : List Deferred} (hs : b.tmps.size = n) (hd : b.defers = df) : b = ⟨((List.range n).map (sl b)).toArray, df⟩ := by
  obtain ⟨tm, d⟩ := b
  subst hs hd
  refine congrArg (Act.mk · d) (Array.ext (by simp) fun i h1 h2 => ?_)
  simp only at h1 h2
  simp [sl, h1]

theorem ok_val' {i : Nat} {o : Oper} {d : Tmp} {b : Act} {v : Value} {w1 w2 : World} {R : World → Prop} {S : World → World → Prop} {F : Nat → Value → World → Prop} (ho : ops[i]? = some o) (hd : o.dst = some d) (hw : Region.wanted o (yielded ops b.tmps) = true)
    (hrun : (execOp b.eval o).run P w1 = .ok (.value v) w2) (hR : R w2) (hS : S w1 w2) (hF : F i v w2) : okOp P ops i (fun b' w2 => ∃ v, b' = b.put (some d) v ∧ R w2 ∧ S w1 w2 ∧ F i v w2) b w1 := by
  unfold okOp
  simp only [ho, hw, if_true, okAt]
  rw [hrun, hd]
  exact ⟨v, rfl, hR, hS, hF⟩
theorem ok_enter' {i : Nat} {o : Oper} {d : Tmp} {b : Act} {f : FuncId} {args : Array Value} {w1 : World} {R : World → Prop} {S : World → World → Prop} {F : Nat → Value → World → Prop} (ho : ops[i]? = some o) (hd : o.dst = some d) (hw : Region.wanted o (yielded ops b.tmps) = true)
    (hrun : (execOp b.eval o).run P w1 = .ok (.enter f args) w1) (hc : Calls P f args w1 (fun e w2 => ∃ v, e = .returned v ∧ R w2 ∧ S w1 w2 ∧ F i v w2)) : okOp P ops i (fun b' w2 => ∃ v, b' = b.put (some d) v ∧ R w2 ∧ S w1 w2 ∧ F i v w2) b w1 := by
  unfold okOp
  simp only [ho, hw, if_true, okAt]
  rw [hrun, hd]
  exact hc.mono fun e w2 ⟨v, he, h⟩ => ⟨v, he, v, rfl, h⟩

end
end Go.Proofs.YtlehlbgaboifoabGreatDoor

/- The law of a region that draws its order, where operations may store. -/
namespace Go.Proofs.YtlehlbgaboifoabGreatDoor
open Go.RowKit

section
variable {P : Program} {ops : Array Oper} {md : Region.Mode}

/-- What an operation has left in its slot; a store has none. -/
def slv (a : Act) (o : Oper) : Value := match o.dst with
  | none => undef
  | some d => sl a d

/-- The operations that fill a slot fill different ones, each within the frame; each waits but for ones ahead of it. -/
def Region.neatZ (md : Region.Mode) (ops : Array Oper) (n : Nat) : Bool :=
  (List.range ops.size).all fun i => match ops[i]? with
    | none => false
    | some o => (match o.dst with
      | none => true
      | some d => decide (d < n) && (List.range ops.size).all fun j => i == j || (ops[j]?).bind (·.dst) != some d) && o.after.all fun e => !Region.binds md e || decide (e.on < i)

theorem neatZ_spec {n : Nat} (h : Region.neatZ md ops n = true) {i : Nat} {o : Oper} (hi : ops[i]? = some o) :
    (∀ d, o.dst = some d → d < n ∧ ∀ j oj, ops[j]? = some oj → oj.dst = some d → i = j) ∧ ∀ e ∈ o.after, Region.binds md e = true → e.on < i := by
  have hlt : i < ops.size := (Array.getElem?_eq_some_iff.1 hi).1
  unfold Region.neatZ at h
  have h1 := List.all_eq_true.1 h i (List.mem_range.2 hlt)
  simp only [hi, Bool.and_eq_true] at h1
  refine ⟨fun d hd => ?_, fun e he hb => ?_⟩
  · have h2 := h1.1
    simp only [hd, Bool.and_eq_true, decide_eq_true_eq] at h2
    refine ⟨h2.1, fun j oj hj he => ?_⟩
    have := List.all_eq_true.1 h2.2 j (List.mem_range.2 (Array.getElem?_eq_some_iff.1 hj).1)
    simpa [hj, he] using this
  · have := Array.all_eq_true_iff_forall_mem.1 h1.2 e he
    simpa [hb] using this

theorem readyZ_all {n : Nat} (h : Region.neatZ md ops n = true) {l : Array Bool} (hs : l.size = ops.size) (hr : Region.ready md ops l = []) : ∀ i, i < ops.size → l.getD i false = true := by
  intro i
  induction i using Nat.strongRecOn with
  | _ i ih =>
    intro hi
    refine Decidable.byContradiction fun hn => ?_
    have hi' : ops[i]? = some ops[i] := Array.getElem?_eq_getElem hi
    obtain ⟨_, hw⟩ := neatZ_spec h hi'
    have : i ∈ Region.ready md ops l := mem_ready.2 ⟨by
      rw [Array.getD_eq_getD_getElem?, Array.getElem?_eq_getElem (by omega)] at *
      simpa using hn, _, hi', fun e he hb => ih _ (hw e he hb) (by have := hw e he hb; omega)⟩
    rw [hr] at this
    cases this

/-- The law. -/
theorem wp_region_relyZ {id : Nat} {Q : Exit → Act → World → Prop} {a : Act} {w : World} (R : World → Prop) (S : World → World → Prop) (F : Nat → Value → World → Prop)
    (hm : P.follows .mixedOrders = true) (hn : Region.neatZ .any ops a.tmps.size = true) (hR : R w.drew)
    (hkeep : ∀ i v w1 w2, S w1 w2 → F i v w1 → F i v w2)
    (hstep : ∀ i o, ops[i]? = some o → ∀ b w1, R w1 → (∀ t, fills ops t = false → sl b t = sl a t) →
      (∀ j oj, ops[j]? = some oj → (o.after.any fun e => e.on == j && Region.binds .any e) = true → F j (slv b oj) w1) →
      okOp P ops i (fun b' w2 => ∃ v, b' = b.put o.dst v ∧ (o.dst = none → v = undef) ∧ R w2 ∧ S w1 w2 ∧ F i v w2) b w1)
    (hend : ∀ b w1, R w1 → b.tmps.size = a.tmps.size → b.defers = a.defers → (∀ t, fills ops t = false → sl b t = sl a t) →
      (∀ i o, ops[i]? = some o → F i (slv b o) w1) → Q .normal b w1) : (Code.region id ops true).wp P Q a w := by
  refine wp_region_K (fun _ => True) hm (wpK_inv (J := fun l b w1 => l.size = ops.size ∧ R w1 ∧ b.tmps.size = a.tmps.size ∧ b.defers = a.defers ∧ (∀ t, fills ops t = false → sl b t = sl a t) ∧ ∀ i o, ops[i]? = some o → l.getD i false = true → F i (slv b o) w1) ?_ ?_ _ _ _ _ ?_ ?_)
  · intro l b w1 i ⟨hs, hR1, hsz, hdf, hold, hfact⟩ hi
    obtain ⟨hun, o, ho, hall⟩ := mem_ready.1 hi
    obtain ⟨hd, _⟩ := neatZ_spec hn ho
    have hlt : i < l.size := by have := (Array.getElem?_eq_some_iff.1 ho).1; omega
    refine okOp_mono ?_ (hstep i o ho b w1 hR1 hold fun j oj hj hx => by
      obtain ⟨e, he, hon, hb⟩ := after_any hx
      exact hfact j oj hj (hon ▸ hall e he hb))
    rintro b' w2 ⟨v, rfl, hu, hR2, hS, hF⟩
    refine ⟨by simp [hs], hR2, by rw [put_size, hsz], hdf ▸ (by cases o.dst <;> rfl), fun t ht => ?_, fun j oj hj hl => ?_⟩
    · cases hdst : o.dst with
      | none => exact hold t ht
      | some d =>
        have hne : d ≠ t := by
          intro e
          subst e
          have : fills ops d = true := by
            unfold fills
            rw [Array.any_eq_true]
            obtain ⟨h1, h2⟩ := Array.getElem?_eq_some_iff.1 ho
            exact ⟨i, h1, by rw [h2]; simp [hdst]⟩
          rw [this] at ht
          cases ht
        exact sl_ne rfl hne (hold t ht)
    · rcases Decidable.em (i = j) with rfl | hij
      · rw [ho] at hj
        cases hj
        have : slv (b.put o.dst v) o = v := by
          unfold slv
          cases hdst : o.dst with
          | none => exact (hu hdst).symm
          | some d => exact sl_same rfl hsz (hd d hdst).1
        rw [this]
        exact hF
      · have : slv (b.put o.dst v) oj = slv b oj := by
          unfold slv
          cases hdj : oj.dst with
          | none => rfl
          | some dj =>
            cases hdst : o.dst with
            | none => rfl
            | some d =>
              have hne : d ≠ dj := by
                intro e
                subst e
                exact hij ((hd d hdst).2 j oj hj hdj)
              exact sl_ne rfl hne rfl
        rw [this]
        refine hkeep _ _ _ _ hS (hfact j oj hj ?_)
        rwa [getD_set_ne false hij] at hl
  · intro l b w1 ⟨hs, hR1, hsz, hdf, hold, hfact⟩ hr
    exact hend b w1 hR1 hsz hdf hold fun i o hi => hfact i o hi (readyZ_all hn hs hr i (Array.getElem?_eq_some_iff.1 hi).1)
  · have : left (Array.replicate ops.size false) = ops.size := by simp [left]
    omega
  · refine ⟨by simp, hR, rfl, rfl, fun _ _ => rfl, fun i o hi hl => ?_⟩
    exfalso
    rw [Array.getD_eq_getD_getElem?] at hl
    have := (Array.getElem?_eq_some_iff.1 hi).1
    simp [this] at hl

theorem okZ_val {i : Nat} {o : Oper} {d : Tmp} {b : Act} {v : Value} {w1 w2 : World} {R : World → Prop} {S : World → World → Prop} {F : Nat → Value → World → Prop} (ho : ops[i]? = some o) (hd : o.dst = some d) (hw : Region.wanted o (yielded ops b.tmps) = true)
    (hrun : (execOp b.eval o).run P w1 = .ok (.value v) w2) (hR : R w2) (hS : S w1 w2) (hF : F i v w2) : okOp P ops i (fun b' w2 => ∃ v, b' = b.put o.dst v ∧ (o.dst = none → v = undef) ∧ R w2 ∧ S w1 w2 ∧ F i v w2) b w1 := by
  unfold okOp
  simp only [ho, hw, if_true, okAt]
  rw [hrun]
  exact ⟨v, rfl, fun h => (by rw [hd] at h; cases h), hR, hS, hF⟩
theorem okZ_enter {i : Nat} {o : Oper} {d : Tmp} {b : Act} {f : FuncId} {args : Array Value} {w1 : World} {R : World → Prop} {S : World → World → Prop} {F : Nat → Value → World → Prop} (ho : ops[i]? = some o) (hd : o.dst = some d) (hw : Region.wanted o (yielded ops b.tmps) = true)
    (hrun : (execOp b.eval o).run P w1 = .ok (.enter f args) w1) (hc : Calls P f args w1 (fun e w2 => ∃ v, e = .returned v ∧ R w2 ∧ S w1 w2 ∧ F i v w2)) : okOp P ops i (fun b' w2 => ∃ v, b' = b.put o.dst v ∧ (o.dst = none → v = undef) ∧ R w2 ∧ S w1 w2 ∧ F i v w2) b w1 := by
  unfold okOp
  simp only [ho, hw, if_true, okAt]
  rw [hrun]
  exact hc.mono fun e w2 ⟨v, he, h⟩ => ⟨v, he, v, rfl, fun h => (by rw [hd] at h; cases h), h⟩
theorem okZ_unw {i : Nat} {o : Oper} {b : Act} {w1 : World} {R : World → Prop} {S : World → World → Prop} {F : Nat → Value → World → Prop} (ho : ops[i]? = some o) (hw : Region.wanted o (yielded ops b.tmps) = false)
    (hR : R w1) (hS : S w1 w1) (hF : F i undef w1) : okOp P ops i (fun b' w2 => ∃ v, b' = b.put o.dst v ∧ (o.dst = none → v = undef) ∧ R w2 ∧ S w1 w2 ∧ F i v w2) b w1 := by
  unfold okOp
  simp only [ho, hw]
  exact ⟨undef, rfl, fun _ => rfl, hR, hS, hF⟩
/-- A store. -/
theorem okZ_store {i : Nat} {o : Oper} {b : Act} {w1 w2 : World} {R : World → Prop} {S : World → World → Prop} {F : Nat → Value → World → Prop} (ho : ops[i]? = some o) (hd : o.dst = none) (hw : Region.wanted o (yielded ops b.tmps) = true)
    (hrun : (execOp b.eval o).run P w1 = .ok .skip w2) (hR : R w2) (hS : S w1 w2) (hF : F i undef w2) : okOp P ops i (fun b' w2 => ∃ v, b' = b.put o.dst v ∧ (o.dst = none → v = undef) ∧ R w2 ∧ S w1 w2 ∧ F i v w2) b w1 := by
  unfold okOp
  simp only [ho, hw, if_true, okAt]
  rw [hrun]
  exact ⟨undef, by rw [hd], fun _ => rfl, hR, hS, hF⟩

end
end Go.Proofs.YtlehlbgaboifoabGreatDoor
