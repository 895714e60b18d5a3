/- The law of a region that draws its order, where operations may store. -/
import Derived.Test.YtmldpihjndafaaaDoorRL
namespace Go.Proofs.YtmldpihjndafaaaDoor
open Go.RowKit

section
variable {P : Program} {ops : Array Oper} {md : Region.Mode}

/-- What an operation has left in its slot; a store has none. -/
def slv (a : Act) (o : Oper) : Value := match o.dst with
  | none => undef
  | some d => sl a d

/-- The operations that fill a slot fill different ones, each within the frame; each waits but for ones ahead of it. -/
def Region.neatZ (md : Region.Mode) (ops : Array Oper) (n : Nat) : Bool :=
  (List.range ops.size).all fun i => match ops[i]? with
    | none => false
    | some o => (match o.dst with
      | none => true
      | some d => decide (d < n) && (List.range ops.size).all fun j => i == j || (ops[j]?).bind (·.dst) != some d) && o.after.all fun e => !Region.binds md e || decide (e.on < i)

theorem neatZ_spec {n : Nat} (h : Region.neatZ md ops n = true) {i : Nat} {o : Oper} (hi : ops[i]? = some o) :
    (∀ d, o.dst = some d → d < n ∧ ∀ j oj, ops[j]? = some oj → oj.dst = some d → i = j) ∧ ∀ e ∈ o.after, Region.binds md e = true → e.on < i := by
  have hlt : i < ops.size := (Array.getElem?_eq_some_iff.1 hi).1
  unfold Region.neatZ at h
  have h1 := List.all_eq_true.1 h i (List.mem_range.2 hlt)
  simp only [hi, Bool.and_eq_true] at h1
  refine ⟨fun d hd => ?_, fun e he hb => ?_⟩
  · have h2 := h1.1
    simp only [hd, Bool.and_eq_true, decide_eq_true_eq] at h2
    refine ⟨h2.1, fun j oj hj he => ?_⟩
    have := List.all_eq_true.1 h2.2 j (List.mem_range.2 (Array.getElem?_eq_some_iff.1 hj).1)
    simpa [hj, he] using this
  · have := Array.all_eq_true_iff_forall_mem.1 h1.2 e he
    simpa [hb] using this

theorem readyZ_all {n : Nat} (h : Region.neatZ md ops n = true) {l : Array Bool} (hs : l.size = ops.size) (hr : Region.ready md ops l = []) : ∀ i, i < ops.size → l.getD i false = true := by
  intro i
  induction i using Nat.strongRecOn with
  | _ i ih =>
    intro hi
    refine Decidable.byContradiction fun hn => ?_
    have hi' : ops[i]? = some ops[i] := Array.getElem?_eq_getElem hi
    obtain ⟨_, hw⟩ := neatZ_spec h hi'
    have : i ∈ Region.ready md ops l := mem_ready.2 ⟨by
      rw [Array.getD_eq_getD_getElem?, Array.getElem?_eq_getElem (by omega)] at *
      simpa using hn, _, hi', fun e he hb => ih _ (hw e he hb) (by have := hw e he hb; omega)⟩
    rw [hr] at this
    cases this

/-- The law. -/
theorem wp_region_relyZ {id : Nat} {Q : Exit → Act → World → Prop} {a : Act} {w : World} (R : World → Prop) (S : World → World → Prop) (F : Nat → Value → World → Prop)
    (hm : P.follows .mixedOrders = true) (hn : Region.neatZ .any ops a.tmps.size = true) (hR : R w.drew)
    (hkeep : ∀ i v w1 w2, S w1 w2 → F i v w1 → F i v w2)
    (hstep : ∀ i o, ops[i]? = some o → ∀ b w1, R w1 → (∀ t, fills ops t = false → sl b t = sl a t) →
      (∀ j oj, ops[j]? = some oj → (o.after.any fun e => e.on == j && Region.binds .any e) = true → F j (slv b oj) w1) →
      okOp P ops i (fun b' w2 => ∃ v, b' = b.put o.dst v ∧ (o.dst = none → v = undef) ∧ R w2 ∧ S w1 w2 ∧ F i v w2) b w1)
    (hend : ∀ b w1, R w1 → b.tmps.size = a.tmps.size → b.defers = a.defers → (∀ t, fills ops t = false → sl b t = sl a t) →
      (∀ i o, ops[i]? = some o → F i (slv b o) w1) → Q .normal b w1) : (Code.region id ops true).wp P Q a w := by
  refine wp_region_K (fun _ => True) hm (wpK_inv (J := fun l b w1 => l.size = ops.size ∧ R w1 ∧ b.tmps.size = a.tmps.size ∧ b.defers = a.defers ∧ (∀ t, fills ops t = false → sl b t = sl a t) ∧ ∀ i o, ops[i]? = some o → l.getD i false = true → F i (slv b o) w1) ?_ ?_ _ _ _ _ ?_ ?_)
  · intro l b w1 i ⟨hs, hR1, hsz, hdf, hold, hfact⟩ hi
    obtain ⟨hun, o, ho, hall⟩ := mem_ready.1 hi
    obtain ⟨hd, _⟩ := neatZ_spec hn ho
    have hlt : i < l.size := by have := (Array.getElem?_eq_some_iff.1 ho).1; omega
    refine okOp_mono ?_ (hstep i o ho b w1 hR1 hold fun j oj hj hx => by
      obtain ⟨e, he, hon, hb⟩ := after_any hx
      exact hfact j oj hj (hon ▸ hall e he hb))
    rintro b' w2 ⟨v, rfl, hu, hR2, hS, hF⟩
    refine ⟨by simp [hs], hR2, by rw [put_size, hsz], hdf ▸ (by cases o.dst <;> rfl), fun t ht => ?_, fun j oj hj hl => ?_⟩
    · cases hdst : o.dst with
      | none => exact hold t ht
      | some d =>
        have hne : d ≠ t := by
          intro e
          subst e
          have : fills ops d = true := by
            unfold fills
            rw [Array.any_eq_true]
            obtain ⟨h1, h2⟩ := Array.getElem?_eq_some_iff.1 ho
            exact ⟨i, h1, by rw [h2]; simp [hdst]⟩
          rw [this] at ht
          cases ht
        exact sl_ne rfl hne (hold t ht)
    · rcases Decidable.em (i = j) with rfl | hij
      · rw [ho] at hj
        cases hj
        have : slv (b.put o.dst v) o = v := by
          unfold slv
          cases hdst : o.dst with
          | none => exact (hu hdst).symm
          | some d => exact sl_same rfl hsz (hd d hdst).1
        rw [this]
        exact hF
      · have : slv (b.put o.dst v) oj = slv b oj := by
          unfold slv
          cases hdj : oj.dst with
          | none => rfl
          | some dj =>
            cases hdst : o.dst with
            | none => rfl
            | some d =>
              have hne : d ≠ dj := by
                intro e
                subst e
                exact hij ((hd d hdst).2 j oj hj hdj)
              exact sl_ne rfl hne rfl
        rw [this]
        refine hkeep _ _ _ _ hS (hfact j oj hj ?_)
        rwa [getD_set_ne false hij] at hl
  · intro l b w1 ⟨hs, hR1, hsz, hdf, hold, hfact⟩ hr
    exact hend b w1 hR1 hsz hdf hold fun i o hi => hfact i o hi (readyZ_all hn hs hr i (Array.getElem?_eq_some_iff.1 hi).1)
  · have : left (Array.replicate ops.size false) = ops.size := by simp [left]
    omega
  · refine ⟨by simp, hR, rfl, rfl, fun _ _ => rfl, fun i o hi hl => ?_⟩
    exfalso
    rw [Array.getD_eq_getD_getElem?] at hl
    have := (Array.getElem?_eq_some_iff.1 hi).1
    simp [this] at hl

theorem okZ_val {i : Nat} {o : Oper} {d : Tmp} {b : Act} {v : Value} {w1 w2 : World} {R : World → Prop} {S : World → World → Prop} {F : Nat → Value → World → Prop} (ho : ops[i]? = some o) (hd : o.dst = some d) (hw : Region.wanted o (yielded ops b.tmps) = true)
    (hrun : (execOp b.eval o).run P w1 = .ok (.value v) w2) (hR : R w2) (hS : S w1 w2) (hF : F i v w2) : okOp P ops i (fun b' w2 => ∃ v, b' = b.put o.dst v ∧ (o.dst = none → v = undef) ∧ R w2 ∧ S w1 w2 ∧ F i v w2) b w1 := by
  unfold okOp
  simp only [ho, hw, if_true, okAt]
  rw [hrun]
  exact ⟨v, rfl, fun h => (by rw [hd] at h; cases h), hR, hS, hF⟩
theorem okZ_enter {i : Nat} {o : Oper} {d : Tmp} {b : Act} {f : FuncId} {args : Array Value} {w1 : World} {R : World → Prop} {S : World → World → Prop} {F : Nat → Value → World → Prop} (ho : ops[i]? = some o) (hd : o.dst = some d) (hw : Region.wanted o (yielded ops b.tmps) = true)
    (hrun : (execOp b.eval o).run P w1 = .ok (.enter f args) w1) (hc : Calls P f args w1 (fun e w2 => ∃ v, e = .returned v ∧ R w2 ∧ S w1 w2 ∧ F i v w2)) : okOp P ops i (fun b' w2 => ∃ v, b' = b.put o.dst v ∧ (o.dst = none → v = undef) ∧ R w2 ∧ S w1 w2 ∧ F i v w2) b w1 := by
  unfold okOp
  simp only [ho, hw, if_true, okAt]
  rw [hrun]
  exact hc.mono fun e w2 ⟨v, he, h⟩ => ⟨v, he, v, rfl, fun h => (by rw [hd] at h; cases h), h⟩
theorem okZ_unw {i : Nat} {o : Oper} {b : Act} {w1 : World} {R : World → Prop} {S : World → World → Prop} {F : Nat → Value → World → Prop} (ho : ops[i]? = some o) (hw : Region.wanted o (yielded ops b.tmps) = false)
    (hR : R w1) (hS : S w1 w1) (hF : F i undef w1) : okOp P ops i (fun b' w2 => ∃ v, b' = b.put o.dst v ∧ (o.dst = none → v = undef) ∧ R w2 ∧ S w1 w2 ∧ F i v w2) b w1 := by
  unfold okOp
  simp only [ho, hw]
  exact ⟨undef, rfl, fun _ => rfl, hR, hS, hF⟩
/-- A store. -/
theorem okZ_store {i : Nat} {o : Oper} {b : Act} {w1 w2 : World} {R : World → Prop} {S : World → World → Prop} {F : Nat → Value → World → Prop} (ho : ops[i]? = some o) (hd : o.dst = none) (hw : Region.wanted o (yielded ops b.tmps) = true)
    (hrun : (execOp b.eval o).run P w1 = .ok .skip w2) (hR : R w2) (hS : S w1 w2) (hF : F i undef w2) : okOp P ops i (fun b' w2 => ∃ v, b' = b.put o.dst v ∧ (o.dst = none → v = undef) ∧ R w2 ∧ S w1 w2 ∧ F i v w2) b w1 := by
  unfold okOp
  simp only [ho, hw, if_true, okAt]
  rw [hrun]
  exact ⟨undef, by rw [hd], fun _ => rfl, hR, hS, hF⟩

end
end Go.Proofs.YtmldpihjndafaaaDoor
