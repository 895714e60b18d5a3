/- A region that draws its order and makes memory: whatever order is drawn, the operations that only read may be taken first; what is left is parted by hand. -/
import Derived.Deep.Quiet
import Derived.Tactics
import Derived.KernelRfl
import Derived.Below
namespace Go.Proofs.YtlehlbgaboifoabGreatDoor
open Go.RowKit

section
variable {P : Program} {ops : Array Oper} {md : Region.Mode} {C : World → Prop}

/-- What an operation yields: a value, or a call that comes back with one; nothing that ends the function. -/
def okUpon (P : Program) (K : Value → World → Prop) : Result Next → Prop
  | .ok (.value u) w' => K u w'
  | .ok .skip w' => K undef w'
  | .ok (.enter f args) w' => Calls P f args w' (fun e w'' => ∃ v, e = .returned v ∧ K v w'')
  | _ => False

def okAt (P : Program) (o : Oper) (a : Act) (w : World) (K : Value → World → Prop) : Prop := okUpon P K ((execOp a.eval o).run P w)

/-- Operation number i comes up. -/
def okOp (P : Program) (ops : Array Oper) (i : Nat) (K : Act → World → Prop) (a : Act) (w : World) : Prop :=
  match ops[i]? with
  | none => K a w
  | some o => if Region.wanted o (yielded ops a.tmps) then okAt P o a w (fun v w' => K (a.put o.dst v) w') else K (a.put o.dst undef) w

/-- Whatever order is drawn from here on; the world stays in the class C. -/
def wpK (P : Program) (md : Region.Mode) (ops : Array Oper) (C : World → Prop) (Q : Act → World → Prop) : Nat → Array Bool → Act → World → Prop
  | 0, listed, a, w => Region.ready md ops listed = [] ∧ Q a w
  | fuel + 1, listed, a, w =>
    (Region.ready md ops listed = [] → Q a w) ∧
    ∀ i ∈ Region.ready md ops listed, okOp P ops i (fun a' w' => C w' ∧ wpK P md ops C Q fuel (listed.setIfInBounds i true) a' w') a w

theorem okUpon_mono {K K' : Value → World → Prop} {r : Result Next} (h : ∀ v w, K v w → K' v w) (hh : okUpon P K r) : okUpon P K' r := by
  cases r with
  | ok n w' =>
    cases n <;> simp only [okUpon] at hh ⊢
    case value u => exact h _ _ hh
    case skip => exact h _ _ hh
    case enter f args => exact hh.mono fun e w'' ⟨v, he, hk⟩ => ⟨v, he, h _ _ hk⟩
  | halt x w' => simp only [okUpon] at hh

theorem okOp_mono {i : Nat} {a : Act} {w : World} {K K' : Act → World → Prop} (h : ∀ a w, K a w → K' a w) (hh : okOp P ops i K a w) : okOp P ops i K' a w := by
  unfold okOp at *
  split
  · rename_i ho; simp only [ho] at hh; exact h _ _ hh
  · rename_i o ho
    simp only [ho] at hh
    split
    · rename_i hw; simp only [hw, if_true] at hh; exact okUpon_mono (fun _ _ => h _ _) hh
    · rename_i hw; simp only [hw] at hh; exact h _ _ hh

theorem wpOp_of_okOp {i : Nat} {a : Act} {w : World} {K : Act → World → Prop} {Q' : Exit → Act → World → Prop} (hh : okOp P ops i K a w) : wpOp P ops Q' i K a w := by
  unfold okOp at hh
  unfold wpOp
  split
  · rename_i ho; simp only [ho] at hh; exact hh
  · rename_i o ho
    simp only [ho] at hh
    split
    · rename_i hw
      simp only [hw, if_true, okAt] at hh
      refine .inl ?_
      unfold Oper.wp
      generalize (execOp a.eval o).run P w = r at *
      cases r with
      | ok n w' =>
        cases n <;> simp only [okUpon] at hh <;> simp only [Oper.upon]
        case value u => exact hh
        case skip => exact hh
        case enter f args => exact hh.mono fun e w'' ⟨v, he, hk⟩ => by subst he; exact hk
      | halt x w' => simp only [okUpon] at hh
    · rename_i hw; simp only [hw] at hh; exact hh

theorem wpAny_of_K {Q : Act → World → Prop} {Q' : Exit → Act → World → Prop} (hQ : ∀ a w, Q a w → Q' .normal a w) : ∀ (fuel : Nat) (listed : Array Bool) (a : Act) (w : World),
    wpK P md ops C Q fuel listed a w → wpAny P md ops Q' fuel listed a w
  | 0, _, _, _, h => ⟨h.1, hQ _ _ h.2⟩
  | fuel + 1, _, _, _, h => ⟨fun h0 => hQ _ _ (h.1 h0), fun i hi => wpOp_of_okOp (okOp_mono (fun a' w' hk => wpAny_of_K hQ fuel _ a' w' hk.2) (h.2 i hi))⟩

/-- In every world of the class the operation yields the value v and leaves the very world. -/
def Same (P : Program) (ops : Array Oper) (C : World → Prop) (o : Oper) (v : Value) (a : Act) : Prop :=
  if Region.wanted o (yielded ops a.tmps) = true then ∀ w, C w → (execOp a.eval o).run P w = .ok (.value v) w else v = undef

theorem Same.wants {o : Oper} {v : Value} {a : Act} (hw : Region.wanted o (yielded ops a.tmps) = true) (h : ∀ w, C w → (execOp a.eval o).run P w = .ok (.value v) w) : Same P ops C o v a := by
  rw [Same, if_pos hw]
  exact h

theorem okOp_of_same {i : Nat} {o : Oper} {v : Value} {a : Act} {w : World} {K : Act → World → Prop} (hi : ops[i]? = some o) (hC : C w) (hy : Same P ops C o v a) (h : K (a.put o.dst v) w) : okOp P ops i K a w := by
  rw [okOp, hi]
  rw [Same] at hy
  by_cases hw : Region.wanted o (yielded ops a.tmps) = true
  · rw [if_pos hw] at hy
    simp only [if_pos hw, okAt]
    rw [hy w hC]
    exact h
  · rw [if_neg hw] at hy
    simp only [if_neg hw]
    rw [← hy]
    exact h

/-- Two operations that do not touch one another: what the one yields it yields behind the other one, too. -/
theorem same_put {oi oj : Oper} {v : Value} {a : Act} (hap : oi.apart ops oj = true) (hsi : ∀ cs b, oi.op ≠ .select cs b) (u : Value) (hy : Same P ops C oi v a) : Same P ops C oi v (a.put oj.dst u) := by
  have h3 := (Oper.apart_spec hap).2.2
  rw [Same, execOp_put oi hsi a oj.dst u h3, wanted_put oi a oj.dst u h3]
  exact hy

theorem okOp_put {j : Nat} {oi oj : Oper} {v : Value} {K : Act → World → Prop} {a : Act} {w : World} (hj : ops[j]? = some oj) (hap : oi.apart ops oj = true)
    (hsi : ∀ cs b, oi.op ≠ .select cs b) (hsj : ∀ cs b, oj.op ≠ .select cs b) (hy : Same P ops C oi v a) (h : okOp P ops j K (a.put oi.dst v) w) :
    okOp P ops j (fun a' w' => Same P ops C oi v a' ∧ K (a'.put oi.dst v) w') a w := by
  have sp := Oper.apart_spec hap
  have turn : ∀ u, (a.put oi.dst v).put oj.dst u = (a.put oj.dst u).put oi.dst v := fun u => Act.put_comm a v u sp.2.1
  rw [okOp, hj] at h ⊢
  simp only [wanted_put oj a oi.dst v sp.1, okAt, execOp_put oj hsj a oi.dst v sp.1, turn] at h
  by_cases hw : Region.wanted oj (yielded ops a.tmps) = true
  · simp only [if_pos hw] at h ⊢
    exact okUpon_mono (fun u _ hk => ⟨same_put hap hsi u hy, hk⟩) h
  · simp only [if_neg hw] at h ⊢
    exact ⟨same_put hap hsi undef hy, h⟩

theorem listed_both {l : Array Bool} {i : Nat} (h : l.getD i true = false) (h' : l.getD i false = true) : False := by
  rw [Array.getD_eq_getD_getElem?] at h h'
  cases hx : l[i]? with
  | none => rw [hx] at h; cases h
  | some b => rw [hx] at h h'; exact absurd (h.symm.trans h') (by decide)

/-- Of two operations that may come up now neither waits for the other one. -/
theorem no_wait {l : Array Bool} {i j : Nat} {oj : Oper} (hi : i ∈ Region.ready md ops l) (hj : j ∈ Region.ready md ops l) (hoj : ops[j]? = some oj) : ∀ e ∈ oj.after, Region.binds md e = true → e.on ≠ i := by
  intro e he hb heq
  obtain ⟨_, o, ho, hall⟩ := mem_ready.1 hj
  rw [hoj] at ho
  cases ho
  exact listed_both (mem_ready.1 hi).1 (heq ▸ hall e he hb)

/-- An operation that only reads may be taken first, if every other one that has not come up either waits for it or is apart from it. -/
theorem wpK_first {Q : Act → World → Prop} {i : Nat} {oi : Oper} {v : Value} (hi : ops[i]? = some oi) (hsel : ∀ (j : Nat) (o : Oper) cs b, ops[j]? = some o → o.op ≠ .select cs b)
    (fuel : Nat) : ∀ (l : Array Bool) (a : Act) (w : World), C w →
      (∀ j oj, ops[j]? = some oj → j ≠ i → l.getD j true = false → (∀ e ∈ oj.after, Region.binds md e = true → e.on ≠ i) → oi.apart ops oj = true) →
      i ∈ Region.ready md ops l → Same P ops C oi v a → wpK P md ops C Q fuel (l.setIfInBounds i true) (a.put oi.dst v) w → wpK P md ops C Q (fuel + 1) l a w := by
  induction fuel with
  | zero =>
    intro l a w hC _ hr hy H
    refine ⟨fun he => absurd (he ▸ hr) List.not_mem_nil, fun j hj => ?_⟩
    rcases Decidable.em (j = i) with rfl | hne
    · exact okOp_of_same hi hC hy ⟨hC, H⟩
    · exact absurd (H.1 ▸ ready_mono hj hne) List.not_mem_nil
  | succ n ih =>
    intro l a w hC hfree hr hy H
    refine ⟨fun he => absurd (he ▸ hr) List.not_mem_nil, fun j hj => ?_⟩
    rcases Decidable.em (j = i) with rfl | hne
    · exact okOp_of_same hi hC hy ⟨hC, H⟩
    · obtain ⟨hun, oj, hoj, _⟩ := mem_ready.1 hj
      have hap := hfree j oj hoj hne hun (no_wait hr hj hoj)
      refine okOp_mono (fun a' w' hk => ?_) (okOp_put hoj hap (fun cs b => hsel i oi cs b hi) (fun cs b => hsel j oj cs b hoj) hy (H.2 j (ready_mono hj hne)))
      refine ⟨hk.2.1, ih _ a' w' hk.2.1 (fun k ok hok hki hk0 => hfree k ok hok hki ?_) (ready_mono hr (Ne.symm hne)) hk.1 (by rw [Array.setIfInBounds_comm _ _ hne]; exact hk.2.2)⟩
      rcases Decidable.em (j = k) with rfl | hjk
      · exact hun
      · rwa [getD_set_ne true hjk] at hk0

/-- One step of the way: operation i only reads, and is taken. -/
theorem wpK_take {Q : Act → World → Prop} {fuel : Nat} {listed : Array Bool} {a : Act} {w : World} (i : Nat) (oi : Oper) (v : Value)
    (hB : (Region.noSelect ops && (Region.ready md ops listed).contains i && Region.free md ops listed i) = true) (hi : ops[i]? = some oi) (hC : C w)
    (hy : Same P ops C oi v a) (H : wpK P md ops C Q fuel (listed.setIfInBounds i true) (a.put oi.dst v) w) : wpK P md ops C Q (fuel + 1) listed a w := by
  simp only [Bool.and_eq_true] at hB
  exact wpK_first hi (Region.noSelect_spec hB.1.1) fuel listed a w hC (Region.free_spec hi hB.2) (by simpa using hB.1.2) hy H

/-- One operation alone may come up. -/
theorem wpK_one {Q : Act → World → Prop} {fuel : Nat} {listed : Array Bool} {a : Act} {w : World} (i : Nat) (oi : Oper)
    (hr : Region.ready md ops listed = [i]) (hi : ops[i]? = some oi) (hw : Region.wanted oi (yielded ops a.tmps) = true)
    (H : okAt P oi a w (fun v w' => C w' ∧ wpK P md ops C Q fuel (listed.setIfInBounds i true) (a.put oi.dst v) w')) : wpK P md ops C Q (fuel + 1) listed a w := by
  refine ⟨fun h => (by rw [hr] at h; cases h), fun j hj => ?_⟩
  rw [hr] at hj
  have : j = i := by simpa using hj
  subst this
  unfold okOp
  simp only [hi, hw, if_true]
  exact H

/-- Two operations may come up. -/
theorem wpK_two {Q : Act → World → Prop} {fuel : Nat} {listed : Array Bool} {a : Act} {w : World} (i j : Nat) (oi oj : Oper)
    (hr : Region.ready md ops listed = [i, j]) (hi : ops[i]? = some oi) (hj : ops[j]? = some oj) (hwi : Region.wanted oi (yielded ops a.tmps) = true) (hwj : Region.wanted oj (yielded ops a.tmps) = true)
    (Hi : okAt P oi a w (fun v w' => C w' ∧ wpK P md ops C Q fuel (listed.setIfInBounds i true) (a.put oi.dst v) w'))
    (Hj : okAt P oj a w (fun v w' => C w' ∧ wpK P md ops C Q fuel (listed.setIfInBounds j true) (a.put oj.dst v) w')) : wpK P md ops C Q (fuel + 1) listed a w := by
  refine ⟨fun h => (by rw [hr] at h; cases h), fun k hk => ?_⟩
  rw [hr] at hk
  have : k = i ∨ k = j := by simpa using hk
  unfold okOp
  rcases this with rfl | rfl
  · simp only [hi, hwi, if_true]
    exact Hi
  · simp only [hj, hwj, if_true]
    exact Hj

theorem wpK_end {Q : Act → World → Prop} {listed : Array Bool} {a : Act} {w : World} (hr : Region.ready md ops listed = []) (H : Q a w) : wpK P md ops C Q 0 listed a w := ⟨hr, H⟩

theorem wp_region_K {id : Nat} {Q : Exit → Act → World → Prop} {a : Act} {w : World} (C : World → Prop) (hm : P.follows .mixedOrders = true)
    (h : wpK P .any ops C (fun a w => Q .normal a w) ops.size (Array.replicate ops.size false) a w.drew) : (Code.region id ops true).wp P Q a w :=
  wp_region_any hm (wpAny_of_K (fun _ _ h => h) _ _ _ _ h)

end
end Go.Proofs.YtlehlbgaboifoabGreatDoor
