/- Single operations over a frame that is a variable: what they yield. -/
import Derived.Test.YtmldpihjndafaaaDoorOrd
import Derived.Test.YtmldpihjndafaaaDoorR
namespace Go.Proofs.YtmldpihjndafaaaDoor
open Go.RowKit

/-- What a slot holds. -/
abbrev sl (A : Act) (t : Tmp) : Value := A.tmps[t]?.getD undef

theorem put_size (a : Act) (d : Option Tmp) (v : Value) : (a.put d v).tmps.size = a.tmps.size := by
  cases d <;> simp [Act.put]
theorem sl_same {a A : Act} {d : Tmp} {v : Value} (h : A = a.put (some d) v) {n : Nat} (hs : a.tmps.size = n) (hd : d < n) : sl A d = v := by
  subst h hs
  simp [sl, Act.put, hd]
theorem sl_ne {a A : Act} {d k : Tmp} {v u : Value} (h : A = a.put (some d) v) (hd : d ≠ k) (hk : sl a k = u) : sl A k = u := by
  subst h hk
  simp [sl, Act.put, hd]
theorem size_of {a A : Act} {d : Option Tmp} {v : Value} (h : A = a.put d v) {n : Nat} (hs : a.tmps.size = n) : A.tmps.size = n := by
  subst h hs
  exact put_size _ _ _
theorem want {ops : Array Oper} {A : Act} {o : Oper} (j : Nat) (d : Tmp) {b : Bool} (ho : o.guard = some (j, b)) (hj : (ops[j]?).bind (·.dst) = some d) (h : sl A d = .bool b) : Region.wanted o (yielded ops A.tmps) = true := by
  have e : A.tmps[d]? = some (.bool b) := by
    unfold sl at h
    cases hx : A.tmps[d]? with
    | none => rw [hx] at h; cases h
    | some x => rw [hx] at h; simpa using h
  unfold Region.wanted yielded
  rw [ho]
  simp only [hj]
  simp [e]
theorem unwant {ops : Array Oper} {A : Act} {o : Oper} (j : Nat) (d : Tmp) {b : Bool} {v : Value} (ho : o.guard = some (j, b)) (hj : (ops[j]?).bind (·.dst) = some d) (h : sl A d = v) (hv : v ≠ .bool b) : Region.wanted o (yielded ops A.tmps) = false := by
  unfold Region.wanted yielded
  rw [ho]
  simp only [hj, Option.bind_some]
  unfold sl at h
  cases hx : A.tmps[d]? with
  | none => rfl
  | some x =>
    rw [hx] at h
    have h' : x = v := h
    subst h'
    cases x <;> simp
    next p => intro e; subst e; exact hv rfl
theorem Same.skips {P : Program} {ops : Array Oper} {C : World → Prop} {o : Oper} {a : Act} (hw : Region.wanted o (yielded ops a.tmps) = false) : Same P ops C o undef a := by
  rw [Same, if_neg (by rw [hw]; decide)]

end Go.Proofs.YtmldpihjndafaaaDoor
