/- Single operations over a frame that is a variable: what they yield. -/
import Derived.Test.YtgcicillmljglaaOrd
import Derived.Test.YtgcicillmljglaaS
namespace Go.Proofs.Ytgcicillmljglaa
open Go.RowKit

/-- What a slot holds. -/
abbrev sl (A : Act) (t : Tmp) : Value := A.tmps[t]?.getD undef

theorem put_size (a : Act) (d : Option Tmp) (v : Value) : (a.put d v).tmps.size = a.tmps.size := by
  cases d <;> simp [Act.put]
theorem sl_same {a A : Act} {d : Tmp} {v : Value} (h : A = a.put (some d) v) {n : Nat} (hs : a.tmps.size = n) (hd : d < n) : sl A d = v := by
  subst h hs
  simp [sl, Act.put, hd]
theorem sl_ne {a A : Act} {d k : Tmp} {v u : Value} (h : A = a.put (some d) v) (hd : d ≠ k) (hk : sl a k = u) : sl A k = u := by
  subst h hk
  simp [sl, Act.put, hd]
theorem size_of {a A : Act} {d : Option Tmp} {v : Value} (h : A = a.put d v) {n : Nat} (hs : a.tmps.size = n) : A.tmps.size = n := by
  subst h hs
  exact put_size _ _ _
theorem want {ops : Array Oper} {A : Act} {o : Oper} (j : Nat) (d : Tmp) {b : Bool} (ho : o.guard = some (j, b)) (hj : (ops[j]?).bind (·.dst) = some d) (h : sl A d = .bool b) : Region.wanted o (yielded ops A.tmps) = true := by
  have e : A.tmps[d]? = some (.bool b) := by
    unfold sl at h
    cases hx : A.tmps[d]? with
    | none => rw [hx] at h; cases h
    | some x => rw [hx] at h; simpa using h
  unfold Region.wanted yielded
  rw [ho]
  simp only [hj]
  simp [e]
theorem unwant {ops : Array Oper} {A : Act} {o : Oper} (j : Nat) (d : Tmp) {b : Bool} {v : Value} (ho : o.guard = some (j, b)) (hj : (ops[j]?).bind (·.dst) = some d) (h : sl A d = v) (hv : v ≠ .bool b) : Region.wanted o (yielded ops A.tmps) = false := by
  unfold Region.wanted yielded
  rw [ho]
  simp only [hj, Option.bind_some]
  unfold sl at h
  cases hx : A.tmps[d]? with
  | none => rfl
  | some x =>
    rw [hx] at h
    have h' : x = v := h
    subst h'
    cases x <;> simp
    next p => intro e; subst e; exact hv rfl
theorem Same.skips {P : Program} {ops : Array Oper} {C : World → Prop} {o : Oper} {a : Act} (hw : Region.wanted o (yielded ops a.tmps) = false) : Same P ops C o undef a := by
  rw [Same, if_neg (by rw [hw]; decide)]

theorem ex_move {A : Act} {o : Oper} (t : Tmp) {v : Value} {w : World} (ho : o.op = .move (.tmp t)) (h : sl A t = v) : (execOp A.eval o).run Try.prog w = .ok (.value v) w := by
  obtain ⟨dst, op, ty, pos, after, guard⟩ := o
  simp only at ho
  subst ho h
  simp [go_sem]
theorem ex_index {A : Act} {o : Oper} (t u : Tmp) {x : Addr} {N c k : Nat} {w : World} (ho : o.op = .indexAddr 24 (.tmp t) (.tmp u)) (h : sl A t = .slice (some x) N c) (h' : sl A u = .int .i64 k) (hk : k < N) :
    (execOp A.eval o).run Try.prog w = .ok (.value (.pointer (some (x.add k)))) w := by
  obtain ⟨dst, op, ty, pos, after, guard⟩ := o
  simp only at ho
  subst ho
  have h1 : (k : Int) < N := by omega
  simp [go_sem, h, h', h1]
theorem ex_load {A : Act} {o : Oper} (t : Tmp) {a : Addr} {s : ByteArray} {w : World} (ho : o.op = .load 9 (.tmp t)) (h : sl A t = .pointer (some a)) (c0 : w.cell? a = some (.string s)) : (execOp A.eval o).run Try.prog w = .ok (.value (.string s)) w := by
  obtain ⟨dst, op, ty, pos, after, guard⟩ := o
  simp only at ho
  subst ho
  simp [go_sem, h, c0]
theorem ex_not {A : Act} {o : Oper} (t : Tmp) {b : Bool} {w : World} (ho : o.op = .unOp .not 4 (.tmp t)) (h : sl A t = .bool b) : (execOp A.eval o).run Try.prog w = .ok (.value (.bool !b)) w := by
  obtain ⟨dst, op, ty, pos, after, guard⟩ := o
  simp only at ho
  subst ho
  simp [go_sem, h]
theorem ex_gtr {A : Act} {o : Oper} (t : Tmp) {k : Nat} {w : World} (ho : o.op = .binOp .gtr 3 (.tmp t) (.const (.int .i64 0)) 3) (h : sl A t = .int .i64 k) (hk : k = 0) : (execOp A.eval o).run Try.prog w = .ok (.value (.bool false)) w := by
  obtain ⟨dst, op, ty, pos, after, guard⟩ := o
  simp only at ho
  subst ho hk
  simp [go_sem, h]
theorem ex_pickT {A : Act} {o : Oper} (t u : Tmp) {w : World} (ho : o.op = .pick (.tmp t) (.const (.bool true)) (.tmp u)) (h : sl A t = .bool true) : (execOp A.eval o).run Try.prog w = .ok (.value (.bool true)) w := by
  obtain ⟨dst, op, ty, pos, after, guard⟩ := o
  simp only at ho
  subst ho
  simp [go_sem, h]
theorem ex_pickF {A : Act} {o : Oper} (t u : Tmp) {v : Value} {w : World} (ho : o.op = .pick (.tmp t) (.const (.bool true)) (.tmp u)) (h : sl A t = .bool false) (h' : sl A u = v) : (execOp A.eval o).run Try.prog w = .ok (.value v) w := by
  obtain ⟨dst, op, ty, pos, after, guard⟩ := o
  simp only at ho
  subst ho h'
  simp [go_sem, h]
theorem ex_pickC {A : Act} {o : Oper} (t u : Tmp) {w : World} (ho : o.op = .pick (.tmp t) (.tmp u) (.const (.bool false))) (h : sl A t = .bool false) : (execOp A.eval o).run Try.prog w = .ok (.value (.bool false)) w := by
  obtain ⟨dst, op, ty, pos, after, guard⟩ := o
  simp only at ho
  subst ho
  simp [go_sem, h]
theorem ok_call1 {A : Act} {o : Oper} (f : FuncId) (t : Tmp) {x : Value} {w : World} {K : Value → World → Prop} (ho : o.op = .call { callee := .value (.func f), args := #[.tmp t], argTypes := #[9] }) (h : sl A t = x)
    (hf : ∀ args w, (callFunc f args).run Try.prog w = .ok (.enter f args) w) (k : Calls Try.prog f #[x] w (fun e w'' => ∃ v, e = .returned v ∧ K v w'')) : okAt Try.prog o A w K := by
  obtain ⟨dst, op, ty, pos, after, guard⟩ := o
  simp only at ho
  subst ho
  have e : (execOp A.eval ⟨dst, .call { callee := .value (.func f), args := #[.tmp t], argTypes := #[9] }, ty, pos, after, guard⟩).run Try.prog w = .ok (.enter f #[x]) w := by
    simp [go_sem, h, hf]
  unfold okAt
  rw [e]
  exact k
theorem cf36 (args : Array Value) (w : World) : (callFunc 36 args).run Try.prog w = .ok (.enter 36 args) w := by kernel_rfl

end Go.Proofs.Ytgcicillmljglaa
