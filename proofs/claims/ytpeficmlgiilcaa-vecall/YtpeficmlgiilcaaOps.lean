/- Single operations over a frame that is a variable: what they yield. -/
import Derived.Test.YtpeficmlgiilcaaOrd
import Derived.Test.YtpeficmlgiilcaaE
namespace Go.Proofs.Ytpeficmlgiilcaa
open Go.RowKit

/-- What a slot holds. -/
abbrev sl (A : Act) (t : Tmp) : Value := A.tmps[t]?.getD undef

theorem put_size (a : Act) (d : Option Tmp) (v : Value) : (a.put d v).tmps.size = a.tmps.size := by
  cases d <;> simp [Act.put]
theorem sl_same {a A : Act} {d : Tmp} {v : Value} (h : A = a.put (some d) v) {n : Nat} (hs : a.tmps.size = n) (hd : d < n) : sl A d = v := by
  subst h hs
  simp [sl, Act.put, hd]
theorem sl_ne {a A : Act} {d k : Tmp} {v u : Value} (h : A = a.put (some d) v) (hd : d ≠ k) (hk : sl a k = u) : sl A k = u := by
  subst h hk
  simp [sl, Act.put, hd]
theorem size_of {a A : Act} {d : Option Tmp} {v : Value} (h : A = a.put d v) {n : Nat} (hs : a.tmps.size = n) : A.tmps.size = n := by
  subst h hs
  exact put_size _ _ _
theorem def_of {a A : Act} {d : Option Tmp} {v : Value} (h : A = a.put d v) {l : List Deferred} (hs : a.defers = l) : A.defers = l := by
  subst h hs
  cases d <;> rfl
/-- A slot that is not among those that were written holds what it held. -/
theorem keep {a0 a A : Act} {d : Tmp} {v : Value} (h : A = a.put (some d) v) {D : List Tmp} (hk : ∀ t, t ∉ D → sl a t = sl a0 t) : ∀ t, t ∉ d :: D → sl A t = sl a0 t := by
  intro t ht
  simp only [List.mem_cons, not_or] at ht
  rw [sl_ne h (Ne.symm ht.1) rfl]
  exact hk t ht.2
theorem ev (A : Act) (t : Tmp) : A.eval (.tmp t) = sl A t := by
  simp [Act.eval, sl]
theorem ex_move {A : Act} {o : Oper} (t : Tmp) {v : Value} {w : World} (ho : o.op = .move (.tmp t)) (h : sl A t = v) : (execOp A.eval o).run Try.prog w = .ok (.value v) w := by
  obtain ⟨dst, op, ty, pos, after, guard⟩ := o
  simp only at ho
  subst ho h
  simp [go_sem]
theorem ex_assign {A : Act} {o : Oper} (t : Tmp) {v : Value} {w : World} (ho : o.op = .assign (.tmp t)) (h : sl A t = v) : (execOp A.eval o).run Try.prog w = .ok (.value v) w := by
  obtain ⟨dst, op, ty, pos, after, guard⟩ := o
  simp only at ho
  subst ho h
  simp [go_sem]
theorem ex_index {A : Act} {o : Oper} (t u : Tmp) {L : Nat} {i : Int} {w : World} (ho : o.op = .indexAddr 26 (.tmp t) (.tmp u)) (h : sl A t = .slice (some ⟨L, 0, none⟩) 5 5) (h' : sl A u = .int .i64 i) (hi : 0 ≤ i ∧ i < 5) :
    (execOp A.eval o).run Try.prog w = .ok (.value (.pointer (some ⟨L, i.toNat * 2, none⟩))) w := by
  obtain ⟨dst, op, ty, pos, after, guard⟩ := o
  simp only at ho
  subst ho
  simp [go_sem, h, h', hi]
theorem ex_load {A : Act} {o : Oper} (t : Tmp) {L n : Nat} {p q : Int} {w : World} (ho : o.op = .load 24 (.tmp t)) (h : sl A t = .pointer (some ⟨L, n, none⟩)) (c0 : w.cell? ⟨L, n, none⟩ = some (.int .i64 p)) (c1 : w.cell? ⟨L, n + 1, none⟩ = some (.int .i64 q)) :
    (execOp A.eval o).run Try.prog w = .ok (.value (.agg #[.int .i64 p, .int .i64 q])) w := by
  obtain ⟨dst, op, ty, pos, after, guard⟩ := o
  simp only at ho
  subst ho
  simp [go_sem, h, c0, c1]
theorem ex_ext0 {A : Act} {o : Oper} (t : Tmp) {x y : Value} {w : World} (ho : o.op = .extract (.tmp t) 0) (h : sl A t = .tuple #[x, y]) : (execOp A.eval o).run Try.prog w = .ok (.value x) w := by
  obtain ⟨dst, op, ty, pos, after, guard⟩ := o
  simp only at ho
  subst ho
  simp [go_sem, h]
theorem ex_ext1 {A : Act} {o : Oper} (t : Tmp) {x y : Value} {w : World} (ho : o.op = .extract (.tmp t) 1) (h : sl A t = .tuple #[x, y]) : (execOp A.eval o).run Try.prog w = .ok (.value y) w := by
  obtain ⟨dst, op, ty, pos, after, guard⟩ := o
  simp only at ho
  subst ho
  simp [go_sem, h]
theorem ok_alloc {A : Act} {o : Oper} {w : World} {K : Value → World → Prop} (ho : o.op = .alloc 24) (h : K (.pointer (some ⟨w.heap.size, 0, none⟩)) (w.alloc (V 0 0))) : okAt Try.prog o A w K := by
  obtain ⟨dst, op, ty, pos, after, guard⟩ := o
  simp only at ho
  subst ho
  have e : (execOp A.eval ⟨dst, .alloc 24, ty, pos, after, guard⟩).run Try.prog w = .ok (.value (.pointer (some ⟨w.heap.size, 0, none⟩))) (w.alloc (V 0 0)) := by simp [go_sem]
  unfold okAt
  rw [e]
  exact h
theorem ok_store {A : Act} {o : Oper} (t u : Tmp) {b : Nat} {r s p q : Int} {w : World} {K : Value → World → Prop} (ho : o.op = .store 24 (.tmp t) (.tmp u)) (h : sl A t = .pointer (some ⟨b, 0, none⟩)) (h' : sl A u = .agg #[.int .i64 r, .int .i64 s])
    (c0 : w.cell? ⟨b, 0, none⟩ = some (.int .i64 p)) (c1 : w.cell? ⟨b, 1, none⟩ = some (.int .i64 q)) (f0 : w.frozen? ⟨b, 0, none⟩ = false) (f1 : w.frozen? ⟨b, 1, none⟩ = false)
    (k : K undef ((w.setCell ⟨b, 0, none⟩ (.int .i64 r)).setCell ⟨b, 1, none⟩ (.int .i64 s))) : okAt Try.prog o A w K := by
  obtain ⟨dst, op, ty, pos, after, guard⟩ := o
  simp only at ho
  subst ho
  have e : (execOp A.eval ⟨dst, .store 24 (.tmp t) (.tmp u), ty, pos, after, guard⟩).run Try.prog w = .ok .skip ((w.setCell ⟨b, 0, none⟩ (.int .i64 r)).setCell ⟨b, 1, none⟩ (.int .i64 s)) := by
    simp [go_sem, h, h', c0, c1, f0, f1]
  unfold okAt
  rw [e]
  exact k
theorem ok_call2 {A : Act} {o : Oper} (f : FuncId) (t u : Tmp) {x y : Value} {w : World} {K : Value → World → Prop} (ho : o.op = .call { callee := .value (.func f), args := #[.tmp t, .tmp u], argTypes := #[24, 24] }) (h : sl A t = x) (h' : sl A u = y)
    (hf : ∀ args w, (callFunc f args).run Try.prog w = .ok (.enter f args) w) (k : Calls Try.prog f #[x, y] w (fun e w'' => ∃ v, e = .returned v ∧ K v w'')) : okAt Try.prog o A w K := by
  obtain ⟨dst, op, ty, pos, after, guard⟩ := o
  simp only at ho
  subst ho
  have e : (execOp A.eval ⟨dst, .call { callee := .value (.func f), args := #[.tmp t, .tmp u], argTypes := #[24, 24] }, ty, pos, after, guard⟩).run Try.prog w = .ok (.enter f #[x, y]) w := by
    simp [go_sem, h, h', hf]
  unfold okAt
  rw [e]
  exact k

theorem cf11 (args : Array Value) (w : World) : (callFunc 11 args).run Try.prog w = .ok (.enter 11 args) w := by kernel_rfl
theorem cf12 (args : Array Value) (w : World) : (callFunc 12 args).run Try.prog w = .ok (.enter 12 args) w := by kernel_rfl
theorem cf13 (args : Array Value) (w : World) : (callFunc 13 args).run Try.prog w = .ok (.enter 13 args) w := by kernel_rfl
theorem cf14 (args : Array Value) (w : World) : (callFunc 14 args).run Try.prog w = .ok (.enter 14 args) w := by kernel_rfl

end Go.Proofs.Ytpeficmlgiilcaa
