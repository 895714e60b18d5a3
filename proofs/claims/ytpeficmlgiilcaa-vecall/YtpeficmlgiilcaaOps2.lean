/- More single operations over a frame that is a variable; guards. -/
import Derived.Test.YtpeficmlgiilcaaOps
import Derived.Test.YtpeficmlgiilcaaG
namespace Go.Proofs.Ytpeficmlgiilcaa
open Go.RowKit

theorem want {ops : Array Oper} {A : Act} {o : Oper} (j : Nat) (d : Tmp) {b : Bool} (ho : o.guard = some (j, b)) (hj : (ops[j]?).bind (·.dst) = some d) (h : sl A d = .bool b) : Region.wanted o (yielded ops A.tmps) = true := by
  have e : A.tmps[d]? = some (.bool b) := by
    unfold sl at h
    cases hx : A.tmps[d]? with
    | none => rw [hx] at h; cases h
    | some x => rw [hx] at h; simpa using h
  unfold Region.wanted yielded
  rw [ho]
  simp only [hj]
  simp [e]

theorem ex_pickF {A : Act} {o : Oper} (t u : Tmp) {v : Value} {w : World} (ho : o.op = .pick (.tmp t) (.const (.bool true)) (.tmp u)) (h : sl A t = .bool false) (h' : sl A u = v) : (execOp A.eval o).run Try.prog w = .ok (.value v) w := by
  obtain ⟨dst, op, ty, pos, after, guard⟩ := o
  simp only at ho
  subst ho h'
  simp [go_sem, h]
theorem ex_neq24 {A : Act} {o : Oper} (t u : Tmp) {p q : Int} {w : World} (ho : o.op = .binOp .neq 24 (.tmp t) (.tmp u) 24) (h : sl A t = .agg #[.int .i64 p, .int .i64 q]) (h' : sl A u = .agg #[.int .i64 p, .int .i64 q]) : (execOp A.eval o).run Try.prog w = .ok (.value (.bool false)) w := by
  obtain ⟨dst, op, ty, pos, after, guard⟩ := o
  simp only at ho
  subst ho
  have he := eq24
  simp [go_sem, h, h', he]
theorem ex_neq3 {A : Act} {o : Oper} (t u : Tmp) {p : Int} {w : World} (ho : o.op = .binOp .neq 3 (.tmp t) (.tmp u) 3) (h : sl A t = .int .i64 p) (h' : sl A u = .int .i64 p) : (execOp A.eval o).run Try.prog w = .ok (.value (.bool false)) w := by
  obtain ⟨dst, op, ty, pos, after, guard⟩ := o
  simp only at ho
  subst ho
  simp [go_sem, h, h']
theorem ex_neq4 {A : Act} {o : Oper} (t u : Tmp) {p : Bool} {w : World} (ho : o.op = .binOp .neq 4 (.tmp t) (.tmp u) 4) (h : sl A t = .bool p) (h' : sl A u = .bool p) : (execOp A.eval o).run Try.prog w = .ok (.value (.bool false)) w := by
  obtain ⟨dst, op, ty, pos, after, guard⟩ := o
  simp only at ho
  subst ho
  simp [go_sem, h, h']
theorem ok_call1 {A : Act} {o : Oper} (f : FuncId) (t : Tmp) {x : Value} {w : World} {K : Value → World → Prop} (ho : o.op = .call { callee := .value (.func f), args := #[.tmp t], argTypes := #[24] }) (h : sl A t = x)
    (hf : ∀ args w, (callFunc f args).run Try.prog w = .ok (.enter f args) w) (k : Calls Try.prog f #[x] w (fun e w'' => ∃ v, e = .returned v ∧ K v w'')) : okAt Try.prog o A w K := by
  obtain ⟨dst, op, ty, pos, after, guard⟩ := o
  simp only at ho
  subst ho
  have e : (execOp A.eval ⟨dst, .call { callee := .value (.func f), args := #[.tmp t], argTypes := #[24] }, ty, pos, after, guard⟩).run Try.prog w = .ok (.enter f #[x]) w := by
    simp [go_sem, h, hf]
  unfold okAt
  rw [e]
  exact k

theorem cf15 (args : Array Value) (w : World) : (callFunc 15 args).run Try.prog w = .ok (.enter 15 args) w := by kernel_rfl
theorem cf16 (args : Array Value) (w : World) : (callFunc 16 args).run Try.prog w = .ok (.enter 16 args) w := by kernel_rfl
theorem cf17 (args : Array Value) (w : World) : (callFunc 17 args).run Try.prog w = .ok (.enter 17 args) w := by kernel_rfl
theorem cf18 (args : Array Value) (w : World) : (callFunc 18 args).run Try.prog w = .ok (.enter 18 args) w := by kernel_rfl

theorem b15 (b : Bool) (x y u v : Int) (h : decide (x ≤ u ∧ y ≤ v) = b) (w : World) :
    Calls Try.prog 15 #[.agg #[.int .i64 x, .int .i64 y], .agg #[.int .i64 u, .int .i64 v]] w fun e w' => e = .returned (.bool b) ∧ Below w.heap.size w w' := by
  refine (c15 b x y u v h w).mono ?_
  rintro e w' ⟨he, hw⟩
  refine ⟨he, ?_⟩
  rw [hw]
  repeat (first | with_reducible exact Below.refl _ _ | with_reducible apply Below.drew | with_reducible refine Below.alloc ?_ (by simp <;> omega) _)
theorem b16 (b : Bool) (x y u v : Int) (h : decide (x ≤ u ∧ y ≤ v) = b) (w : World) :
    Calls Try.prog 16 #[.agg #[.int .i64 x, .int .i64 y], .agg #[.int .i64 u, .int .i64 v]] w fun e w' => e = .returned (.bool b) ∧ Below w.heap.size w w' := by
  refine (c16 b x y u v h w).mono ?_
  rintro e w' ⟨he, hw⟩
  refine ⟨he, ?_⟩
  rw [hw]
  repeat (first | with_reducible exact Below.refl _ _ | with_reducible apply Below.drew | with_reducible refine Below.alloc ?_ (by simp <;> omega) _)
theorem b17 (b : Bool) (x y : Int) (h : decide (0 ≤ x ∧ 0 ≤ y) = b) (w : World) :
    Calls Try.prog 17 #[.agg #[.int .i64 x, .int .i64 y]] w fun e w' => e = .returned (.bool b) ∧ Below w.heap.size w w' := by
  refine (c17 b x y h w).mono ?_
  rintro e w' ⟨he, hw⟩
  refine ⟨he, ?_⟩
  rw [hw]
  repeat (first | with_reducible exact Below.refl _ _ | with_reducible apply Below.drew | with_reducible refine Below.alloc ?_ (by simp <;> omega) _)
theorem b18 (b : Bool) (x y : Int) (h : decide (0 ≤ x ∧ 0 ≤ y) = b) (w : World) :
    Calls Try.prog 18 #[.agg #[.int .i64 x, .int .i64 y]] w fun e w' => e = .returned (.bool b) ∧ Below w.heap.size w w' := by
  refine (c18 b x y h w).mono ?_
  rintro e w' ⟨he, hw⟩
  refine ⟨he, ?_⟩
  rw [hw]
  repeat (first | with_reducible exact Below.refl _ _ | with_reducible apply Below.drew | with_reducible refine Below.alloc ?_ (by simp <;> omega) _)

end Go.Proofs.Ytpeficmlgiilcaa
