/- The tape: Write. -/
import Derived.Test.YtmldpihjndafaabDoorUI
namespace Go.Proofs.YtmldpihjndafaabDoor
open Go.RowKit
set_option linter.unusedSimpArgs false
set_option linter.unusedVariables false

theorem rowOf_snoc (A B : List ByteArray) (s : Bool) (x : ByteArray) : rowOf A B s ++ [TC.line x] = rowOf A (B ++ [x]) s := by simp [rowOf]

/-- A call of one argument, at a step of a region that draws its order. -/
theorem step_call1 {w : World} {ops : Array Oper} {o : Oper} {a : Act} {K : Act → World → Prop} {Q : Exit → Act → World → Prop} {E : Prop} (hgd : o.guard = none) (f : FuncId) (u : Tmp) (t : TypeId)
    (ho : o.op = .call { callee := .value (.func f), args := #[.tmp u], argTypes := #[t] }) (v : Value) (hs : a.tmps[u]?.getD undef = v) (hf : ∀ args w, (callFunc f args).run Tryd.prog w = .ok (.enter f args) w)
    (h : Calls Tryd.prog f #[v] w fun e w' => ∃ u, e = .returned u ∧ K (a.put o.dst u) w') :
    if Region.wanted o (yielded ops a.tmps) = true then Oper.wp Tryd.prog o a w K Q else E := by
  have hw : Region.wanted o (yielded ops a.tmps) = true := by simp [Region.wanted, hgd]
  rw [if_pos hw]
  obtain ⟨dst, op, ty, pos, after, guard⟩ := o
  simp only at ho
  subst ho
  have e : (execOp a.eval ⟨dst, .call { callee := .value (.func f), args := #[.tmp u], argTypes := #[t] }, ty, pos, after, guard⟩).run Tryd.prog w = .ok (.enter f #[v]) w := by
    simp [go_sem, hs, hf]
  unfold Oper.wp
  rw [e]
  simp only [Oper.upon]
  exact h.mono fun e w' ⟨u, he, hk⟩ => by subst he; exact hk

theorem cf_text (args : Array Value) (w : World) : (callFunc 16 args).run Tryd.prog w = .ok (.enter 16 args) w := by kernel_rfl

set_option maxRecDepth 100000 in
set_option maxHeartbeats 4000000 in
theorem write_any (w : World) (T : Nat) (v : Value) (A B : List ByteArray) (s : Bool) (x0 x1 x2 x3 x4 x5 x6 x7 x8 x9 : Value) (t : ByteArray) (h : IsTape w T v (rowOf A B s)) (hl : A.length + B.length < 999990)
    (kc : ∀ W, Below w.heap.size w W → Calls Tryd.prog 15 #[.agg #[x0, x1, x2, x3, x4, x5, x6, x7, x8, x9]] W fun e W' => e = .returned (.int .i64 0) ∧ Below W.heap.size W W')
    (kt : ∀ W, Below w.heap.size w W → Calls Tryd.prog 16 #[.agg #[x0, x1, x2, x3, x4, x5, x6, x7, x8, x9]] W fun e W' => e = .returned (.string t) ∧ Below W.heap.size W W') :
    Calls Tryd.prog 6 #[.pointer (some ⟨T, 0, none⟩), .agg #[x0, x1, x2, x3, x4, x5, x6, x7, x8, x9]] w fun e w' => e = .returned (.tuple #[]) ∧ ∃ v', IsTape w' T v' (rowOf A (B ++ [t]) s) ∧ KT T v w w' ∧ NewOr w v v' := by
  rw [← rowOf_snoc]
  have hlR : (rowOf A B s).length < 999999 := by rw [rowOf_len]; split <;> omega
  generalize rowOf A B s = R at *
  obtain ⟨a, c, rfl, _⟩ := h.cs
  have hX0 := h.box
  have hrow0 := h.row
  have hne := h.ne
  obtain ⟨len, hlen⟩ : ∃ len, R.length = len := ⟨_, rfl⟩
  rw [hlen] at hX0 hrow0 hne hlR ⊢
  have hlen' : Hid (R.length = len) := hlen
  clear h hlen hl
  have hb0 : Below w.heap.size w (w.alloc (.cells #[x0, x1, x2, x3, x4, x5, x6, x7, x8, x9] 35)) := up (Below.refl _ _) _
  have q := Box.new w #[x0, x1, x2, x3, x4, x5, x6, x7, x8, x9] 35 rfl
  obtain ⟨y0, y1, y2, y3, y4, y5, y6, y7, y8, y9⟩ := RecBox.cells q
  have kc0 := kc _ hb0
  clear kc
  go_enter Tryd.func6, Tryd.ntmps6
  go_upto_region 2 with (go_at_call 15; refine kc0.mono ?_; rintro e w2 ⟨rfl, hb2⟩)
  have q2 := q.later hb2
  have hbw : Below w.heap.size w w2 := fin hb2 hb0
  have hX2 := hX0.later hbw
  have hrow2 := own_later hrow0 hbw
  have hqn : w.heap.size ≠ T := by have := hX0.lt; omega
  obtain ⟨z0, z1, z2, z3, z4, z5, z6, z7, z8, z9⟩ := RecBox.cells q2
  have c0 : w2.drew.cell? ⟨T, 0, none⟩ = some (.slice a len c) := hX2.cell rfl
  have kt0 := kt w2.drew hbw.drew
  clear kt kc0 q y0 y1 y2 y3 y4 y5 y6 y7 y8 y9 hb2
  go_region_law (first
    | (refine step_call1 (by rfl) 16 _ _ (by rfl) _ (by rfl) cf_text (kt0.mono ?_); rintro e w3 ⟨rfl, hb3⟩; refine ⟨_, rfl, ?_⟩
       have hX3 := Box.later (w := w2.drew) hX2 hb3
       have hrow3 := own_later (w := w2.drew) hrow2 hb3
       have c3 : w3.cell? ⟨T, 0, none⟩ = some (.slice a len c) := hX3.cell rfl
       have c3a : ∀ o, (w3.alloc o).cell? ⟨T, 0, none⟩ = some (.slice a len c) := fun o => cell_alloc c3 o)
    | (refine step_append_any (by rfl) _ _ (by rfl) 0 (.slice a len c) len _ (by rfl) (hrow3.alloc _) ⟨_, 0, none⟩ (encC (.line t)) (by rfl) (cell_first _ _ _) rfl (by omega) (by omega) ?_
       intro v4 w4 ho4 hg4 hn4
       have hX4 := (hX3.up _).grown hg4 (fun e => hne e.symm)
       obtain ⟨a4, c4, rfl⟩ := slice_of_own ho4
       have f4 := hX4.frozen 0
       have d4 : w4.cell? ⟨T, 0, none⟩ = some (.slice a len c) := hX4.cell rfl))
  all_goals
    go_end0
    have hK3 : KT T (.slice a len c) w w3 := KT.of_below (fin hb3 hbw.drew)
    have hz := tape_put hK3 (NewOr.refl _ _) hX3 hne hX4 ho4 hlen'.out (by omega) hg4 hn4
    exact ⟨rfl, _, hz.1, hz.2.1, hz.2.2⟩

end Go.Proofs.YtmldpihjndafaabDoor
