/- Rows of the call's own, of texts and of numbers, side by side; appending to one in a region that draws its order. -/
import Derived.Test.YtmkbllkfipcghabRY
import Derived.Test.YtmkbllkfipcghabBE
import Derived.Maps.AppendAt
import Derived.Laws.IdiomStrings
import Derived.Deep.DeepCutAuto
namespace Go.Proofs.Ytmkbllkfipcghab
open Go.RowKit Go.Maps

theorem info9 : (Try.prog.info? 9).map (fun i => (i.zero, i.size, i.bytes)) = some (some (.string ⟨#[]⟩), 1, 16) := by kernel_rfl
theorem info3 : (Try.prog.info? 3).map (fun i => (i.zero, i.size, i.bytes)) = some (some (.int .i64 0), 1, 8) := by kernel_rfl

section
variable {w w' : World} {base : Nat} {e : TypeId} {size : Nat} {v : Value} {n : Nat} {xs : List Value}

theorem own_keep (h : w.ownsRow base e size v n xs) (hb : Below w.heap.size w w') : w'.ownsRow base e size v n xs := by
  refine ⟨h.1, ?_⟩
  rcases h.2 with h2 | ⟨g, cap, cur, hv, hg, hh, hrest⟩
  · exact .inl h2
  · refine .inr ⟨g, cap, cur, hv, hg, ?_, hrest⟩
    rw [← hh]
    exact hb.block g (Array.getElem?_eq_some_iff.1 hh).1

/-- A row of another type than the one that is appended to stays. -/
theorem own_beside {e2 : TypeId} {size2 n2 : Nat} {v2 : Value} {xs2 : List Value} {base2 : Nat} (h : w.ownsRow base e size v n xs) (h2 : w.ownsRow base2 e2 size2 v2 n2 xs2) (hne : e ≠ e2) (hg : w.grownBy w' v2.ownBlock) : w'.ownsRow base e size v n xs := by
  refine ⟨h.1, ?_⟩
  rcases h.2 with h0 | ⟨g, cap, cur, hv, hgb, hh, hrest⟩
  · exact .inl h0
  · refine .inr ⟨g, cap, cur, hv, hgb, ?_, hrest⟩
    rw [← hh]
    refine hg.block g (Array.getElem?_eq_some_iff.1 hh).1 fun heq => ?_
    rcases h2.2 with ⟨h0, _⟩ | ⟨g2, cap2, cur2, hv2, _, hh2, _⟩
    · rw [h0] at heq
      cases heq
    · rw [hv2] at heq
      simp only [Value.ownBlock, Option.some.injEq] at heq
      rw [heq, hh2] at hh
      simp only [Option.some.injEq, Obj.cells.injEq] at hh
      exact hne hh.2.1.symm

theorem own_lt (h : w.ownsRow base e size v n xs) : ∀ j, v.ownBlock = some j → base ≤ j := fun j hj => (h.lt j hj).1
theorem own_box {B : Nat} {cs : Array Value} {t : TypeId} (hB : Box w B cs t) (h : w.ownsRow base e size v n xs) (hlt : B < base) (hg : w.grownBy w' v.ownBlock) : Box w' B cs t :=
  hB.grown hg (fun heq => by have := own_lt h B heq.symm; omega)
theorem slice_of_own (h : w.ownsRow base e size v n xs) : ∃ a c, v = .slice a n c := by
  rcases h.2 with ⟨rfl, h0⟩ | ⟨g, cap, cur, rfl, _⟩
  · exact ⟨none, 0, by rw [h0]⟩
  · exact ⟨_, _, rfl⟩
end

theorem strs_own {w : World} {base n : Nat} {a : Option Addr} {c : Nat} {ss : List ByteArray} (h : w.ownsRow base 9 1 (.slice a n c) n (ss.map Value.string)) (hl : n ≤ 1000) : Strs w a ss ∧ ss.length = n := by
  have hn : ss.length = n := by have := h.1; simpa using this
  refine ⟨⟨by omega, fun i hi => ?_⟩, hn⟩
  rcases h.2 with ⟨_, h0⟩ | ⟨g, cap, cur, hv, hb, hh, hncap, hrest⟩
  · omega
  · cases hv
    refine ⟨_, rfl, h.cells (g := g) rfl i _ ?_⟩
    simp [List.getElem?_eq_getElem hi]
theorem ints_own {w : World} {base n : Nat} {a : Option Addr} {c : Nat} {zs : List Int} (h : w.ownsRow base 3 1 (.slice a n c) n (zs.map (Value.int .i64))) (hl : n ≤ maxLen) : HasRow w a n zs ∧ zs.length = n := by
  have hn : zs.length = n := by have := h.1; simpa using this
  refine ⟨⟨hl, fun i hi => ?_⟩, hn⟩
  rcases h.2 with ⟨_, h0⟩ | ⟨g, cap, cur, hv, hb, hh, hncap, hrest⟩
  · omega
  · cases hv
    refine ⟨_, rfl, h.cells (g := g) rfl i _ ?_⟩
    simp [List.getElem?_eq_getElem (show i < zs.length by omega)]

section
variable {o : Oper} {b : Act} {w : World} {ops : Array Oper} {i : Nat} {d : Tmp} {R : World → Prop} {S : Nat → World → World → Prop} {F : Nat → Value → World → Prop}
theorem okY_val {P : Program} {v : Value} {w1 w2 : World} (ho : ops[i]? = some o) (hd : o.dst = some d) (hw : Region.wanted o (yielded ops b.tmps) = true)
    (hrun : (execOp b.eval o).run P w1 = .ok (.value v) w2) (hR : R w2) (hS : S i w1 w2) (hF : F i v w2) : okOp P ops i (fun b' w2 => ∃ v, b' = b.put o.dst v ∧ (o.dst = none → v = undef) ∧ R w2 ∧ S i w1 w2 ∧ F i v w2) b w1 :=
  okZ_val (S := S i) ho hd hw hrun hR hS hF
theorem okY_enter {P : Program} {f : FuncId} {args : Array Value} {w1 : World} (ho : ops[i]? = some o) (hd : o.dst = some d) (hw : Region.wanted o (yielded ops b.tmps) = true)
    (hrun : (execOp b.eval o).run P w1 = .ok (.enter f args) w1) (hc : Calls P f args w1 (fun e w2 => ∃ v, e = .returned v ∧ R w2 ∧ S i w1 w2 ∧ F i v w2)) : okOp P ops i (fun b' w2 => ∃ v, b' = b.put o.dst v ∧ (o.dst = none → v = undef) ∧ R w2 ∧ S i w1 w2 ∧ F i v w2) b w1 :=
  okZ_enter (S := S i) ho hd hw hrun hc
/-- One more text. -/
theorem okY_text {w1 : World} (ho : ops[i]? = some o) (hd : o.dst = some d) (hgd : o.guard = none) (s x : Operand)
    (hop : o.op = .call { callee := .builtin .append, args := #[s, x], argTypes := #[32, 32] })
    (base : Nat) (v : Value) (n : Nat) (xs : List ByteArray) (hs : b.eval s = v) (hown : w1.ownsRow base 9 1 v n (xs.map Value.string)) (D : Nat) (t : ByteArray) (hx : b.eval x = .slice (some ⟨D, 0, none⟩) 1 1) (hc : w1.cell? ⟨D, 0, none⟩ = some (.string t))
    (hn : n ≤ 1000) (hbase : base ≤ w1.heap.size)
    (h : ∀ v' w2, w2.ownsRow base 9 1 v' (n + 1) ((xs ++ [t]).map Value.string) → w1.grownBy w2 v.ownBlock → R w2 ∧ S i w1 w2 ∧ F i v' w2) :
    okOp Try.prog ops i (fun b' w2 => ∃ v, b' = b.put o.dst v ∧ (o.dst = none → v = undef) ∧ R w2 ∧ S i w1 w2 ∧ F i v w2) b w1 := by
  obtain ⟨i0, hi, hz0, hz1, hz2⟩ := info_parts info9
  obtain ⟨v', w2, hr, h2, h3, h4, h5⟩ := run_append_own_at (P := Try.prog) w1 base 32 o.type 9 i0 (.string ⟨#[]⟩) 1 16 Try.underlying32 hi hz0 hz1 hz2 rfl (by decide) v n (xs.map Value.string) hown ⟨D, 0, none⟩ 1 1 [.string t] rfl (fun j u hu => by
    rcases j with _ | j
    · simp at hu; subst hu; simpa [Addr.add] using hc
    · simp at hu) (by intro u hu; simp only [List.mem_singleton] at hu; subst hu; rfl) (by unfold maxLen; omega) (by omega) hbase
  refine okY_val ho hd (want_none hgd b) ?_ (h v' w2 (by simpa using h2) h3).1 (h v' w2 (by simpa using h2) h3).2.1 (h v' w2 (by simpa using h2) h3).2.2
  unfold execOp
  simp only [hop, resolve, invoke, builtin, Sem.run_bind, Sem.run_pure, Result.andThen_ok, List.map_toArray, List.map_cons, List.map_nil, hs, hx, hr]
/-- One more number. -/
theorem okY_num {w1 : World} (ho : ops[i]? = some o) (hd : o.dst = some d) (hgd : o.guard = none) (s x : Operand)
    (hop : o.op = .call { callee := .builtin .append, args := #[s, x], argTypes := #[31, 31] })
    (base : Nat) (v : Value) (n : Nat) (xs : List Int) (hs : b.eval s = v) (hown : w1.ownsRow base 3 1 v n (xs.map (Value.int .i64))) (D : Nat) (t : Int) (hx : b.eval x = .slice (some ⟨D, 0, none⟩) 1 1) (hc : w1.cell? ⟨D, 0, none⟩ = some (.int .i64 t))
    (hn : n ≤ 1000) (hbase : base ≤ w1.heap.size)
    (h : ∀ v' w2, w2.ownsRow base 3 1 v' (n + 1) ((xs ++ [t]).map (Value.int .i64)) → w1.grownBy w2 v.ownBlock → R w2 ∧ S i w1 w2 ∧ F i v' w2) :
    okOp Try.prog ops i (fun b' w2 => ∃ v, b' = b.put o.dst v ∧ (o.dst = none → v = undef) ∧ R w2 ∧ S i w1 w2 ∧ F i v w2) b w1 := by
  obtain ⟨i0, hi, hz0, hz1, hz2⟩ := info_parts info3
  obtain ⟨v', w2, hr, h2, h3, h4, h5⟩ := run_append_own_at (P := Try.prog) w1 base 31 o.type 3 i0 (.int .i64 0) 1 8 Try.underlying31 hi hz0 hz1 hz2 rfl (by decide) v n (xs.map (Value.int .i64)) hown ⟨D, 0, none⟩ 1 1 [.int .i64 t] rfl (fun j u hu => by
    rcases j with _ | j
    · simp at hu; subst hu; simpa [Addr.add] using hc
    · simp at hu) (by intro u hu; simp only [List.mem_singleton] at hu; subst hu; rfl) (by unfold maxLen; omega) (by omega) hbase
  refine okY_val ho hd (want_none hgd b) ?_ (h v' w2 (by simpa using h2) h3).1 (h v' w2 (by simpa using h2) h3).2.1 (h v' w2 (by simpa using h2) h3).2.2
  unfold execOp
  simp only [hop, resolve, invoke, builtin, Sem.run_bind, Sem.run_pure, Result.andThen_ok, List.map_toArray, List.map_cons, List.map_nil, hs, hx, hr]
end

end Go.Proofs.Ytmkbllkfipcghab
