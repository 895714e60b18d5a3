/- Rows of a tape: append told with its block, the library's Delete; what a call on a tape leaves as it was. -/
import Derived.Test.YtmldpihjndafaabDoorUE
import Derived.Test.YtmldpihjndafaabDoorShD
import Derived.Lib.OwnBridge
namespace Go.Proofs.YtmldpihjndafaabDoor
open Go.RowKit
set_option linter.unusedSimpArgs false
set_option linter.unusedVariables false

theorem infoAny : (Tryd.prog.info? 20).map (fun i => (i.zero, i.size, i.bytes)) = some (some .nilIface, 1, 16) := by kernel_rfl

/-- The block of a row is the one that it was, or new. -/
def NewOr (w : World) (v v' : Value) : Prop := ∀ g, v'.ownBlock = some g → v.ownBlock = some g ∨ w.heap.size ≤ g

theorem NewOr.refl (w : World) (v : Value) : NewOr w v v := fun g h => .inl h
theorem NewOr.trans {w w1 : World} {v v1 v2 : Value} (h : NewOr w v v1) (hz : w.heap.size ≤ w1.heap.size) (h2 : NewOr w1 v1 v2) : NewOr w v v2 := fun g hg => by
  rcases h2 g hg with h3 | h3
  · exact h g h3
  · exact .inr (by omega)

theorem append_any (base : Nat) (v : Value) (n : Nat) (xs : List Value) (w : World) (hown : w.ownsRow base 20 1 v n xs) (a : Addr) (c : Nat) (u : Value) (hu : w.cell? a = some u) (h1 : u.oneCell' = true) (ty : TypeId) (hn : n ≤ 1000000) (hb : base ≤ w.heap.size) :
    ∃ v' w', (Builtin.append_ #[45, 45] ty #[v, .slice (some a) 1 1]).run Tryd.prog w = .ok v' w' ∧ w'.ownsRow base 20 1 v' (n + 1) (xs ++ [u]) ∧ w.grownBy w' v.ownBlock ∧ NewOr w v v' := by
  obtain ⟨i0, hi, hz0, hz1, hz2⟩ := info_parts infoAny
  have hnews : ∀ j x, [u][j]? = some x → w.cell? (a.add j) = some x := by
    intro j x hx
    cases j with
    | zero => simp at hx; subst hx; simpa [Addr.add] using hu
    | succ j => simp at hx
  have hone : ∀ x ∈ [u], x.oneCell' = true := by intro x hx; simp at hx; subst hx; exact h1
  have hrun := fun (B : Nat) (hB : w.ownsRow B 20 1 v n xs) (hBw : B ≤ w.heap.size) => run_append_own (P := Tryd.prog) (w := w) B 45 ty 20 i0 .nilIface 1 16 Tryd.underlying45 hi hz0 hz1 hz2 rfl (by decide) v n xs hB a 1 1 [u] rfl hnews hone (by unfold maxLen; omega) (by omega) hBw
  obtain ⟨v', w', hr, h2, h3, _⟩ := hrun base hown hb
  refine ⟨v', w', hr, h2, h3, ?_⟩
  intro g hg
  rcases hown.2 with ⟨rfl, rfl⟩ | ⟨g0, cap, cur, rfl, hbg, hh, hnc, hcm, hcs, htake⟩
  · obtain ⟨v2, w2, hr2, h4, _, _⟩ := hrun w.heap.size ⟨hown.1, .inl ⟨rfl, rfl⟩⟩ (Nat.le_refl _)
    rw [hr] at hr2
    injection hr2 with e1 e2
    subst e1
    exact .inr (h4.lt g hg).1
  · by_cases hroom : n + 1 ≤ cap
    · have hr2 := run_append_room (P := Tryd.prog) w 45 ty 20 i0 Tryd.underlying45 hi g0 n cap cur hh a 1 1 [u] (by simp [hz1]) hnews hone hroom (by simp [hz1, hcs]; omega)
      rw [hr] at hr2
      injection hr2 with e1 e2
      subst e1
      exact .inl hg
    · have hr2 := run_append_grow (P := Tryd.prog) w 45 ty 20 i0 .nilIface Tryd.underlying45 hi hz0 ⟨g0, 0, none⟩ n cap xs (by rw [hz1]; exact hown.1) (hown.cells (g := g0) rfl) a 1 1 [u] (by simp [hz1]) hnews (by omega) (by omega) (growslice_fits (by omega) (by rw [hz2]; omega))
      rw [hr] at hr2
      injection hr2 with e1 e2
      subst e1
      right
      simp [Value.ownBlock] at hg
      omega

theorem wpList_append_any {ops : Array Oper} {rest : List Oper} {o : Oper} {A : Act} {w : World} {Q : Exit → Act → World → Prop} (hgd : o.guard = none) (s x : Operand)
    (ho : o.op = .call { callee := .builtin .append, args := #[s, x], argTypes := #[45, 45] })
    (base : Nat) (v : Value) (n : Nat) (xs : List Value) (hs : A.eval s = v) (hown : w.ownsRow base 20 1 v n xs) (a : Addr) (u : Value) (hx : A.eval x = .slice (some a) 1 1) (hu : w.cell? a = some u) (h1 : u.oneCell' = true) (hn : n ≤ 1000000) (hb : base ≤ w.heap.size)
    (h : ∀ v' w', w'.ownsRow base 20 1 v' (n + 1) (xs ++ [u]) → w.grownBy w' v.ownBlock → NewOr w v v' → wpList Tryd.prog ops Q rest (A.put o.dst v') w') : wpList Tryd.prog ops Q (o :: rest) A w := by
  refine wpList_plain hgd fun K hK => ?_
  obtain ⟨v', w', hr, h2, h3, h4⟩ := append_any base v n xs w hown a 1 u hu h1 o.type hn hb
  unfold Oper.wp execOp
  simp only [ho, resolve, invoke, builtin, Sem.run_bind, Sem.run_pure, Result.andThen_ok, List.map_toArray, List.map_cons, List.map_nil, hs, hx, hr]
  exact hK _ _ (h v' w' h2 h3 h4)

theorem step_append_any {ops : Array Oper} {o : Oper} {A : Act} {w : World} {K : Act → World → Prop} {Q : Exit → Act → World → Prop} {E : Prop} (hgd : o.guard = none) (s x : Operand)
    (ho : o.op = .call { callee := .builtin .append, args := #[s, x], argTypes := #[45, 45] })
    (base : Nat) (v : Value) (n : Nat) (xs : List Value) (hs : A.eval s = v) (hown : w.ownsRow base 20 1 v n xs) (a : Addr) (u : Value) (hx : A.eval x = .slice (some a) 1 1) (hu : w.cell? a = some u) (h1 : u.oneCell' = true) (hn : n ≤ 1000000) (hb : base ≤ w.heap.size)
    (h : ∀ v' w', w'.ownsRow base 20 1 v' (n + 1) (xs ++ [u]) → w.grownBy w' v.ownBlock → NewOr w v v' → K (A.put o.dst v') w') :
    if Region.wanted o (yielded ops A.tmps) = true then Oper.wp Tryd.prog o A w K Q else E := by
  have hw : Region.wanted o (yielded ops A.tmps) = true := by simp [Region.wanted, hgd]
  rw [if_pos hw]
  obtain ⟨v', w', hr, h2, h3, h4⟩ := append_any base v n xs w hown a 1 u hu h1 o.type hn hb
  unfold Oper.wp execOp
  simp only [ho, resolve, invoke, builtin, Sem.run_bind, Sem.run_pure, Result.andThen_ok, List.map_toArray, List.map_cons, List.map_nil, hs, hx, hr]
  exact h v' w' h2 h3 h4

set_option maxRecDepth 100000 in
theorem delete_nil (w : World) : Calls Tryd.prog 34 #[.slice none 0 0, .int .i64 0, .int .i64 0] w fun e w' => e = .returned (.slice none 0 0) ∧ w' = w := by
  go_enter Tryd.func34, Tryd.ntmps34
  go_wp2
  all_goals (go_ret; exact ⟨rfl, rfl⟩)

theorem grown_putRow (w : World) (g q : Nat) (d : Array TC) : w.grownBy (Sort.putRow encC (Sort.ahead w q) g 0 d) (some g) :=
  ⟨rfl, rfl, rfl, by simp [Sort.putRow, Sort.mapBlock, Sort.ahead], fun k _ hk => by
    have : g ≠ k := fun e => hk (by rw [e])
    simp [Sort.putRow, Sort.mapBlock, Sort.ahead, Array.getElem?_modify, this]⟩

theorem delete_own (base : Nat) (v : Value) (r : List TC) (i j : Nat) (w : World) (hown : w.ownsRow base 20 1 v r.length (r.map encC)) (hij : i ≤ j) (hj : j ≤ r.length) (hl : r.length ≤ 1000000) :
    Calls Tryd.prog 34 #[v, .int .i64 i, .int .i64 j] w fun e w' => ∃ v', e = .returned v' ∧ w'.ownsRow base 20 1 v' (r.take i ++ r.drop j).length ((r.take i ++ r.drop j).map encC) ∧ v'.ownBlock = v.ownBlock ∧ w.grownBy w' v.ownBlock := by
  rcases hown.2 with ⟨rfl, h0⟩ | ⟨g, cap, cur, rfl, hbg, hh, hnc, hcm, hcs, htake⟩
  · have hr : r = [] := List.length_eq_zero_iff.1 h0
    subst hr
    have hj0 : j = 0 := by simpa using hj
    subst hj0
    have hi0 : i = 0 := by omega
    subst hi0
    refine (delete_nil w).mono ?_
    rintro e w' ⟨rfl, rfl⟩
    exact ⟨_, rfl, by simp [World.ownsRow], rfl, World.grownBy.refl _ _⟩
  · obtain ⟨i0, hi, hz0, hz1, hz2⟩ := info_parts infoAny
    obtain ⟨g', cap', e0, _, _, hn', hc', hlr, hH⟩ := Lib.holds_of_ownsRow (enc := encC) hown (by simp)
    simp only [Value.slice.injEq, Option.some.injEq, Addr.mk.injEq, and_true, true_and] at e0
    obtain ⟨rfl, rfl⟩ := e0
    have hk := AnyE.slices_Delete Tryd.deleteA encC enc_one .nul Tryd.zeroValue20 i0 hi hz1 g 0 cap i j r.toArray w hH (by simpa using hnc) (by unfold maxLen at hcm; omega) hij (by simpa using hj)
    rw [List.size_toArray] at hk
    refine Calls.mono hk ?_
    rintro e w' ⟨rfl, q, rfl⟩
    have hy : (r.take i ++ r.drop j ++ List.replicate (j - i) TC.nul).length = r.length := by simp; omega
    have ho := Lib.ownsRow_putRow (enc := encC) (q := q) (k := r.length - (j - i)) hown hy (by omega)
    have hlen : (r.take i ++ r.drop j).length = r.length - (j - i) := by simp; omega
    refine ⟨_, rfl, ?_, rfl, grown_putRow _ _ _ _⟩
    rw [hlen]
    rw [List.take_left' hlen] at ho
    exact ho

/-- What a call on the tape in block T, its row v, leaves: all else. -/
structure KT (T : Nat) (v : Value) (w w' : World) : Prop where
  os : w'.os = w.os
  tape : w'.tape = w.tape
  output : w'.output = w.output
  size : w.heap.size ≤ w'.heap.size
  block : ∀ k, k < w.heap.size → k ≠ T → v.ownBlock ≠ some k → w'.heap[k]? = w.heap[k]?

theorem KT.refl (T : Nat) (v : Value) (w : World) : KT T v w w := ⟨rfl, rfl, rfl, Nat.le_refl _, fun _ _ _ _ => rfl⟩
theorem KT.trans {T : Nat} {v v1 : Value} {w w1 w2 : World} (h : KT T v w w1) (hn : NewOr w v v1) (h2 : KT T v1 w1 w2) : KT T v w w2 :=
  ⟨h2.os.trans h.os, h2.tape.trans h.tape, h2.output.trans h.output, Nat.le_trans h.size h2.size, fun k hk hT hv => by
    rw [h2.block k (Nat.lt_of_lt_of_le hk h.size) hT (fun e => by
      rcases hn k e with h3 | h3
      · exact hv h3
      · omega), h.block k hk hT hv]⟩
theorem KT.of_below {T : Nat} {v : Value} {w w' : World} (h : Below w.heap.size w w') : KT T v w w' := ⟨h.os, h.tape, h.output, h.size, fun k hk _ _ => h.block k hk⟩
theorem KT.of_grown {T : Nat} {v : Value} {w w' : World} (h : w.grownBy w' v.ownBlock) : KT T v w w' := ⟨h.os, h.tape, h.output, h.size, fun k hk _ hv => h.block k hk (fun e => hv e.symm)⟩
theorem KT.set (T : Nat) (v : Value) (w : World) (i : Nat) (x : Value) : KT T v w (w.setCell ⟨T, i, none⟩ x) :=
  ⟨rfl, rfl, rfl, by simp [World.setCell], fun k _ hk _ => Below.heap_setCell _ _ _ _ (fun e => hk (by simp [e]))⟩
theorem KT.below {T B : Nat} {v : Value} {w w' : World} (h : KT T v w w') (hT : B ≤ T) (hv : ∀ g, v.ownBlock = some g → B ≤ g) (hB : B ≤ w.heap.size) : Below B w w' :=
  ⟨h.os, h.tape, h.output, h.size, fun k hk => h.block k (by omega) (by omega) (fun e => by have := hv k e; omega)⟩
theorem KT.box {T B : Nat} {v : Value} {w w' : World} {cs : Array Value} {t : TypeId} (h : KT T v w w') (hb : Box w B cs t) (hT : B ≠ T) (hv : v.ownBlock ≠ some B) : Box w' B cs t := by
  unfold Box at hb ⊢
  rw [h.block B (Box.lt hb) hT hv, hb]

/-- A tape in block T with this row. -/
structure IsTape (w : World) (T : Nat) (v : Value) (r : List TC) : Prop where
  box : Box w T #[v] 47
  row : w.ownsRow 0 20 1 v r.length (r.map encC)
  ne : v.ownBlock ≠ some T
  len : r.length ≤ 1000000

theorem own_later {w w' : World} {base : Nat} {t : TypeId} {z : Nat} {v : Value} {n : Nat} {xs : List Value} (h : w.ownsRow base t z v n xs) (hb : Below w.heap.size w w') : w'.ownsRow base t z v n xs :=
  own_grown (q := none) h (below_grown hb none) (fun g hg => by simp)

theorem IsTape.later {w w' : World} {T : Nat} {v : Value} {r : List TC} (h : IsTape w T v r) (hb : Below w.heap.size w w') : IsTape w' T v r :=
  ⟨h.box.later hb, own_later h.row hb, h.ne, h.len⟩

theorem IsTape.cs {w : World} {T : Nat} {v : Value} {r : List TC} (h : IsTape w T v r) : ∃ a c, v = .slice a r.length c ∧ Cs w a r := by
  obtain ⟨a, c, hv⟩ := slice_of_own h.row
  refine ⟨a, c, hv, h.len, fun i hi => ?_⟩
  rcases h.row.2 with ⟨h0, h1⟩ | ⟨g, cap, cur, h0, _⟩
  · omega
  · rw [hv] at h0
    injection h0 with e1 e2 e3
    refine ⟨⟨g, 0, none⟩, e1, ?_⟩
    exact h.row.cells (g := g) (by rw [hv, e1]; rfl) i _ (by simp [List.getD, List.getElem?_eq_getElem hi])

end Go.Proofs.YtmldpihjndafaabDoor
