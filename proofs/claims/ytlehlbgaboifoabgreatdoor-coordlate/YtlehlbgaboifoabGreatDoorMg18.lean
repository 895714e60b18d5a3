/- Rows of a tape: append told with its block, the library's Delete; what a call on a tape leaves as it was. -/
import Derived.Test.YtlehlbgaboifoabGreatDoorMg16
import Derived.Test.YtlehlbgaboifoabGreatDoorMg17
import Derived.Lib.OwnBridge
import Derived.Deep.RegionHeld3
namespace Go.Proofs.YtlehlbgaboifoabGreatDoor
open Go.RowKit
set_option linter.unusedSimpArgs false
set_option linter.unusedVariables false

theorem infoAny : (Tryz.prog.info? 20).map (fun i => (i.zero, i.size, i.bytes)) = some (some .nilIface, 1, 16) := by kernel_rfl

/-- The block of a row is the one that it was, or new. -/
def NewOr (w : World) (v v' : Value) : Prop := ∀ g, v'.ownBlock = some g → v.ownBlock = some g ∨ w.heap.size ≤ g

theorem NewOr.refl (w : World) (v : Value) : NewOr w v v := fun g h => .inl h
theorem NewOr.trans {w w1 : World} {v v1 v2 : Value} (h : NewOr w v v1) (hz : w.heap.size ≤ w1.heap.size) (h2 : NewOr w1 v1 v2) : NewOr w v v2 := fun g hg => by
  rcases h2 g hg with h3 | h3
  · exact h g h3
  · exact .inr (by omega)

theorem append_any (base : Nat) (v : Value) (n : Nat) (xs : List Value) (w : World) (hown : w.ownsRow base 20 1 v n xs) (a : Addr) (c : Nat) (u : Value) (hu : w.cell? a = some u) (h1 : u.oneCell' = true) (ty : TypeId) (hn : n ≤ 1000000) (hb : base ≤ w.heap.size) :
    ∃ v' w', (Builtin.append_ #[109, 109] ty #[v, .slice (some a) 1 1]).run Tryz.prog w = .ok v' w' ∧ w'.ownsRow base 20 1 v' (n + 1) (xs ++ [u]) ∧ w.grownBy w' v.ownBlock ∧ NewOr w v v' := by
  obtain ⟨i0, hi, hz0, hz1, hz2⟩ := info_parts infoAny
  have hnews : ∀ j x, [u][j]? = some x → w.cell? (a.add j) = some x := by
    intro j x hx
    cases j with
    | zero => simp at hx; subst hx; simpa [Addr.add] using hu
    | succ j => simp at hx
  have hone : ∀ x ∈ [u], x.oneCell' = true := by intro x hx; simp at hx; subst hx; exact h1
  have hrun := fun (B : Nat) (hB : w.ownsRow B 20 1 v n xs) (hBw : B ≤ w.heap.size) => run_append_own (P := Tryz.prog) (w := w) B 109 ty 20 i0 .nilIface 1 16 Tryz.underlying109 hi hz0 hz1 hz2 rfl (by decide) v n xs hB a 1 1 [u] rfl hnews hone (by unfold maxLen; omega) (by omega) hBw
  obtain ⟨v', w', hr, h2, h3, _⟩ := hrun base hown hb
  refine ⟨v', w', hr, h2, h3, ?_⟩
  intro g hg
  rcases hown.2 with ⟨rfl, rfl⟩ | ⟨g0, cap, cur, rfl, hbg, hh, hnc, hcm, hcs, htake⟩
  · obtain ⟨v2, w2, hr2, h4, _, _⟩ := hrun w.heap.size ⟨hown.1, .inl ⟨rfl, rfl⟩⟩ (Nat.le_refl _)
    rw [hr] at hr2
    injection hr2 with e1 e2
    subst e1
    exact .inr (h4.lt g hg).1
  · by_cases hroom : n + 1 ≤ cap
    · have hr2 := run_append_room (P := Tryz.prog) w 109 ty 20 i0 Tryz.underlying109 hi g0 n cap cur hh a 1 1 [u] (by simp [hz1]) hnews hone hroom (by simp [hz1, hcs]; omega)
      rw [hr] at hr2
      injection hr2 with e1 e2
      subst e1
      exact .inl hg
    · have hr2 := run_append_grow (P := Tryz.prog) w 109 ty 20 i0 .nilIface Tryz.underlying109 hi hz0 ⟨g0, 0, none⟩ n cap xs (by rw [hz1]; exact hown.1) (hown.cells (g := g0) rfl) a 1 1 [u] (by simp [hz1]) hnews (by omega) (by omega) (growslice_fits (by omega) (by rw [hz2]; omega))
      rw [hr] at hr2
      injection hr2 with e1 e2
      subst e1
      right
      simp [Value.ownBlock] at hg
      omega

theorem wpList_append_any {ops : Array Oper} {rest : List Oper} {o : Oper} {A : Act} {w : World} {Q : Exit → Act → World → Prop} (hgd : o.guard = none) (s x : Operand)
    (ho : o.op = .call { callee := .builtin .append, args := #[s, x], argTypes := #[109, 109] })
    (base : Nat) (v : Value) (n : Nat) (xs : List Value) (hs : A.eval s = v) (hown : w.ownsRow base 20 1 v n xs) (a : Addr) (u : Value) (hx : A.eval x = .slice (some a) 1 1) (hu : w.cell? a = some u) (h1 : u.oneCell' = true) (hn : n ≤ 1000000) (hb : base ≤ w.heap.size)
    (h : ∀ v' w', w'.ownsRow base 20 1 v' (n + 1) (xs ++ [u]) → w.grownBy w' v.ownBlock → NewOr w v v' → wpList Tryz.prog ops Q rest (A.put o.dst v') w') : wpList Tryz.prog ops Q (o :: rest) A w := by
  refine wpList_plain hgd fun K hK => ?_
  obtain ⟨v', w', hr, h2, h3, h4⟩ := append_any base v n xs w hown a 1 u hu h1 o.type hn hb
  unfold Oper.wp execOp
  simp only [ho, resolve, invoke, builtin, Sem.run_bind, Sem.run_pure, Result.andThen_ok, List.map_toArray, List.map_cons, List.map_nil, hs, hx, hr]
  exact hK _ _ (h v' w' h2 h3 h4)

theorem step_append_any {ops : Array Oper} {o : Oper} {A : Act} {w : World} {K : Act → World → Prop} {Q : Exit → Act → World → Prop} {E : Prop} (hgd : o.guard = none) (s x : Operand)
    (ho : o.op = .call { callee := .builtin .append, args := #[s, x], argTypes := #[109, 109] })
    (base : Nat) (v : Value) (n : Nat) (xs : List Value) (hs : A.eval s = v) (hown : w.ownsRow base 20 1 v n xs) (a : Addr) (u : Value) (hx : A.eval x = .slice (some a) 1 1) (hu : w.cell? a = some u) (h1 : u.oneCell' = true) (hn : n ≤ 1000000) (hb : base ≤ w.heap.size)
    (h : ∀ v' w', w'.ownsRow base 20 1 v' (n + 1) (xs ++ [u]) → w.grownBy w' v.ownBlock → NewOr w v v' → K (A.put o.dst v') w') :
    if Region.wanted o (yielded ops A.tmps) = true then Oper.wp Tryz.prog o A w K Q else E := by
  have hw : Region.wanted o (yielded ops A.tmps) = true := by simp [Region.wanted, hgd]
  rw [if_pos hw]
  obtain ⟨v', w', hr, h2, h3, h4⟩ := append_any base v n xs w hown a 1 u hu h1 o.type hn hb
  unfold Oper.wp execOp
  simp only [ho, resolve, invoke, builtin, Sem.run_bind, Sem.run_pure, Result.andThen_ok, List.map_toArray, List.map_cons, List.map_nil, hs, hx, hr]
  exact h v' w' h2 h3 h4

set_option maxRecDepth 100000 in
theorem delete_nil (w : World) : Calls Tryz.prog 128 #[.slice none 0 0, .int .i64 0, .int .i64 0] w fun e w' => e = .returned (.slice none 0 0) ∧ w' = w := by
  go_enter Tryz.func128, Tryz.ntmps128
  go_wp2
  all_goals (go_ret; exact ⟨rfl, rfl⟩)

theorem grown_putRow (w : World) (g q : Nat) (d : Array TC) : w.grownBy (Sort.putRow encC (Sort.ahead w q) g 0 d) (some g) :=
  ⟨rfl, rfl, rfl, by simp [Sort.putRow, Sort.mapBlock, Sort.ahead], fun k _ hk => by
    have : g ≠ k := fun e => hk (by rw [e])
    simp [Sort.putRow, Sort.mapBlock, Sort.ahead, Array.getElem?_modify, this]⟩

theorem delete_own (base : Nat) (v : Value) (r : List TC) (i j : Nat) (w : World) (hown : w.ownsRow base 20 1 v r.length (r.map encC)) (hij : i ≤ j) (hj : j ≤ r.length) (hl : r.length ≤ 1000000) :
    Calls Tryz.prog 128 #[v, .int .i64 i, .int .i64 j] w fun e w' => ∃ v', e = .returned v' ∧ w'.ownsRow base 20 1 v' (r.take i ++ r.drop j).length ((r.take i ++ r.drop j).map encC) ∧ v'.ownBlock = v.ownBlock ∧ w.grownBy w' v.ownBlock := by
  rcases hown.2 with ⟨rfl, h0⟩ | ⟨g, cap, cur, rfl, hbg, hh, hnc, hcm, hcs, htake⟩
  · have hr : r = [] := List.length_eq_zero_iff.1 h0
    subst hr
    have hj0 : j = 0 := by simpa using hj
    subst hj0
    have hi0 : i = 0 := by omega
    subst hi0
    refine (delete_nil w).mono ?_
    rintro e w' ⟨rfl, rfl⟩
    exact ⟨_, rfl, by simp [World.ownsRow], rfl, World.grownBy.refl _ _⟩
  · obtain ⟨i0, hi, hz0, hz1, hz2⟩ := info_parts infoAny
    obtain ⟨g', cap', e0, _, _, hn', hc', hlr, hH⟩ := Lib.holds_of_ownsRow (enc := encC) hown (by simp)
    simp only [Value.slice.injEq, Option.some.injEq, Addr.mk.injEq, and_true, true_and] at e0
    obtain ⟨rfl, rfl⟩ := e0
    have hk := AnyE.slices_Delete Tryz.deleteA encC enc_one .nul Tryz.zeroValue20 i0 hi hz1 g 0 cap i j r.toArray w hH (by simpa using hnc) (by unfold maxLen at hcm; omega) hij (by simpa using hj)
    rw [List.size_toArray] at hk
    refine Calls.mono hk ?_
    rintro e w' ⟨rfl, q, rfl⟩
    have hy : (r.take i ++ r.drop j ++ List.replicate (j - i) TC.nul).length = r.length := by simp; omega
    have ho := Lib.ownsRow_putRow (enc := encC) (q := q) (k := r.length - (j - i)) hown hy (by omega)
    have hlen : (r.take i ++ r.drop j).length = r.length - (j - i) := by simp; omega
    refine ⟨_, rfl, ?_, rfl, grown_putRow _ _ _ _⟩
    rw [hlen]
    rw [List.take_left' hlen] at ho
    exact ho

/-- What a call on the tape in block T, its row v, leaves: all else. -/
structure KT (T : Nat) (v : Value) (w w' : World) : Prop where
  os : w'.os = w.os
  tape : w'.tape = w.tape
  output : w'.output = w.output
  size : w.heap.size ≤ w'.heap.size
  block : ∀ k, k < w.heap.size → k ≠ T → v.ownBlock ≠ some k → w'.heap[k]? = w.heap[k]?

theorem KT.refl (T : Nat) (v : Value) (w : World) : KT T v w w := ⟨rfl, rfl, rfl, Nat.le_refl _, fun _ _ _ _ => rfl⟩
theorem KT.trans {T : Nat} {v v1 : Value} {w w1 w2 : World} (h : KT T v w w1) (hn : NewOr w v v1) (h2 : KT T v1 w1 w2) : KT T v w w2 :=
  ⟨h2.os.trans h.os, h2.tape.trans h.tape, h2.output.trans h.output, Nat.le_trans h.size h2.size, fun k hk hT hv => by
    rw [h2.block k (Nat.lt_of_lt_of_le hk h.size) hT (fun e => by
      rcases hn k e with h3 | h3
      · exact hv h3
      · omega), h.block k hk hT hv]⟩
theorem KT.of_below {T : Nat} {v : Value} {w w' : World} (h : Below w.heap.size w w') : KT T v w w' := ⟨h.os, h.tape, h.output, h.size, fun k hk _ _ => h.block k hk⟩
theorem KT.of_grown {T : Nat} {v : Value} {w w' : World} (h : w.grownBy w' v.ownBlock) : KT T v w w' := ⟨h.os, h.tape, h.output, h.size, fun k hk _ hv => h.block k hk (fun e => hv e.symm)⟩
theorem KT.set (T : Nat) (v : Value) (w : World) (i : Nat) (x : Value) : KT T v w (w.setCell ⟨T, i, none⟩ x) :=
  ⟨rfl, rfl, rfl, by simp [World.setCell], fun k _ hk _ => Below.heap_setCell _ _ _ _ (fun e => hk (by simp [e]))⟩
theorem KT.below {T B : Nat} {v : Value} {w w' : World} (h : KT T v w w') (hT : B ≤ T) (hv : ∀ g, v.ownBlock = some g → B ≤ g) (hB : B ≤ w.heap.size) : Below B w w' :=
  ⟨h.os, h.tape, h.output, h.size, fun k hk => h.block k (by omega) (by omega) (fun e => by have := hv k e; omega)⟩
theorem KT.box {T B : Nat} {v : Value} {w w' : World} {cs : Array Value} {t : TypeId} (h : KT T v w w') (hb : Box w B cs t) (hT : B ≠ T) (hv : v.ownBlock ≠ some B) : Box w' B cs t := by
  unfold Box at hb ⊢
  rw [h.block B (Box.lt hb) hT hv, hb]

/-- A tape in block T with this row. -/
structure IsTape (w : World) (T : Nat) (v : Value) (r : List TC) : Prop where
  box : Box w T #[v] 111
  row : w.ownsRow 0 20 1 v r.length (r.map encC)
  ne : v.ownBlock ≠ some T
  len : r.length ≤ 1000000

theorem own_later {w w' : World} {base : Nat} {t : TypeId} {z : Nat} {v : Value} {n : Nat} {xs : List Value} (h : w.ownsRow base t z v n xs) (hb : Below w.heap.size w w') : w'.ownsRow base t z v n xs :=
  own_grown (q := none) h (below_grown hb none) (fun g hg => by simp)

theorem IsTape.later {w w' : World} {T : Nat} {v : Value} {r : List TC} (h : IsTape w T v r) (hb : Below w.heap.size w w') : IsTape w' T v r :=
  ⟨h.box.later hb, own_later h.row hb, h.ne, h.len⟩

theorem IsTape.cs {w : World} {T : Nat} {v : Value} {r : List TC} (h : IsTape w T v r) : ∃ a c, v = .slice a r.length c ∧ Cs w a r := by
  obtain ⟨a, c, hv⟩ := tslice_of_own h.row
  refine ⟨a, c, hv, h.len, fun i hi => ?_⟩
  rcases h.row.2 with ⟨h0, h1⟩ | ⟨g, cap, cur, h0, _⟩
  · omega
  · rw [hv] at h0
    injection h0 with e1 e2 e3
    refine ⟨⟨g, 0, none⟩, e1, ?_⟩
    exact h.row.cells (g := g) (by rw [hv, e1]; rfl) i _ (by simp [List.getD, List.getElem?_eq_getElem hi])

end Go.Proofs.YtlehlbgaboifoabGreatDoor

/- The tape: New, hold. -/
namespace Go.Proofs.YtlehlbgaboifoabGreatDoor
open Go.RowKit
set_option linter.unusedSimpArgs false
set_option linter.unusedVariables false

/-- A tape's row: what lasts, the sign if there is one, the rest. -/
def rowOf (A B : List ByteArray) (s : Bool) : List TC := A.map TC.line ++ (if s then [TC.sgn] else []) ++ B.map TC.line

theorem rowOf_len (A B : List ByteArray) (s : Bool) : (rowOf A B s).length = A.length + (if s then 1 else 0) + B.length := by
  cases s <;> simp [rowOf] <;> omega

theorem lines_rowOf (A B : List ByteArray) (s : Bool) : linesC (rowOf A B s) = A ++ B := by
  have hm : ∀ l : List ByteArray, (l.map TC.line).filterMap lnC = l := by
    intro l
    induction l with
    | nil => rfl
    | cons x l ih => simp only [List.map_cons, List.filterMap_cons, lnC]; rw [ih]
  cases s
  · simp only [linesC, rowOf, List.filterMap_append, hm]; simp
  · simp only [linesC, rowOf, List.filterMap_append, hm]; simp [lnC]

theorem lastS_none (r : List TC) : ∀ k, (∀ i, i < k → isSg (r.getD i .nul) = false) → lastS r k = -1
  | 0, _ => rfl
  | k + 1, h => by
    rw [lastS, h k (Nat.lt_succ_self _)]
    exact lastS_none r k fun i hi => h i (by omega)

theorem lastS_find (r : List TC) (a : Nat) (ha : isSg (r.getD a .nul) = true) : ∀ k, a < k → (∀ i, a < i → i < k → isSg (r.getD i .nul) = false) → lastS r k = a
  | 0, h, _ => by omega
  | k + 1, h, hn => by
    rw [lastS]
    by_cases hk : k = a
    · subst hk; rw [ha]; rfl
    · rw [hn k (by omega) (Nat.lt_succ_self _)]
      exact lastS_find r a ha k (by omega) fun i h1 h2 => hn i h1 (by omega)

theorem line_not (l : List ByteArray) (i : Nat) : isSg ((l.map TC.line).getD i .nul) = false := by
  by_cases h : i < l.length
  · simp [List.getD, h, isSg]
  · simp [List.getD, h, isSg]

theorem at_false (B : List ByteArray) : lastS (rowOf [] B false) (rowOf [] B false).length = -1 := by
  refine lastS_none _ _ fun i _ => ?_
  simpa [rowOf] using line_not B i

theorem at_true (A B : List ByteArray) : lastS (rowOf A B true) (rowOf A B true).length = A.length := by
  have e : rowOf A B true = A.map TC.line ++ TC.sgn :: B.map TC.line := by simp [rowOf]
  rw [e]
  refine lastS_find _ _ ?_ _ (by simp) fun i h1 h2 => ?_
  · simp [List.getD, isSg]
  · have : (A.map TC.line ++ TC.sgn :: B.map TC.line).getD i .nul = (B.map TC.line).getD (i - (A.length + 1)) .nul := by
      simp only [List.getD]
      rw [List.getElem?_append_right (by simp; omega)]
      rw [show i - (A.map TC.line).length = (i - (A.length + 1)) + 1 by simp; omega]
      rfl
    rw [this]
    exact line_not B _

theorem tnew_any (w : World) : Calls Tryz.prog 29 #[] w fun e w' => e = .returned (.pointer (some ⟨w.heap.size, 0, none⟩)) ∧ IsTape w' w.heap.size (.slice none 0 0) (rowOf [] [] false) ∧ Below w.heap.size w w' := by
  go_enter Tryz.func29, Tryz.ntmps29
  go_wp2
  go_ret
  exact ⟨rfl, ⟨Box.new w _ _ rfl, by simp [World.ownsRow, rowOf], by simp [Value.ownBlock], by simp [rowOf]⟩, up (Below.refl _ _) _⟩

theorem cut_false (B : List ByteArray) (k : Nat) (hk : k ≤ B.length) : (rowOf [] B false).take k ++ (rowOf [] B false).drop (rowOf [] B false).length = rowOf [] (B.take k) false := by
  simp [rowOf, List.map_take]
theorem cut_true (A B : List ByteArray) (k : Nat) (hk : k ≤ B.length) : (rowOf A B true).take (A.length + 1 + k) ++ (rowOf A B true).drop (rowOf A B true).length = rowOf A (B.take k) true := by
  rw [List.drop_length, List.append_nil]
  simp only [rowOf, if_true, List.append_assoc]
  rw [List.take_append, List.take_of_length_le (by simp; omega)]
  simp only [List.length_map, List.singleton_append]
  rw [show A.length + 1 + k - A.length = k + 1 by omega, List.take_succ_cons, List.map_take]
theorem out_true (A B : List ByteArray) : (rowOf A B true).take A.length ++ (rowOf A B true).drop (A.length + 1) = (A ++ B).map TC.line := by
  have e : rowOf A B true = A.map TC.line ++ TC.sgn :: B.map TC.line := by simp [rowOf]
  rw [e, List.take_append, List.drop_append]
  rw [List.drop_eq_nil_of_le (by simp)]
  simp [List.take_of_length_le]
theorem put_sgn (l : List ByteArray) : l.map TC.line ++ [TC.sgn] = rowOf l [] true := by simp [rowOf]


theorem w64 (z : Int) (h0 : -9223372036854775808 ≤ z) (h1 : z ≤ 9223372036854775807) : IntKind.i64.wrap z = z := by
  simp [IntKind.wrap, IntKind.bits, IntKind.signed]; omega

theorem cell_first (w : World) (x : Value) (t : TypeId) : (w.alloc (.cells #[x] t)).cell? ⟨w.heap.size, 0, none⟩ = some x := (Box.new w #[x] t rfl).cell rfl

/-- Behind the append and the store. -/
theorem tape_put {w1 wc w4 : World} {T k : Nat} {v v3 v4 : Value} {R : List TC} {u : TC} {o : Obj} (hK3 : KT T v w1 wc) (hn3 : NewOr w1 v v3) (hX3 : Box wc T #[v3] 111) (hne3 : v3.ownBlock ≠ some T) (hX4 : Box w4 T #[v3] 111)
    (ho4 : w4.ownsRow 0 20 1 v4 (k + 1) (R.map encC ++ [encC u])) (hk : R.length = k) (hkl : k < 1000000) (hg4 : (wc.alloc o).grownBy w4 v3.ownBlock) (hn4 : NewOr (wc.alloc o) v3 v4) :
    IsTape (w4.setCell ⟨T, 0, none⟩ v4) T v4 (R ++ [u]) ∧ KT T v w1 (w4.setCell ⟨T, 0, none⟩ v4) ∧ NewOr w1 v v4 := by
  have hT := hX3.lt
  have hne4 : v4.ownBlock ≠ some T := by
    intro e
    rcases hn4 T e with h | h
    · exact hne3 h
    · simp at h; omega
  have hn4' : NewOr wc v3 v4 := fun g hg => by
    rcases hn4 g hg with h | h
    · exact .inl h
    · right; simp at h; omega
  refine ⟨⟨hX4.set 0 _, ?_, hne4, by simp [hk]; omega⟩, ?_, hn3.trans hK3.size hn4'⟩
  · have := ownsRow_setCell_other ho4 (a := ⟨T, 0, none⟩) hne4 v4
    simpa [hk] using this
  · exact hK3.trans hn3 (((KT.of_below (up (Below.refl _ _) o)).trans (NewOr.refl _ _) (KT.of_grown hg4)).trans (NewOr.refl _ _) (KT.set T _ _ _ _))

set_option maxRecDepth 100000 in
set_option maxHeartbeats 4000000 in
theorem hold_no (w : World) (T : Nat) (v : Value) (R : List TC) (n : Int) (k : Nat) (h : IsTape w T v R) (hat : lastS R R.length = -1) (hk : (k : Int) = min (max n 0) R.length) (hB : R.length < 1000000) (hn : -9223372036854775808 ≤ n ∧ n ≤ 9223372036854775807) :
    Calls Tryz.prog 95 #[.pointer (some ⟨T, 0, none⟩), .int .i64 n] w fun e w' => e = .returned (.tuple #[]) ∧ ∃ v', IsTape w' T v' (R.take k ++ [.sgn]) ∧ KT T v w w' ∧ NewOr w v v' := by
  obtain ⟨a, c, rfl, hcs⟩ := h.cs
  have ka := signAt_any a c _ w hcs
  rw [hat] at ka
  have hX := h.box
  have hrow := h.row
  have hne := h.ne
  have hTw := hX.lt
  have hkR : k ≤ R.length := by omega
  have kd := fun W hW => delete_own 0 (.slice a R.length c) R k R.length W hW hkR (Nat.le_refl _) (by omega)
  rw [List.drop_length, List.append_nil] at kd
  have hlk : (R.take k).length = k := by simp; omega
  rw [hlk] at kd
  obtain ⟨len, hlen⟩ : ∃ len, R.length = len := ⟨_, rfl⟩
  rw [hlen] at hk hB ka hrow hkR kd hX hne ⊢
  have hlen' : Hid (R.length = len) := hlen
  clear h hcs hlen
  have c0 : w.cell? ⟨T, 0, none⟩ = some (.slice a len c) := hX.cell rfl
  go_enter Tryz.func95, Tryz.ntmps95
  go_upto_region 2 with (first
    | (go_at_call 62; refine ka.mono ?_; rintro e w1 ⟨rfl, rfl⟩))
  go_cut [6] (fun s6 wx => s6 = .int .i64 k ∧ wx = w1)
  case first =>
    go_wp2
    all_goals
      go_meet
      case rel => exact ⟨by congr 1; omega, rfl⟩
  case rest =>
    obtain ⟨rfl, hq⟩ := hcut
    rw [hq]
    clear hq
    have hrow' := hrow.drew
    have c0' : w1.drew.cell? ⟨T, 0, none⟩ = some (.slice a len c) := c0
    have f0' : w1.drew.frozen? ⟨T, 0, none⟩ = false := hX.frozen 0
    clear ka hk
    have hk1 : k ≤ 1000000 := by omega
    have hw : IntKind.i64.wrap (IntKind.i64.wrap 0 + (k : Int)) = k := by rw [w64 0 (by omega) (by omega), Int.zero_add, w64 _ (by omega) (by omega)]
    have hkR' := hkR
    clear hlk hkR hn
    go_upto_region 3 with fail
    go_cut [] (fun wx => ∃ a2 c2, Box wx T #[.slice a2 k c2] 111 ∧ wx.ownsRow 0 20 1 (.slice a2 k c2) k ((R.take k).map encC) ∧ (Value.slice a2 k c2).ownBlock = (Value.slice a len c).ownBlock ∧ KT T (.slice a len c) w1 wx)
    case first =>
      go_region_with (first
        | (go_at_call 128; try rw [hw]
           refine (kd _ hrow').mono ?_
           rintro e w2 ⟨v2, rfl, ho2, hb2, hg2⟩
           have hX2 := hX.drew.grown hg2 (fun e => hne e.symm)
           obtain ⟨a2, c2, rfl⟩ := tslice_of_own ho2
           have d0 : w2.cell? ⟨T, 0, none⟩ = some (.slice a len c) := hX2.cell rfl
           have f0 := hX2.frozen 0)
        | fail)
      all_goals
        go_wp2
        go_meet
        case rel =>
          have hg3 : w1.grownBy w2 (Value.slice a len c).ownBlock := ⟨hg2.os, hg2.tape, hg2.output, hg2.size, hg2.block⟩
          refine ⟨a2, c2, hX2.set 0 _, ownsRow_setCell_other ho2 (by rw [hb2]; exact hne) _, hb2, ?_⟩
          exact (KT.of_grown hg3).trans (fun g hg => .inl (hb2 ▸ hg)) (KT.set T _ _ _ _)
    case rest =>
      obtain ⟨a2, c2, hX3, ho3, hb3, hK3⟩ := hcut
      have c3 : wc.cell? ⟨T, 0, none⟩ = some (.slice a2 k c2) := hX3.cell rfl
      have f3 := hX3.frozen 0
      clear kd hrow' c0' f0' hw
      have hkR : k ≤ R.length := by rw [hlen'.out]; exact hkR'
      have hne3 : (Value.slice a2 k c2).ownBlock ≠ some T := by rw [hb3]; exact hne
      go_wp2_with (first
        | (at_builtin; refine wpList_append_any rfl _ _ rfl 0 _ _ _ rfl (ho3.alloc _) ⟨_, 0, none⟩ (encC .sgn) rfl (cell_first _ _ _) rfl (by omega) (by omega) ?_
           intro v4 w4 ho4 hg4 hn4
           have hX4 := (hX3.up _).grown hg4 (fun e => hne3 e.symm)
           obtain ⟨a4, c4, rfl⟩ := tslice_of_own ho4
           have f4 := hX4.frozen 0
           have d4 : w4.cell? ⟨T, 0, none⟩ = some (.slice a2 k c2) := hX4.cell rfl))
      go_end0
      have hz := tape_put hK3 (fun g hg => .inl (hb3 ▸ hg)) hX3 hne3 hX4 ho4 (by simp; omega) (by omega) hg4 hn4
      exact ⟨rfl, _, hz.1, hz.2.1, hz.2.2⟩

end Go.Proofs.YtlehlbgaboifoabGreatDoor

/- The tape: hold where there is a sign; Sync, Crash. -/
namespace Go.Proofs.YtlehlbgaboifoabGreatDoor
open Go.RowKit
set_option linter.unusedSimpArgs false
set_option linter.unusedVariables false

set_option maxRecDepth 100000 in
set_option maxHeartbeats 4000000 in
theorem hold_yes (w : World) (T : Nat) (v : Value) (R : List TC) (n : Int) (A k q m : Nat) (h : IsTape w T v R) (hat : lastS R R.length = A) (hA : A < R.length) (hk : (k : Int) = min (max n 0) ((R.length : Int) - A - 1)) (hq : q = A + 1 + k) (hm : m = A + k) (hB : R.length < 1000000) (hn : -9223372036854775808 ≤ n ∧ n ≤ 9223372036854775807) :
    Calls Tryz.prog 95 #[.pointer (some ⟨T, 0, none⟩), .int .i64 n] w fun e w' => e = .returned (.tuple #[]) ∧ ∃ v', IsTape w' T v' ((R.take q).take A ++ (R.take q).drop (A + 1) ++ [.sgn]) ∧ KT T v w w' ∧ NewOr w v v' := by
  obtain ⟨a, c, rfl, hcs⟩ := h.cs
  have ka := signAt_any a c _ w hcs
  rw [hat] at ka
  have hX := h.box
  have hrow := h.row
  have hne := h.ne
  have hTw := hX.lt
  have hkR : q ≤ R.length := by omega
  have kd := fun W hW => delete_own 0 (.slice a R.length c) R q R.length W hW hkR (Nat.le_refl _) (by omega)
  rw [List.drop_length, List.append_nil] at kd
  have hlk : (R.take q).length = q := by simp; omega
  rw [hlk] at kd
  obtain ⟨len, hlen⟩ : ∃ len, R.length = len := ⟨_, rfl⟩
  rw [hlen] at hk hB hA ka hrow hkR kd hX hne ⊢
  have hlen' : Hid (R.length = len) := hlen
  have hmB : m < 1000000 := by omega
  have hwz : Hid (IntKind.i64.wrap (IntKind.i64.wrap ((A : Int) + 1) + (k : Int)) = q) := by show _ = _; rw [w64 ((A : Int) + 1) (by omega) (by omega), w64 _ (by omega) (by omega)]; omega
  have hk1 : k ≤ 1000000 := by omega
  have hA1 : A ≤ 1000000 := by omega
  have hq1 : q ≤ 1000000 := by omega
  have hq' : Hid (q = A + 1 + k) := hq
  have hm' : Hid (m = A + k) := hm
  have hkR' : Hid (q ≤ len) := hkR
  have hlo : Hid ((k : Int) = min (max n 0) ((len : Int) - A - 1)) := hk
  clear hq hm hlk hkR hk
  clear h hcs hlen
  have c0 : w.cell? ⟨T, 0, none⟩ = some (.slice a len c) := hX.cell rfl
  go_enter Tryz.func95, Tryz.ntmps95
  go_upto_region 2 with (first
    | (go_at_call 62; refine ka.mono ?_; rintro e w1 ⟨rfl, rfl⟩))
  go_cut [6] (fun s6 wx => s6 = .int .i64 k ∧ wx = w1)
  case first =>
    go_wp2
    all_goals
      go_meet
      case rel => exact ⟨by congr 1; have := hlo.out; omega, rfl⟩
  case rest =>
    obtain ⟨rfl, hq⟩ := hcut
    rw [hq]
    clear hq
    have hrow' := hrow.drew
    have c0' : w1.drew.cell? ⟨T, 0, none⟩ = some (.slice a len c) := c0
    have f0' : w1.drew.frozen? ⟨T, 0, none⟩ = false := hX.frozen 0
    clear ka
    have hw := hwz.out
    clear hn
    go_upto_region 3 with fail
    go_cut [] (fun wx => ∃ a2 c2, Box wx T #[.slice a2 q c2] 111 ∧ wx.ownsRow 0 20 1 (.slice a2 q c2) q ((R.take q).map encC) ∧ (Value.slice a2 q c2).ownBlock = (Value.slice a len c).ownBlock ∧ KT T (.slice a len c) w1 wx)
    case first =>
      go_region_with (first
        | (go_at_call 128; try rw [hw]
           refine (kd _ hrow').mono ?_
           rintro e w2 ⟨v2, rfl, ho2, hb2, hg2⟩
           have hX2 := hX.drew.grown hg2 (fun e => hne e.symm)
           obtain ⟨a2, c2, rfl⟩ := tslice_of_own ho2
           have d0 : w2.cell? ⟨T, 0, none⟩ = some (.slice a len c) := hX2.cell rfl
           have f0 := hX2.frozen 0)
        | fail)
      all_goals
        go_wp2
        go_meet
        case rel =>
          have hg3 : w1.grownBy w2 (Value.slice a len c).ownBlock := ⟨hg2.os, hg2.tape, hg2.output, hg2.size, hg2.block⟩
          refine ⟨a2, c2, hX2.set 0 _, ownsRow_setCell_other ho2 (by rw [hb2]; exact hne) _, hb2, ?_⟩
          exact (KT.of_grown hg3).trans (fun g hg => .inl (hb2 ▸ hg)) (KT.set T _ _ _ _)
    case rest =>
      obtain ⟨a2, c2, hX3, ho3, hb3, hK3⟩ := hcut
      have c3 : wc.cell? ⟨T, 0, none⟩ = some (.slice a2 q c2) := hX3.cell rfl
      have f3 := hX3.frozen 0
      have hkR : q ≤ R.length := by rw [hlen'.out]; exact hkR'.out
      have hqo := hq'.out
      have hmo := hm'.out
      have hlq : (R.take q).length = q := by simp; omega
      have kd2 := delete_own 0 (.slice a2 q c2) (R.take q) A (A + 1) wc (by rw [hlq]; exact ho3) (Nat.le_succ _) (by rw [hlq]; omega) (by rw [hlq]; omega)
      have hlm : ((R.take q).take A ++ (R.take q).drop (A + 1)).length = m := by rw [List.length_append, List.length_take, List.length_drop, hlq]; omega
      rw [hlm] at kd2
      have hne3 : (Value.slice a2 q c2).ownBlock ≠ some T := by rw [hb3]; exact hne
      obtain ⟨R2, hR2⟩ : ∃ R2, (R.take q).take A ++ (R.take q).drop (A + 1) = R2 := ⟨_, rfl⟩
      rw [hR2] at kd2 hlm
      have hlm' : Hid (R2.length = m) := hlm
      have hR2' : Hid ((R.take q).take A ++ (R.take q).drop (A + 1) = R2) := hR2
      have ha1 : ((A + 1 : Nat) : Int) = (A : Int) + 1 := by omega
      rw [ha1] at kd2
      clear kd hrow' c0' f0' hw hlq hR2 hlm ha1 hkR hqo hmo
      go_upto_region 6 with (first
        | (go_at_call 128; refine kd2.mono ?_
           rintro e w5 ⟨v5, rfl, ho5, hb5, hg5⟩
           have hX5 := hX3.grown hg5 (fun e => hne3 e.symm)
           obtain ⟨a5, c5, rfl⟩ := tslice_of_own ho5
           have d5 : w5.cell? ⟨T, 0, none⟩ = some (.slice a2 q c2) := hX5.cell rfl
           have f5 := hX5.frozen 0))
      have hn5 : NewOr w1 (.slice a len c) (.slice a5 m c5) := fun g hg => .inl (by rw [hb5, hb3] at hg; exact hg)
      have hne5 : (Value.slice a5 m c5).ownBlock ≠ some T := by rw [hb5]; exact hne3
      have hK6 : KT T (.slice a len c) w1 (w5.setCell ⟨T, 0, none⟩ (.slice a5 m c5)) := hK3.trans (fun g hg => .inl (hb3 ▸ hg)) ((KT.of_grown hg5).trans (NewOr.refl _ _) (KT.set T _ _ _ _))
      have hX6 : Box (w5.setCell ⟨T, 0, none⟩ (.slice a5 m c5)) T #[.slice a5 m c5] 111 := hX5.set 0 _
      have ho6 := ownsRow_setCell_other ho5 (a := ⟨T, 0, none⟩) hne5 (.slice a5 m c5)
      generalize w5.setCell ⟨T, 0, none⟩ (.slice a5 m c5) = w6 at *
      have d6 : w6.cell? ⟨T, 0, none⟩ = some (.slice a5 m c5) := hX6.cell rfl
      have hm1 : m ≤ 1000000 := by have := ho6.1; have h9 := hlm'.out; omega
      clear kd2 ho5 d5 f5 hg5 hX5 hX3 c3 f3 ho3
      go_wp2_with (first
        | (at_builtin; refine wpList_append_any rfl _ _ rfl 0 _ _ _ rfl (ho6.alloc _) ⟨_, 0, none⟩ (encC .sgn) rfl (cell_first _ _ _) rfl (by omega) (by omega) ?_
           intro v4 w4 ho4 hg4 hn4
           have hX4 := (hX6.up _).grown hg4 (fun e => hne5 e.symm)
           obtain ⟨a4, c4, rfl⟩ := tslice_of_own ho4
           have f4 := hX4.frozen 0
           have d4 : w4.cell? ⟨T, 0, none⟩ = some (.slice a5 m c5) := hX4.cell rfl))
      go_end0
      have e2 := hR2'.out
      subst e2
      have hz := tape_put hK6 hn5 hX6 hne5 hX4 ho4 hlm'.out hmB hg4 hn4
      exact ⟨rfl, _, hz.1, hz.2.1, hz.2.2⟩

end Go.Proofs.YtlehlbgaboifoabGreatDoor

/- The tape: hold, Sync, Crash, Lasting, Lines, as what lasts and what does not. -/
namespace Go.Proofs.YtlehlbgaboifoabGreatDoor
open Go.RowKit
set_option linter.unusedSimpArgs false
set_option linter.unusedVariables false

theorem hold_any (w : World) (T : Nat) (v : Value) (A B : List ByteArray) (s : Bool) (n : Int) (k : Nat) (h : IsTape w T v (rowOf A B s)) (hs : s = false → A = []) (hk : (k : Int) = min (max n 0) B.length) (hl : A.length + B.length < 999999) (hn : -9223372036854775808 ≤ n ∧ n ≤ 9223372036854775807) :
    Calls Tryz.prog 95 #[.pointer (some ⟨T, 0, none⟩), .int .i64 n] w fun e w' => e = .returned (.tuple #[]) ∧ ∃ v', IsTape w' T v' (rowOf (A ++ B.take k) [] true) ∧ KT T v w w' ∧ NewOr w v v' := by
  have hkB : k ≤ B.length := by omega
  cases s with
  | false =>
    obtain rfl := hs rfl
    have hlen := rowOf_len [] B false
    refine (hold_no w T v (rowOf [] B false) n k h (at_false B) (by rw [hlen]; simpa using hk) (by rw [hlen]; simp at hl ⊢; omega) hn).mono ?_
    rintro e w' ⟨he, v', h1, h2⟩
    refine ⟨he, v', ?_, h2⟩
    have e1 := cut_false B k hkB
    rw [List.drop_length, List.append_nil] at e1
    rw [e1] at h1
    simpa [rowOf] using h1
  | true =>
    have hlen := rowOf_len A B true
    simp only [if_true] at hlen
    refine (hold_yes w T v (rowOf A B true) n A.length k (A.length + 1 + k) (A.length + k) h (at_true A B) (by rw [hlen]; omega) (by rw [hlen]; omega) rfl rfl (by rw [hlen]; omega) hn).mono ?_
    rintro e w' ⟨he, v', h1, h2⟩
    refine ⟨he, v', ?_, h2⟩
    have e1 := cut_true A B k hkB
    rw [List.drop_length, List.append_nil] at e1
    rw [e1, out_true, put_sgn] at h1
    exact h1

set_option maxRecDepth 100000 in
set_option maxHeartbeats 2000000 in
theorem crash_any (w : World) (T : Nat) (v : Value) (A B : List ByteArray) (s : Bool) (n : Int) (k : Nat) (h : IsTape w T v (rowOf A B s)) (hs : s = false → A = []) (hk : (k : Int) = min (max n 0) B.length) (hl : A.length + B.length < 999999) (hn : -9223372036854775808 ≤ n ∧ n ≤ 9223372036854775807) :
    Calls Tryz.prog 47 #[.pointer (some ⟨T, 0, none⟩), .int .i64 n] w fun e w' => e = .returned (.tuple #[]) ∧ ∃ v', IsTape w' T v' (rowOf (A ++ B.take k) [] true) ∧ KT T v w w' ∧ NewOr w v v' := by
  have kh := hold_any w T v A B s n k h hs hk hl hn
  clear hk hn hl
  go_enter Tryz.func47, Tryz.ntmps47
  go_wp2_with (go_at_call 95; refine kh.mono ?_; rintro e w1 ⟨rfl, v1, h1, h2, h3⟩)
  go_end0
  exact ⟨rfl, v1, h1, h2, h3⟩

set_option maxRecDepth 100000 in
set_option maxHeartbeats 2000000 in
theorem sync_any (w : World) (T : Nat) (v : Value) (A B : List ByteArray) (s : Bool) (h : IsTape w T v (rowOf A B s)) (hs : s = false → A = []) (hl : A.length + B.length < 999999) :
    Calls Tryz.prog 85 #[.pointer (some ⟨T, 0, none⟩)] w fun e w' => e = .returned (.tuple #[]) ∧ ∃ v', IsTape w' T v' (rowOf (A ++ B) [] true) ∧ KT T v w w' ∧ NewOr w v v' := by
  have hlen := rowOf_len A B s
  have hz : (rowOf A B s).length ≤ 999999 := by rw [hlen]; split <;> omega
  have kh := hold_any w T v A B s (rowOf A B s).length B.length h hs (by rw [hlen]; split <;> omega) hl (by omega)
  rw [List.take_length] at kh
  obtain ⟨a, c, rfl, _⟩ := h.cs
  have c0 : w.cell? ⟨T, 0, none⟩ = some (.slice a (rowOf A B s).length c) := h.box.cell rfl
  generalize (rowOf A B s).length = len at *
  clear hlen hl
  go_enter Tryz.func85, Tryz.ntmps85
  go_wp2_with (go_at_call 95; refine kh.mono ?_; rintro e w1 ⟨rfl, v1, h1, h2, h3⟩)
  go_end0
  exact ⟨rfl, v1, h1, h2, h3⟩

theorem at_row (A B : List ByteArray) (s : Bool) (hs : s = false → A = []) : max (lastS (rowOf A B s) (rowOf A B s).length) 0 = A.length := by
  cases s with
  | false => obtain rfl := hs rfl; rw [at_false]; rfl
  | true => rw [at_true]; omega

set_option maxRecDepth 100000 in
set_option maxHeartbeats 2000000 in
theorem lasting_any (w : World) (T : Nat) (v : Value) (A B : List ByteArray) (s : Bool) (h : IsTape w T v (rowOf A B s)) (hs : s = false → A = []) :
    Calls Tryz.prog 22 #[.pointer (some ⟨T, 0, none⟩)] w fun e w' => e = .returned (.int .i64 A.length) ∧ w' = w := by
  obtain ⟨a, c, rfl, hcs⟩ := h.cs
  have ka := signAt_any a c _ w hcs
  have hm := at_row A B s hs
  generalize lastS (rowOf A B s) (rowOf A B s).length = t at *
  have c0 : w.cell? ⟨T, 0, none⟩ = some (.slice a (rowOf A B s).length c) := h.box.cell rfl
  generalize (rowOf A B s).length = len at *
  have hm' : Hid (max t 0 = A.length) := hm
  clear hm h
  go_enter Tryz.func22, Tryz.ntmps22
  go_wp2_with (go_at_call 62; refine ka.mono ?_; rintro e w1 ⟨rfl, rfl⟩)
  all_goals
    go_ret
    refine ⟨?_, rfl⟩
    have := hm'.out
    simp
    omega

set_option maxRecDepth 100000 in
set_option maxHeartbeats 2000000 in
theorem tlines_any (w : World) (T : Nat) (v : Value) (A B : List ByteArray) (s : Bool) (h : IsTape w T v (rowOf A B s)) :
    Calls Tryz.prog 24 #[.pointer (some ⟨T, 0, none⟩)] w fun e w' => ∃ a c, e = .returned (.slice a (A ++ B).length c) ∧ w'.ownsRow w.heap.size 9 1 (.slice a (A ++ B).length c) (A ++ B).length ((A ++ B).map Value.string) ∧ Below w.heap.size w w' := by
  obtain ⟨a, c, rfl, hcs⟩ := h.cs
  have kl := lines_any a c _ w hcs
  rw [lines_rowOf] at kl
  have c0 : w.cell? ⟨T, 0, none⟩ = some (.slice a (rowOf A B s).length c) := h.box.cell rfl
  generalize (rowOf A B s).length = len at *
  clear h
  go_enter Tryz.func24, Tryz.ntmps24
  go_wp2_with (go_at_call 64; refine kl.mono ?_; rintro e w1 ⟨v1, rfl, ho1, hb1⟩; obtain ⟨a1, c1, rfl⟩ := tslice_of_own ho1)
  go_ret
  exact ⟨a1, c1, by rw [List.length_append]; rfl, ho1, hb1⟩

end Go.Proofs.YtlehlbgaboifoabGreatDoor
