/- Rows of numbers, boxes that lie apart. -/
import Derived.Test.YtlehlbgaboifoabGreatDoorMg05
import Derived.Test.YtlehlbgaboifoabGreatDoorMg18
import Derived.Test.YtlehlbgaboifoabGreatDoorMg19
namespace Go.Proofs.YtlehlbgaboifoabGreatDoor
open Go.RowKit Go.Maps Go.Shelf
set_option linter.unusedSimpArgs false
set_option linter.unusedVariables false

theorem Box.frame {w w' : World} {B : Nat} {cs : Array Value} {t : TypeId} (h : Box w B cs t) (hk : w'.heap[B]? = w.heap[B]?) : Box w' B cs t := by
  unfold Box at *
  rw [hk, h]
theorem Box.apart {w : World} {B B' : Nat} {cs cs' : Array Value} {t t' : TypeId} (h : Box w B cs t) (h' : Box w B' cs' t') (ht : t ≠ t') : B ≠ B' := by
  intro e
  subst e
  unfold Box at *
  rw [h] at h'
  simp only [Option.some.injEq, Obj.cells.injEq] at h'
  exact ht h'.2.1
theorem Box.inj {w : World} {B : Nat} {cs cs' : Array Value} {t t' : TypeId} (h : Box w B cs t) (h' : Box w B cs' t') : cs = cs' := by
  unfold Box at *
  rw [h] at h'
  simp only [Option.some.injEq, Obj.cells.injEq] at h'
  exact h'.1
theorem own_off {w : World} {B base e size n : Nat} {v : Value} {xs : List Value} {cs : Array Value} {t : TypeId} (h : w.ownsRow base e size v n xs) (h' : Box w B cs t) (ht : t ≠ e) : v.ownBlock ≠ some B := by
  intro hv
  rcases h.2 with ⟨rfl, _⟩ | ⟨g, cap, cur, rfl, hb, hh, _⟩
  · cases hv
  · simp only [Value.ownBlock, Option.some.injEq] at hv
    subst hv
    exact (Box.apart (show Box w g cur e from hh) h' (fun e => ht e.symm)) rfl
theorem own_low {w : World} {base e size n : Nat} {v : Value} {xs : List Value} (h : w.ownsRow base e size v n xs) : ∀ g, v.ownBlock = some g → base ≤ g ∧ g < w.heap.size := by
  intro g hv
  rcases h.2 with ⟨rfl, _⟩ | ⟨g', cap, cur, rfl, hb, hh, _⟩
  · cases hv
  · simp only [Value.ownBlock, Option.some.injEq] at hv
    subst hv
    exact ⟨hb, (Array.getElem?_eq_some_iff.1 hh).1⟩
theorem own_base {w : World} {base base' e size n : Nat} {v : Value} {xs : List Value} (h : w.ownsRow base e size v n xs) (hb : base' ≤ base) : w.ownsRow base' e size v n xs := by
  refine ⟨h.1, ?_⟩
  rcases h.2 with hn | ⟨g, cap, cur, rfl, hg, rest⟩
  · exact .inl hn
  · exact .inr ⟨g, cap, cur, rfl, Nat.le_trans hb hg, rest⟩
theorem own_frame {w w' : World} {base : Nat} {t : TypeId} {z : Nat} {v : Value} {n : Nat} {xs : List Value} (h : w.ownsRow base t z v n xs) (hk : ∀ g, v.ownBlock = some g → w'.heap[g]? = w.heap[g]?) : w'.ownsRow base t z v n xs := by
  refine ⟨h.1, ?_⟩
  rcases h.2 with hn | ⟨g, cap, cur, rfl, hb, hgg, rest⟩
  · exact .inl hn
  · exact .inr ⟨g, cap, cur, rfl, hb, by rw [hk g rfl]; exact hgg, rest⟩
theorem IsTape.frame {w w' : World} {T : Nat} {v : Value} {r : List TC} (h : IsTape w T v r) (hT : w'.heap[T]? = w.heap[T]?) (hk : ∀ g, v.ownBlock = some g → w'.heap[g]? = w.heap[g]?) : IsTape w' T v r :=
  ⟨h.box.frame hT, own_frame h.row hk, h.ne, h.len⟩
theorem Nats.frame {w w' : World} {a : Option Addr} {ps : List Nat} (h : Nats w a ps) (hk : ∀ y, a = some y → ps ≠ [] → w'.heap[y.block]? = w.heap[y.block]?) : Nats w' a ps := fun i hi => by
  obtain ⟨x, hx, hc⟩ := h i hi
  refine ⟨x, hx, ?_⟩
  rw [← hc]
  exact World.cell?_of_block (by rw [add_block]; exact hk x hx (by intro e; simp [e] at hi))
theorem setCell_other (w : World) (b i : Nat) (v : Value) (k : Nat) (h : k ≠ b) : (w.setCell ⟨b, i, none⟩ v).heap[k]? = w.heap[k]? := Below.heap_setCell _ _ _ _ h

theorem own_cut {w : World} {base : Nat} {t : TypeId} {z n : Nat} {v : Value} {xs : List Value} (h : w.ownsRow base t z v n xs) : ∃ a c, v = .slice a n c ∧ n ≤ c ∧ SP a ∧ (a = none → n = 0) ∧ ∀ x, a = some x → x = ⟨x.block, 0, none⟩ ∧ base ≤ x.block ∧ x.block < w.heap.size := by
  rcases h.2 with ⟨rfl, rfl⟩ | ⟨g, cap, cur, rfl, hb, hh, hc, _⟩
  · exact ⟨none, 0, rfl, Nat.le_refl _, SP.none, fun _ => rfl, (fun x hx => by cases hx)⟩
  · exact ⟨some ⟨g, 0, none⟩, cap, rfl, hc, SP.some _ _, (fun h => by cases h), fun x hx => by cases hx; exact ⟨rfl, hb, (Array.getElem?_eq_some_iff.1 hh).1⟩⟩
theorem nats_own {w : World} {base n c : Nat} {a : Option Addr} {ps : List Nat} {t : TypeId} (h : w.ownsRow base t 1 (.slice a n c) n (ps.map natV)) : Nats w a ps := fun i hi => by
  have hn : n = ps.length := by have := h.1; simpa using this.symm
  obtain ⟨a', c', e, _, _, h0, hx⟩ := own_cut h
  cases e
  cases a with
  | none => have := h0 rfl; omega
  | some x =>
    obtain ⟨e, _, _⟩ := hx x rfl
    obtain ⟨g, o, sp⟩ := x
    cases e
    refine ⟨_, rfl, ?_⟩
    have := h.cells (g := g) rfl i (natV (ps.getD i 0)) (by simp [List.getD, List.getElem?_eq_getElem hi])
    exact this
theorem sixteen : (1 : Nat) ≤ 16 := by decide

end Go.Proofs.YtlehlbgaboifoabGreatDoor

/- Append to a row of the call's own: its block is the same or new. -/
namespace Go.Proofs.YtlehlbgaboifoabGreatDoor
open Go.RowKit Go.Maps
set_option linter.unusedSimpArgs false
set_option linter.unusedVariables false

theorem append_new {w : World} (base : Nat) (t ty e : TypeId) (i : TypeInfo) (z : Value) (size bytes : Nat) (ht : Tryz.prog.underlying t = some (.slice e)) (hi : Tryz.prog.info? e = some i) (hz : i.zero = some z)
    (hsize : i.size = size) (hby : i.bytes = bytes) (hzs : z.cells.size = size) (hsz : 0 < size)
    (v : Value) (n : Nat) (xs : List Value) (hown : w.ownsRow base e size v n xs)
    (a : Addr) (m c : Nat) (news : List Value) (hl : news.length = m * size) (hnews : ∀ j u, news[j]? = some u → w.cell? (a.add j) = some u) (h1 : ∀ u ∈ news, u.oneCell' = true)
    (h63 : n + m ≤ maxLen) (hbytes : (n + m) * bytes ≤ 140737488355328) (hbase : base ≤ w.heap.size) :
    ∃ v' w', (Builtin.append_ #[t, t] ty #[v, .slice (some a) m c]).run Tryz.prog w = .ok v' w' ∧ w'.ownsRow base e size v' (n + m) (xs ++ news) ∧ w.grownBy w' v.ownBlock ∧ NewOr w v v' := by
  have hrun := fun (B : Nat) (hB : w.ownsRow B e size v n xs) (hBw : B ≤ w.heap.size) => run_append_own (P := Tryz.prog) (w := w) B t ty e i z size bytes ht hi hz hsize hby hzs hsz v n xs hB a m c news hl hnews h1 h63 hbytes hBw
  obtain ⟨v', w', hr, h2, h3, _⟩ := hrun base hown hbase
  refine ⟨v', w', hr, h2, h3, ?_⟩
  intro g hg
  rcases hown.2 with ⟨rfl, rfl⟩ | ⟨g0, cap, cur, rfl, hbg, hh, hnc, hcm, hcs, htake⟩
  · obtain ⟨v2, w2, hr2, h4, _, _⟩ := hrun w.heap.size ⟨hown.1, .inl ⟨rfl, rfl⟩⟩ (Nat.le_refl _)
    rw [hr] at hr2
    injection hr2 with e1 e2
    subst e1
    exact .inr (h4.lt g hg).1
  · by_cases hroom : n + m ≤ cap
    · have hr2 := run_append_room (P := Tryz.prog) w t ty e i ht hi g0 n cap cur hh a m c news (by rw [hl, hsize]) hnews h1 hroom (by have := Nat.mul_le_mul_right size hroom; rw [Nat.add_mul] at this; rw [hl, hsize]; omega)
      rw [hr] at hr2
      injection hr2 with e1 e2
      subst e1
      exact .inl hg
    · have hr2 := run_append_grow (P := Tryz.prog) w t ty e i z ht hi hz ⟨g0, 0, none⟩ n cap xs (by rw [hsize]; exact hown.1) (hown.cells (g := g0) rfl) a m c news (by rw [hl, hsize]) hnews (by omega) (by unfold maxLen at h63; omega) (growslice_fits (by unfold maxLen at h63; omega) (by rw [hby]; exact hbytes))
      rw [hr] at hr2
      injection hr2 with e1 e2
      subst e1
      right
      simp [Value.ownBlock] at hg
      omega

theorem wpList_append_new {ops : Array Oper} {rest : List Oper} {o : Oper} {A : Act} {w : World} {Q : Exit → Act → World → Prop} (hgd : o.guard = none) (s x : Operand) (t : TypeId)
    (ho : o.op = .call { callee := .builtin .append, args := #[s, x], argTypes := #[t, t] })
    (base : Nat) (e : TypeId) (i : TypeInfo) (z : Value) (size bytes : Nat) (ht : Tryz.prog.underlying t = some (.slice e)) (hi : Tryz.prog.info? e = some i) (hz : i.zero = some z)
    (hsize : i.size = size) (hby : i.bytes = bytes) (hzs : z.cells.size = size) (hsz : 0 < size)
    (v : Value) (n : Nat) (xs : List Value) (hs : A.eval s = v) (hown : w.ownsRow base e size v n xs)
    (ad : Addr) (m c : Nat) (news : List Value) (hx : A.eval x = .slice (some ad) m c) (hl : news.length = m * size) (hnews : ∀ j u, news[j]? = some u → w.cell? (ad.add j) = some u) (h1 : ∀ u ∈ news, u.oneCell' = true)
    (h63 : n + m ≤ maxLen) (hbytes : (n + m) * bytes ≤ 140737488355328) (hbase : base ≤ w.heap.size)
    (h : ∀ v' w', w'.ownsRow base e size v' (n + m) (xs ++ news) → w.grownBy w' v.ownBlock → NewOr w v v' → wpList Tryz.prog ops Q rest (A.put o.dst v') w') : wpList Tryz.prog ops Q (o :: rest) A w := by
  refine wpList_plain hgd fun K hK => ?_
  obtain ⟨v', w', hr, h2, h3, h4⟩ := append_new base t o.type e i z size bytes ht hi hz hsize hby hzs hsz v n xs hown ad m c news hl hnews h1 h63 hbytes hbase
  unfold Oper.wp execOp
  simp only [ho, resolve, invoke, builtin, Sem.run_bind, Sem.run_pure, Result.andThen_ok, List.map_toArray, List.map_cons, List.map_nil, hs, hx, hr]
  exact hK _ _ (h v' w' h2 h3 h4)

end Go.Proofs.YtlehlbgaboifoabGreatDoor

/- The tape: Write. -/
namespace Go.Proofs.YtlehlbgaboifoabGreatDoor
open Go.RowKit
set_option linter.unusedSimpArgs false
set_option linter.unusedVariables false

theorem rowOf_snoc (A B : List ByteArray) (s : Bool) (x : ByteArray) : rowOf A B s ++ [TC.line x] = rowOf A (B ++ [x]) s := by simp [rowOf]

/-- A call of one argument, at a step of a region that draws its order. -/
theorem step_call1 {w : World} {ops : Array Oper} {o : Oper} {a : Act} {K : Act → World → Prop} {Q : Exit → Act → World → Prop} {E : Prop} (hgd : o.guard = none) (f : FuncId) (u : Tmp) (t : TypeId)
    (ho : o.op = .call { callee := .value (.func f), args := #[.tmp u], argTypes := #[t] }) (v : Value) (hs : a.tmps[u]?.getD undef = v) (hf : ∀ args w, (callFunc f args).run Tryz.prog w = .ok (.enter f args) w)
    (h : Calls Tryz.prog f #[v] w fun e w' => ∃ u, e = .returned u ∧ K (a.put o.dst u) w') :
    if Region.wanted o (yielded ops a.tmps) = true then Oper.wp Tryz.prog o a w K Q else E := by
  have hw : Region.wanted o (yielded ops a.tmps) = true := by simp [Region.wanted, hgd]
  rw [if_pos hw]
  obtain ⟨dst, op, ty, pos, after, guard⟩ := o
  simp only at ho
  subst ho
  have e : (execOp a.eval ⟨dst, .call { callee := .value (.func f), args := #[.tmp u], argTypes := #[t] }, ty, pos, after, guard⟩).run Tryz.prog w = .ok (.enter f #[v]) w := by
    simp [go_sem, hs, hf]
  unfold Oper.wp
  rw [e]
  simp only [Oper.upon]
  exact h.mono fun e w' ⟨u, he, hk⟩ => by subst he; exact hk

theorem cf_text (args : Array Value) (w : World) : (callFunc 122 args).run Tryz.prog w = .ok (.enter 122 args) w := by kernel_rfl

set_option maxRecDepth 100000 in
set_option maxHeartbeats 4000000 in
theorem write_any (w : World) (T : Nat) (v : Value) (A B : List ByteArray) (s : Bool) (x0 x1 x2 x3 x4 x5 x6 x7 x8 x9 : Value) (t : ByteArray) (h : IsTape w T v (rowOf A B s)) (hl : A.length + B.length < 999990)
    (kc : ∀ W, Below w.heap.size w W → Calls Tryz.prog 34 #[.agg #[x0, x1, x2, x3, x4, x5, x6, x7, x8, x9]] W fun e W' => e = .returned (.int .i64 0) ∧ Below W.heap.size W W')
    (kt : ∀ W, Below w.heap.size w W → Calls Tryz.prog 122 #[.agg #[x0, x1, x2, x3, x4, x5, x6, x7, x8, x9]] W fun e W' => e = .returned (.string t) ∧ Below W.heap.size W W') :
    Calls Tryz.prog 84 #[.pointer (some ⟨T, 0, none⟩), .agg #[x0, x1, x2, x3, x4, x5, x6, x7, x8, x9]] w fun e w' => e = .returned (.tuple #[]) ∧ ∃ v', IsTape w' T v' (rowOf A (B ++ [t]) s) ∧ KT T v w w' ∧ NewOr w v v' := by
  rw [← rowOf_snoc]
  have hlR : (rowOf A B s).length < 999999 := by rw [rowOf_len]; split <;> omega
  generalize rowOf A B s = R at *
  obtain ⟨a, c, rfl, _⟩ := h.cs
  have hX0 := h.box
  have hrow0 := h.row
  have hne := h.ne
  obtain ⟨len, hlen⟩ : ∃ len, R.length = len := ⟨_, rfl⟩
  rw [hlen] at hX0 hrow0 hne hlR ⊢
  have hlen' : Hid (R.length = len) := hlen
  clear h hlen hl
  have hb0 : Below w.heap.size w (w.alloc (.cells #[x0, x1, x2, x3, x4, x5, x6, x7, x8, x9] 88)) := up (Below.refl _ _) _
  have q := Box.new w #[x0, x1, x2, x3, x4, x5, x6, x7, x8, x9] 88 rfl
  obtain ⟨y0, y1, y2, y3, y4, y5, y6, y7, y8, y9⟩ := RecBox.cells q
  have kc0 := kc _ hb0
  clear kc
  go_enter Tryz.func84, Tryz.ntmps84
  go_upto_region 2 with (go_at_call 34; refine kc0.mono ?_; rintro e w2 ⟨rfl, hb2⟩)
  have q2 := q.later hb2
  have hbw : Below w.heap.size w w2 := fin hb2 hb0
  have hX2 := hX0.later hbw
  have hrow2 := own_later hrow0 hbw
  have hqn : w.heap.size ≠ T := by have := hX0.lt; omega
  obtain ⟨z0, z1, z2, z3, z4, z5, z6, z7, z8, z9⟩ := RecBox.cells q2
  have c0 : w2.drew.cell? ⟨T, 0, none⟩ = some (.slice a len c) := hX2.cell rfl
  have kt0 := kt w2.drew hbw.drew
  clear kt kc0 q y0 y1 y2 y3 y4 y5 y6 y7 y8 y9 hb2
  go_region_law (first
    | (refine step_call1 (by rfl) 122 _ _ (by rfl) _ (by rfl) cf_text (kt0.mono ?_); rintro e w3 ⟨rfl, hb3⟩; refine ⟨_, rfl, ?_⟩
       have hX3 := Box.later (w := w2.drew) hX2 hb3
       have hrow3 := own_later (w := w2.drew) hrow2 hb3
       have c3 : w3.cell? ⟨T, 0, none⟩ = some (.slice a len c) := hX3.cell rfl
       have c3a : ∀ o, (w3.alloc o).cell? ⟨T, 0, none⟩ = some (.slice a len c) := fun o => cell_alloc c3 o)
    | (refine step_append_any (by rfl) _ _ (by rfl) 0 (.slice a len c) len _ (by rfl) (hrow3.alloc _) ⟨_, 0, none⟩ (encC (.line t)) (by rfl) (cell_first _ _ _) rfl (by omega) (by omega) ?_
       intro v4 w4 ho4 hg4 hn4
       have hX4 := (hX3.up _).grown hg4 (fun e => hne e.symm)
       obtain ⟨a4, c4, rfl⟩ := tslice_of_own ho4
       have f4 := hX4.frozen 0
       have d4 : w4.cell? ⟨T, 0, none⟩ = some (.slice a len c) := hX4.cell rfl))
  all_goals
    go_end0
    have hK3 : KT T (.slice a len c) w w3 := KT.of_below (fin hb3 hbw.drew)
    have hz := tape_put hK3 (NewOr.refl _ _) hX3 hne hX4 ho4 hlen'.out (by omega) hg4 hn4
    exact ⟨rfl, _, hz.1, hz.2.1, hz.2.2⟩

end Go.Proofs.YtlehlbgaboifoabGreatDoor

/- Records told in full; the tape: All. -/
namespace Go.Proofs.YtlehlbgaboifoabGreatDoor
open Go.RowKit
set_option linter.unusedSimpArgs false
set_option linter.unusedVariables false

/-- A record. -/
structure RecB where
  kind : Nat
  gang : Nat
  peers : List Nat
  places : List PlaceB
  node : NodeB

def noNodeB : NodeB := ⟨⟨#[]⟩, 0, 0, [], [], false⟩
/-- A record of a number alone. -/
def oneR (k g : Nat) : RecB := ⟨k, g, [], [], noNodeB⟩

/-- These cells are that record's; its rows lie in blocks from base on. -/
def RecC (w : World) (base : Nat) (r : RecB) (c : List Value) : Prop :=
  ∃ pv qv mv tv, c = [.int .i64 r.kind, .int .i64 r.gang, pv, qv, .string r.node.name, .int .i64 r.node.cpu, .int .i64 r.node.mem, mv, tv, .bool r.node.closed] ∧
    w.ownsRow base 3 1 pv r.peers.length (r.peers.map natV) ∧ w.ownsRow base 192 5 qv r.places.length (r.places.flatMap placeCells) ∧
    w.ownsRow base 9 1 mv r.node.marks.length (r.node.marks.map Value.string) ∧ w.ownsRow base 9 1 tv r.node.taints.length (r.node.taints.map Value.string)

theorem RecC.len {w : World} {base : Nat} {r : RecB} {c : List Value} (h : RecC w base r c) : c.length = 10 := by
  obtain ⟨_, _, _, _, rfl, _⟩ := h
  rfl
theorem RecC.later {w w' : World} {base : Nat} {r : RecB} {c : List Value} (h : RecC w base r c) (hb : Below w.heap.size w w') : RecC w' base r c := by
  obtain ⟨pv, qv, mv, tv, e, h1, h2, h3, h4⟩ := h
  exact ⟨pv, qv, mv, tv, e, own_later h1 hb, own_later h2 hb, own_later h3 hb, own_later h4 hb⟩
theorem RecC.low {w : World} {base base' : Nat} {r : RecB} {c : List Value} (h : RecC w base r c) (hb : base' ≤ base) : RecC w base' r c := by
  obtain ⟨pv, qv, mv, tv, e, h1, h2, h3, h4⟩ := h
  exact ⟨pv, qv, mv, tv, e, town_low h1 hb, town_low h2 hb, town_low h3 hb, town_low h4 hb⟩

/-- Rows of two types do not share a block. -/
theorem own_apart {w : World} {b1 b2 : Nat} {t1 t2 : TypeId} {z1 z2 : Nat} {v1 v2 : Value} {n1 n2 : Nat} {xs1 xs2 : List Value} (h1 : w.ownsRow b1 t1 z1 v1 n1 xs1) (h2 : w.ownsRow b2 t2 z2 v2 n2 xs2) (ht : t1 ≠ t2) : v1.ownBlock = none ∨ v1.ownBlock ≠ v2.ownBlock := by
  rcases h1.2 with ⟨rfl, _⟩ | ⟨g1, c1, u1, rfl, _, hh1, _⟩
  · exact .inl rfl
  · right
    rcases h2.2 with ⟨rfl, _⟩ | ⟨g2, c2, u2, rfl, _, hh2, _⟩
    · simp [Value.ownBlock]
    · intro e
      have : g1 = g2 := by simpa [Value.ownBlock] using e
      subst this
      rw [hh1] at hh2
      simp at hh2
      exact ht hh2.2

theorem RecC.grown {w w' : World} {base b : Nat} {r : RecB} {c : List Value} {v : Value} {n : Nat} {xs : List Value} (h : RecC w base r c) (ho : w.ownsRow b 88 10 v n xs) (hg : w.grownBy w' v.ownBlock) : RecC w' base r c := by
  obtain ⟨pv, qv, mv, tv, e, h1, h2, h3, h4⟩ := h
  exact ⟨pv, qv, mv, tv, e, h1.kept hg (own_apart h1 ho (by decide)), h2.kept hg (own_apart h2 ho (by decide)), h3.kept hg (own_apart h3 ho (by decide)), h4.kept hg (own_apart h4 ho (by decide))⟩

/-- A text that is read as this record. -/
def ParseOK (t : ByteArray) (r : RecB) : Prop :=
  ∀ W : World, Calls Tryz.prog 111 #[.string t] W fun e W' => ∃ x0 x1 x2 x3 x4 x5 x6 x7 x8 x9, e = .returned (.tuple #[.agg #[x0, x1, x2, x3, x4, x5, x6, x7, x8, x9], .int .i64 0]) ∧ RecC W' W.heap.size r [x0, x1, x2, x3, x4, x5, x6, x7, x8, x9] ∧ Below W.heap.size W W'

theorem oneR_C (w : World) (base k g : Nat) : RecC w base (oneR k g) [.int .i64 k, .int .i64 g, .slice none 0 0, .slice none 0 0, .string ⟨#[]⟩, .int .i64 0, .int .i64 0, .slice none 0 0, .slice none 0 0, .bool false] :=
  ⟨.slice none 0 0, .slice none 0 0, .slice none 0 0, .slice none 0 0, rfl, by simp [World.ownsRow, oneR], by simp [World.ownsRow, oneR], by simp [World.ownsRow, oneR, noNodeB], by simp [World.ownsRow, oneR, noNodeB]⟩

theorem parseOK_four (g : Nat) (h1 : 1 ≤ g) (h2 : g ≤ 999999) : ParseOK (bs (oneT 4 g)) (oneR 4 g) := fun W => (parse_one_four g W h1 h2).mono fun e W' h => ⟨_, _, _, _, _, _, _, _, _, _, h.1, oneR_C W' W.heap.size 4 g, h.2⟩
theorem parseOK_five (g : Nat) (h1 : 1 ≤ g) (h2 : g ≤ 999999) : ParseOK (bs (oneT 5 g)) (oneR 5 g) := fun W => (parse_one_five g W h1 h2).mono fun e W' h => ⟨_, _, _, _, _, _, _, _, _, _, h.1, oneR_C W' W.heap.size 5 g, h.2⟩
theorem parseOK_six (g : Nat) (h1 : 1 ≤ g) (h2 : g ≤ 999999) : ParseOK (bs (oneT 6 g)) (oneR 6 g) := fun W => (parse_one_six g W h1 h2).mono fun e W' h => ⟨_, _, _, _, _, _, _, _, _, _, h.1, oneR_C W' W.heap.size 6 g, h.2⟩

theorem infoRec : (Tryz.prog.info? 88).map (fun i => (i.zero, i.size, i.bytes)) = some (some (.agg #[.int .i64 0, .int .i64 0, .slice none 0 0, .slice none 0 0, .string ⟨#[]⟩, .int .i64 0, .int .i64 0, .slice none 0 0, .slice none 0 0, .bool false]), 10, 152) := by kernel_rfl
theorem mk_recs (n : Nat) (hn : n ≤ 1000000) (w : World) :
    ∃ cur : Array Value, cur.size = n * 10 ∧ (Instr.makeSlice 120 (.int .i64 0) (.int .i64 n)).run Tryz.prog w = .ok (.slice (some ⟨w.heap.size, 0, none⟩) 0 n) (w.alloc (.cells cur 88)) := by
  obtain ⟨i0, hi, hz0, hz1, hz2⟩ := info_parts infoRec
  have h := run_make (P := Tryz.prog) w 120 88 i0 _ Tryz.underlying120 hi hz0 .i64 .i64 0 n (by omega) (by omega) (by rw [hz2]; omega) (by omega)
  refine ⟨_, ?_, by simpa using h⟩
  rw [hz1]
  simp [madeCells, Value.cells]

/-- A row of lines. -/
def Ln (w : World) (a : Option Addr) (ss : List ByteArray) : Prop := ∀ i, i < ss.length → ∃ x, a = some x ∧ w.cell? (x.add i) = some (.string (ss.getD i ByteArray.empty))
theorem Ln.later {w w1 : World} {a : Option Addr} {ss : List ByteArray} (h : Ln w a ss) (hb : Below w.heap.size w w1) : Ln w1 a ss := fun i hi => by
  obtain ⟨x, hx, hc⟩ := h i hi
  exact ⟨x, hx, cell_below hb hc (block_lt hc)⟩
theorem Ln.of {w : World} {base n c : Nat} {a : Option Addr} {ss : List ByteArray} (h : w.ownsRow base 9 1 (.slice a n c) n (ss.map Value.string)) (hn : ss.length = n) : Ln w a ss := fun i hi => by
  rcases h.2 with ⟨h0, h1⟩ | ⟨g, cap, cur, h0, _⟩
  · omega
  · injection h0 with e1 e2 e3
    exact ⟨⟨g, 0, none⟩, e1, h.cells (g := g) (by rw [e1]; rfl) i _ (by simp [List.getD, List.getElem?_eq_getElem hi])⟩

theorem rec_cells (w : World) (x0 x1 x2 x3 x4 x5 x6 x7 x8 x9 : Value) (t : TypeId) : ∀ j z, [x0, x1, x2, x3, x4, x5, x6, x7, x8, x9][j]? = some z → (w.alloc (.cells #[x0, x1, x2, x3, x4, x5, x6, x7, x8, x9] t)).cell? ((⟨w.heap.size, 0, none⟩ : Addr).add j) = some z := by
  intro j z hj
  have := (Box.new w #[x0, x1, x2, x3, x4, x5, x6, x7, x8, x9] t rfl).cell (i := j) (v := z) (by simpa using hj)
  rcases j with _ | j
  · simpa [Addr.add] using this
  · simpa [Addr.add] using this

theorem RecC.one {w : World} {base : Nat} {r : RecB} {c : List Value} (h : RecC w base r c) : ∀ u ∈ c, u.oneCell' = true := by
  obtain ⟨pv, qv, mv, tv, rfl, h1, h2, h3, h4⟩ := h
  obtain ⟨a1, c1, rfl⟩ := tslice_of_own h1
  obtain ⟨a2, c2, rfl⟩ := tslice_of_own h2
  obtain ⟨a3, c3, rfl⟩ := tslice_of_own h3
  obtain ⟨a4, c4, rfl⟩ := tslice_of_own h4
  intro u hu
  simp at hu
  rcases hu with rfl | rfl | rfl | rfl | rfl | rfl | rfl | rfl | rfl | rfl <;> rfl

set_option maxRecDepth 100000 in
set_option maxHeartbeats 4000000 in
theorem tall_any (w : World) (T : Nat) (v : Value) (A B : List ByteArray) (s : Bool) (rs : List RecB) (h : IsTape w T v (rowOf A B s)) (hn : rs.length = (A ++ B).length) (hp : ∀ i r, rs[i]? = some r → ParseOK ((A ++ B).getD i ByteArray.empty) r) :
    Calls Tryz.prog 69 #[.pointer (some ⟨T, 0, none⟩)] w fun e w' => ∃ a c, ∃ l : List (List Value), e = .returned (.slice a rs.length c) ∧ w'.ownsRow w.heap.size 88 10 (.slice a rs.length c) rs.length l.flatten ∧ l.length = rs.length ∧ (∀ (i : Nat) (r : RecB) (u : List Value), rs[i]? = some r → l[i]? = some u → RecC w' w.heap.size r u) ∧ Below w.heap.size w w' := by
  obtain ⟨a, c, rfl, hcs⟩ := h.cs
  have hlR := hcs.1
  obtain ⟨L, hL⟩ : ∃ L, A ++ B = L := ⟨_, rfl⟩
  have hlL : L.length ≤ 1000000 := by have := rowOf_len A B s; rw [← hL, List.length_append]; omega
  have hX := h.box
  generalize hR : rowOf A B s = R at *
  obtain ⟨cur, hcur, hmk⟩ := mk_recs R.length hlR w
  have hb1 : Below w.heap.size w (w.alloc (.cells cur 88)) := up (Below.refl _ _) _
  have kl := lines_any a c R _ (hcs.later hb1)
  have hlR2 : linesC R = L := by rw [← hR, lines_rowOf, hL]
  rw [hlR2] at kl
  rw [hL] at hn hp
  have hrow0 : (w.alloc (.cells cur 88)).ownsRow w.heap.size 88 10 (.slice (some ⟨w.heap.size, 0, none⟩) 0 R.length) 0 [] := World.ownsRow_made w cur R.length (Nat.le_refl _) (by unfold maxLen; omega) hcur
  have c0 : w.cell? ⟨T, 0, none⟩ = some (.slice a R.length c) := hX.cell rfl
  have c0a : (w.alloc (.cells cur 88)).cell? ⟨T, 0, none⟩ = some (.slice a R.length c) := cell_alloc c0 _
  simp only [World.size_alloc] at kl
  obtain ⟨len, hlen⟩ : ∃ len, L.length = len := ⟨_, rfl⟩
  rw [hlen] at kl hlL hn
  have hn' : Hid (rs.length = len) := hn
  have hlen' : Hid (L.length = len) := hlen
  clear hn hlen hlR2 hL hR h hcs
  go_enter Tryz.func69, Tryz.ntmps69
  go_wp2_with (go_at_call 64; refine kl.mono ?_; rintro e w1 ⟨v1, rfl, ho1, hb2⟩; obtain ⟨a1, c1, rfl⟩ := tslice_of_own ho1)
  have hrow1 := own_later hrow0 (by simpa using hb2)
  have hbw1 : Below w.heap.size w w1 := hb1.trans (hb2.mono (by simp))
  obtain ⟨i0, hi, hz0, hz1, hz2⟩ := info_parts infoRec
  have ho1' := town_low ho1 (Nat.zero_le _)
  clear hmk kl hrow0 c0 c0a hb2 hb1 hX hcur ho1
  go_loopw [3, 20] (fun v i wr => ∃ (k : Nat) (l : List (List Value)), k ≤ len ∧ i = .int .i64 k ∧ Hid (l.length = k) ∧ wr.ownsRow w.heap.size 88 10 v k l.flatten ∧ Hid (∀ (i : Nat) (r : RecB) (u : List Value), rs[i]? = some r → l[i]? = some u → RecC wr w.heap.size r u) ∧ wr.ownsRow 0 9 1 (.slice a1 len c1) len (L.map Value.string) ∧ Below w.heap.size w wr) (fun _ i _ => len - (intOf i).toNat)
  case atStart => exact ⟨0, [], Nat.zero_le _, rfl, rfl, hrow1, (by show ∀ _ _ _, _; intro i r u _ hu; simp at hu), ho1', hbw1⟩
  case round =>
    obtain ⟨k, l, hk, rfl, hlk, hrow, hrc, hlo, hbw⟩ := hrel
    clear hrow1 ho1' hbw1
    by_cases hlt : k < len
    · obtain ⟨x, rfl, hc⟩ := Ln.of hlo hlen'.out k (by rw [hlen'.out]; exact hlt)
      obtain ⟨t, ht⟩ : ∃ t, L.getD k ByteArray.empty = t := ⟨_, rfl⟩
      rw [ht] at hc
      obtain ⟨r, hr⟩ : ∃ r, rs[k]? = some r := ⟨_, List.getElem?_eq_getElem (by rw [hn'.out]; exact hlt)⟩
      have kp := hp k r hr wr
      rw [ht] at kp
      have hsz : w.heap.size ≤ wr.heap.size := hbw.size
      have hr' : Hid (rs[k]? = some r) := hr
      clear ht hr
      obtain ⟨kd, gg, ps, qs, nm, cpu, mem, ms, ts, cl⟩ := r
      go_upto_region 6 with (go_at_call 111; refine kp.mono ?_
                             rintro e w2 ⟨x0, x1, x2, x3, x4, x5, x6, x7, x8, x9, rfl, ⟨pv, qv, mv, tv, he, h1, h2, h3, h4⟩, hb2⟩
                             simp only [List.cons.injEq, and_true] at he
                             obtain ⟨rfl, rfl, rfl, rfl, rfl, rfl, rfl, rfl, rfl, rfl⟩ := he
                             obtain ⟨b1, d1, rfl⟩ := tslice_of_own h1
                             obtain ⟨b2, d2, rfl⟩ := tslice_of_own h2
                             obtain ⟨b3, d3, rfl⟩ := tslice_of_own h3
                             obtain ⟨b4, d4, rfl⟩ := tslice_of_own h4)
      have hC2 : RecC w2 w.heap.size ⟨kd, gg, ps, qs, nm, cpu, mem, ms, ts, cl⟩ [.int .i64 kd, .int .i64 gg, .slice b1 ps.length d1, .slice b2 qs.length d2, .string nm, .int .i64 cpu, .int .i64 mem, .slice b3 ms.length d3, .slice b4 ts.length d4, .bool cl] := RecC.low ⟨_, _, _, _, rfl, h1, h2, h3, h4⟩ hsz
      have hbW : Below wr.heap.size wr (w2.alloc (.cells #[.int .i64 kd, .int .i64 gg, .slice b1 ps.length d1, .slice b2 qs.length d2, .string nm, .int .i64 cpu, .int .i64 mem, .slice b3 ms.length d3, .slice b4 ts.length d4, .bool cl] 88)) := up hb2 _
      have hCW := hC2.later (up (Below.refl w2.heap.size w2) (.cells #[.int .i64 kd, .int .i64 gg, .slice b1 ps.length d1, .slice b2 qs.length d2, .string nm, .int .i64 cpu, .int .i64 mem, .slice b3 ms.length d3, .slice b4 ts.length d4, .bool cl] 88))
      have hrowW := own_later hrow hbW
      have hloW := own_later hlo hbW
      have hbwW := fin hbW hbw
      have q := Box.new w2 #[.int .i64 kd, .int .i64 gg, .slice b1 ps.length d1, .slice b2 qs.length d2, .string nm, .int .i64 cpu, .int .i64 mem, .slice b3 ms.length d3, .slice b4 ts.length d4, .bool cl] 88 rfl
      generalize w2.alloc (.cells #[.int .i64 kd, .int .i64 gg, .slice b1 ps.length d1, .slice b2 qs.length d2, .string nm, .int .i64 cpu, .int .i64 mem, .slice b3 ms.length d3, .slice b4 ts.length d4, .bool cl] 88) = W at *
      obtain ⟨y0, y1, y2, y3, y4, y5, y6, y7, y8, y9⟩ := RecBox.cells q
      have hszW : w.heap.size ≤ W.heap.size := hbwW.size
      have hone := hCW.one
      clear kp h1 h2 h3 h4 hb2 hC2 hc
      go_wp2_with (first
        | (at_builtin; refine wpList_append_own _ rfl _ _ 120 rfl w.heap.size 88 i0 _ 10 152 Tryz.underlying120 hi hz0 hz1 hz2 rfl (by decide) _ _ _ rfl (hrowW.alloc _) ⟨_, 0, none⟩ 1 1 [.int .i64 kd, .int .i64 gg, .slice b1 ps.length d1, .slice b2 qs.length d2, .string nm, .int .i64 cpu, .int .i64 mem, .slice b3 ms.length d3, .slice b4 ts.length d4, .bool cl] rfl rfl (rec_cells _ _ _ _ _ _ _ _ _ _ _ _) hone (by unfold maxLen; omega) (by omega) (by simp; omega) ?_
           intro v4 w4 ho4 hg4 hnil))
      go_roundw
      case rel =>
        refine ⟨k + 1, l ++ [[.int .i64 kd, .int .i64 gg, .slice b1 ps.length d1, .slice b2 qs.length d2, .string nm, .int .i64 cpu, .int .i64 mem, .slice b3 ms.length d3, .slice b4 ts.length d4, .bool cl]], hlt, by go_num, (by show _ = _; rw [List.length_append, hlk.out]; rfl), by simpa using ho4, ?_, ((hloW.alloc _).kept hg4 (own_apart hloW hrowW (by decide))), (hbwW.alloc hszW _).grown hg4 (by simp; omega) (fun j hj => (hrowW.lt j hj).1)⟩
        show ∀ (i : Nat) (r : RecB) (u : List Value), _
        intro i r u hri hui
        have hgr : ∀ {r : RecB} {u : List Value}, RecC W w.heap.size r u → RecC w4 w.heap.size r u := fun h => (h.later (up (Below.refl W.heap.size W) _)).grown (hrowW.alloc _) hg4
        by_cases hik : i < k
        · rw [List.getElem?_append_left (by rw [hlk.out]; exact hik)] at hui
          exact hgr ((hrc.out i r u hri hui).later hbW)
        · have : i = k := by
            have := (List.getElem?_eq_some_iff.1 hui).1
            rw [List.length_append, hlk.out] at this
            simp at this
            omega
          subst this
          rw [List.getElem?_append_right (by rw [hlk.out]; omega), hlk.out] at hui
          simp at hui
          subst hui
          have e := hr'.out
          rw [hri] at e
          injection e with e
          subst e
          exact hgr hCW
      case measure => simp [intOf]; omega
    · have e1 : k = len := by omega
      subst e1
      obtain ⟨ar, cr, rfl⟩ := tslice_of_own hrow
      go_wp2
      go_ret
      exact ⟨ar, cr, l, by rw [hn'.out]; rfl, by rw [hn'.out]; exact hrow, by rw [hlk.out, hn'.out], hrc.out, hbw⟩

end Go.Proofs.YtlehlbgaboifoabGreatDoor

/- A tape among a call's own blocks; the chapter's example; the rest of a division. -/
namespace Go.Proofs.YtlehlbgaboifoabGreatDoor
open Go.RowKit
set_option linter.unusedSimpArgs false
set_option linter.unusedVariables false

/-- A tape in block T, which lies, as its row does, from block B on. -/
def St (B : Nat) (w : World) (T : Nat) (A L : List ByteArray) (s : Bool) : Prop :=
  ∃ v, IsTape w T v (rowOf A L s) ∧ B ≤ T ∧ (∀ g, v.ownBlock = some g → B ≤ g) ∧ (s = false → A = [])

theorem St.later {B T : Nat} {w w' : World} {A L : List ByteArray} {s : Bool} (h : St B w T A L s) (hb : Below w.heap.size w w') : St B w' T A L s := by
  obtain ⟨v, h1, h2⟩ := h
  exact ⟨v, h1.later hb, h2⟩

theorem St.drew {B T : Nat} {w : World} {A L : List ByteArray} {s : Bool} (h : St B w T A L s) : St B w.drew T A L s := h.later (Below.refl _ _).drew

theorem St.put {B T : Nat} {w w' : World} {A' L' : List ByteArray} {s' : Bool} {v v' : Value} (hB : B ≤ w.heap.size) (hT : B ≤ T) (hv : ∀ g, v.ownBlock = some g → B ≤ g) (h : IsTape w' T v' (rowOf A' L' s')) (hK : KT T v w w') (hn : NewOr w v v') (hs : s' = false → A' = []) : St B w' T A' L' s' ∧ Below B w w' :=
  ⟨⟨v', h, hT, fun g hg => by
    rcases hn g hg with h1 | h1
    · exact hv g h1
    · omega, hs⟩, hK.below hT hv hB⟩

theorem new_st (B : Nat) (w : World) (hB : B ≤ w.heap.size) : Calls Tryz.prog 29 #[] w fun e w' => e = .returned (.pointer (some ⟨w.heap.size, 0, none⟩)) ∧ St B w' w.heap.size [] [] false ∧ Below w.heap.size w w' :=
  (tnew_any w).mono fun e w' h => ⟨h.1, ⟨_, h.2.1, hB, by simp [Value.ownBlock], fun _ => rfl⟩, h.2.2⟩

theorem write_st (B T : Nat) (w : World) (A L : List ByteArray) (s : Bool) (x0 x1 x2 x3 x4 x5 x6 x7 x8 x9 : Value) (t : ByteArray) (h : St B w T A L s) (hB : B ≤ w.heap.size) (hl : A.length + L.length < 999990)
    (kc : ∀ W, Below w.heap.size w W → Calls Tryz.prog 34 #[.agg #[x0, x1, x2, x3, x4, x5, x6, x7, x8, x9]] W fun e W' => e = .returned (.int .i64 0) ∧ Below W.heap.size W W')
    (kt : ∀ W, Below w.heap.size w W → Calls Tryz.prog 122 #[.agg #[x0, x1, x2, x3, x4, x5, x6, x7, x8, x9]] W fun e W' => e = .returned (.string t) ∧ Below W.heap.size W W') :
    Calls Tryz.prog 84 #[.pointer (some ⟨T, 0, none⟩), .agg #[x0, x1, x2, x3, x4, x5, x6, x7, x8, x9]] w fun e w' => e = .returned (.tuple #[]) ∧ St B w' T A (L ++ [t]) s ∧ Below B w w' := by
  obtain ⟨v, h1, h2, h3, h4⟩ := h
  refine (write_any w T v A L s x0 x1 x2 x3 x4 x5 x6 x7 x8 x9 t h1 hl kc kt).mono ?_
  rintro e w' ⟨he, v', h5, h6, h7⟩
  have := St.put hB h2 h3 h5 h6 h7 h4
  exact ⟨he, this.1, this.2⟩

theorem crash_st (B T : Nat) (w : World) (A L : List ByteArray) (s : Bool) (n : Int) (k : Nat) (h : St B w T A L s) (hB : B ≤ w.heap.size) (hk : (k : Int) = min (max n 0) L.length) (hl : A.length + L.length < 999990) (hn : -9223372036854775808 ≤ n ∧ n ≤ 9223372036854775807) :
    Calls Tryz.prog 47 #[.pointer (some ⟨T, 0, none⟩), .int .i64 n] w fun e w' => e = .returned (.tuple #[]) ∧ St B w' T (A ++ L.take k) [] true ∧ Below B w w' := by
  obtain ⟨v, h1, h2, h3, h4⟩ := h
  refine (crash_any w T v A L s n k h1 h4 hk (by omega) hn).mono ?_
  rintro e w' ⟨he, v', h5, h6, h7⟩
  have := St.put hB h2 h3 h5 h6 h7 (fun e => by cases e)
  exact ⟨he, this.1, this.2⟩

theorem sync_st (B T : Nat) (w : World) (A L : List ByteArray) (s : Bool) (h : St B w T A L s) (hB : B ≤ w.heap.size) (hl : A.length + L.length < 999990) :
    Calls Tryz.prog 85 #[.pointer (some ⟨T, 0, none⟩)] w fun e w' => e = .returned (.tuple #[]) ∧ St B w' T (A ++ L) [] true ∧ Below B w w' := by
  obtain ⟨v, h1, h2, h3, h4⟩ := h
  refine (sync_any w T v A L s h1 h4 (by omega)).mono ?_
  rintro e w' ⟨he, v', h5, h6, h7⟩
  have := St.put hB h2 h3 h5 h6 h7 (fun e => by cases e)
  exact ⟨he, this.1, this.2⟩

theorem lasting_st (B T : Nat) (w : World) (A L : List ByteArray) (s : Bool) (n : Nat) (h : St B w T A L s) (hn : A.length = n) :
    Calls Tryz.prog 22 #[.pointer (some ⟨T, 0, none⟩)] w fun e w' => e = .returned (.int .i64 n) ∧ w' = w := by
  obtain ⟨v, h1, h2, h3, h4⟩ := h
  subst hn
  exact lasting_any w T v A L s h1 h4

theorem lines_st (B T : Nat) (w : World) (A L : List ByteArray) (s : Bool) (n : Nat) (ss : List ByteArray) (h : St B w T A L s) (hs : A ++ L = ss) (hn : ss.length = n) :
    Calls Tryz.prog 24 #[.pointer (some ⟨T, 0, none⟩)] w fun e w' => ∃ a c, e = .returned (.slice a n c) ∧ w'.ownsRow w.heap.size 9 1 (.slice a n c) n (ss.map Value.string) ∧ Below w.heap.size w w' := by
  obtain ⟨v, h1, h2, h3, h4⟩ := h
  subst hs hn
  exact tlines_any w T v A L s h1

theorem all_st (B T : Nat) (w : World) (A L : List ByteArray) (s : Bool) (n : Nat) (rs : List RecB) (h : St B w T A L s) (hn : rs.length = n) (hnl : n = (A ++ L).length) (hp : ∀ i r, rs[i]? = some r → ParseOK ((A ++ L).getD i ByteArray.empty) r) :
    Calls Tryz.prog 69 #[.pointer (some ⟨T, 0, none⟩)] w fun e w' => ∃ a c, ∃ l : List (List Value), e = .returned (.slice a n c) ∧ w'.ownsRow w.heap.size 88 10 (.slice a n c) n l.flatten ∧ l.length = n ∧ (∀ (i : Nat) (r : RecB) (u : List Value), rs[i]? = some r → l[i]? = some u → RecC w' w.heap.size r u) ∧ Below w.heap.size w w' := by
  obtain ⟨v, h1, h2, h3, h4⟩ := h
  subst hn
  exact tall_any w T v A L s rs h1 hnl hp

theorem check5 (g : Nat) (W : World) (h1 : 1 ≤ g) (h2 : g ≤ 999999) : Calls Tryz.prog 34 #[.agg #[.int .i64 5, .int .i64 g, .slice none 0 0, .slice none 0 0, .string ⟨#[]⟩, .int .i64 0, .int .i64 0, .slice none 0 0, .slice none 0 0, .bool false]] W fun e W' => e = .returned (.int .i64 0) ∧ Below W.heap.size W W' := by
  have := check_five g W
  rwa [gangE_ok g h1 h2] at this
theorem check4 (g : Nat) (W : World) (h1 : 1 ≤ g) (h2 : g ≤ 999999) : Calls Tryz.prog 34 #[.agg #[.int .i64 4, .int .i64 g, .slice none 0 0, .slice none 0 0, .string ⟨#[]⟩, .int .i64 0, .int .i64 0, .slice none 0 0, .slice none 0 0, .bool false]] W fun e W' => e = .returned (.int .i64 0) ∧ Below W.heap.size W W' := by
  have := check_four g W
  rwa [gangE_ok g h1 h2] at this

/-- Write of a record of a number alone. -/
theorem write5 (B T : Nat) (w : World) (A L : List ByteArray) (s : Bool) (g : Nat) (z : Int) (hz : z = g) (h1 : 1 ≤ g) (h2 : g ≤ 999999) (h : St B w T A L s) (hB : B ≤ w.heap.size) (hl : A.length + L.length < 999990) (hT : TabB B w) :
    Calls Tryz.prog 84 #[.pointer (some ⟨T, 0, none⟩), .agg #[.int .i64 5, .int .i64 z, .slice none 0 0, .slice none 0 0, .string ⟨#[]⟩, .int .i64 0, .int .i64 0, .slice none 0 0, .slice none 0 0, .bool false]] w fun e w' => e = .returned (.tuple #[]) ∧ St B w' T A (L ++ [bs (oneT 5 g)]) s ∧ Below B w w' := by
  subst hz
  exact write_st B T w A L s _ _ _ _ _ _ _ _ _ _ _ h hB hl (fun W _ => check5 g W h1 h2) (fun W hb => text_five g W (by omega) ((hT.later hb hB).up (Nat.le_trans hB hb.size)))
theorem write4 (B T : Nat) (w : World) (A L : List ByteArray) (s : Bool) (g : Nat) (z : Int) (hz : z = g) (h1 : 1 ≤ g) (h2 : g ≤ 999999) (h : St B w T A L s) (hB : B ≤ w.heap.size) (hl : A.length + L.length < 999990) (hT : TabB B w) :
    Calls Tryz.prog 84 #[.pointer (some ⟨T, 0, none⟩), .agg #[.int .i64 4, .int .i64 z, .slice none 0 0, .slice none 0 0, .string ⟨#[]⟩, .int .i64 0, .int .i64 0, .slice none 0 0, .slice none 0 0, .bool false]] w fun e w' => e = .returned (.tuple #[]) ∧ St B w' T A (L ++ [bs (oneT 4 g)]) s ∧ Below B w w' := by
  subst hz
  exact write_st B T w A L s _ _ _ _ _ _ _ _ _ _ _ h hB hl (fun W _ => check4 g W h1 h2) (fun W hb => text_four g W (by omega) ((hT.later hb hB).up (Nat.le_trans hB hb.size)))

theorem abort2 : bs (oneT 5 2) = ⟨#[97, 98, 111, 114, 116, 32, 50]⟩ := by kernel_rfl

end Go.Proofs.YtlehlbgaboifoabGreatDoor
