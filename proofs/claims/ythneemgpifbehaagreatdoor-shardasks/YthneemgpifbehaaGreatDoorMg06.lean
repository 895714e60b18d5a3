/- The ledger: what lies in its two maps; worlds that keep all but a ledger's blocks. -/
import Derived.Test.YthneemgpifbehaaGreatDoorMg04
import Derived.Test.YthneemgpifbehaaGreatDoorMg05
import Derived.StringKeys
import Derived.Maps.OwnOps
import Derived.Test.YthneemgpifbehaaGreatDoorMg03
namespace Go.Proofs.YthneemgpifbehaaGreatDoor
open Go.RowKit Go.Maps

/-- A node, where its marks lie, and what is used of it. -/
structure Rec where
  nm : ByteArray
  cpu : Int
  mem : Int
  a1 : Option Addr
  c1 : Nat
  xs : List ByteArray
  a2 : Option Addr
  c2 : Nat
  ys : List ByteArray
  cl : Bool
  u : Int
  m : Int
  k : Int
def Rec.val (r : Rec) : Value := .agg #[.string r.nm, .int .i64 r.cpu, .int .i64 r.mem, .slice r.a1 r.xs.length r.c1, .slice r.a2 r.ys.length r.c2, .bool r.cl, .int .i64 r.u, .int .i64 r.m, .int .i64 r.k]
def zrec : Rec := ⟨.empty, 0, 0, none, 0, [], none, 0, [], false, 0, 0, 0⟩

/-- A place, a gang's places and where they lie. -/
structure Pl where
  pod : ByteArray
  node : ByteArray
  cpu : Int
  mem : Int
  al : Bool
structure Grp where
  a : Option Addr
  c : Nat
  ps : List Pl
def Grp.val (g : Grp) : Value := .slice g.a g.ps.length g.c
def zgrp : Grp := ⟨none, 0, []⟩

theorem zero_stand (w : World) : (zeroValue 161).run Tryz.prog w = .ok zrec.val w := by kernel_rfl
theorem zero_places (w : World) : (zeroValue 50).run Tryz.prog w = .ok zgrp.val w := by kernel_rfl
theorem kS : Keyed Tryz.prog 9 := string_keyed Tryz.underlying9
theorem kI : Keyed Tryz.prog 3 := int_keyed Tryz.underlying3

theorem own_tight {H : Type} {P : Program} {k : TypeId} {R : Value → Option (DataW H × List MemPlace)} {w : World} {b n : Nat} {D : DataW H} (h : w.ownsMap P k R b n D) : w.ownsMap P k R b (Maps.size D) D := by
  obtain ⟨es, clock, hb, F, hs, rfl⟩ := h
  exact ⟨es, clock, hb, F, by simp [Maps.size, length_sorted], rfl⟩
theorem own_map {H : Type} {P : Program} {k : TypeId} {R : Value → Option (DataW H × List MemPlace)} {w : World} {b n : Nat} {D : DataW H} (h : w.ownsMap P k R b n D) : ∃ es c, w.heap[b]? = some (.map es c) := by
  obtain ⟨es, clock, hb, _⟩ := h
  exact ⟨es, clock, hb⟩

/-- The map of the nodes, the map of the gangs. -/
def NOwn (w : World) (b : Nat) (M : List (ByteArray × Rec)) : Prop := w.ownsMap Tryz.prog 9 raw b M.length (encD sK Rec.val M)
def GOwn (w : World) (b : Nat) (M : List (Int × Grp)) : Prop := w.ownsMap Tryz.prog 3 raw b M.length (encD iK Grp.val M)
def NMap (w : World) (p : Option Nat) (M : List (ByteArray × Rec)) : Prop := (p = none ∧ M = []) ∨ ∃ b, p = some b ∧ NOwn w b M
def GMap (w : World) (p : Option Nat) (M : List (Int × Grp)) : Prop := (p = none ∧ M = []) ∨ ∃ b, p = some b ∧ GOwn w b M

theorem NOwn.of {w : World} {b n : Nat} {M : List (ByteArray × Rec)} (h : w.ownsMap Tryz.prog 9 raw b n (encD sK Rec.val M)) : NOwn w b M := by
  have := own_tight h
  rwa [encD_size] at this
theorem GOwn.of {w : World} {b n : Nat} {M : List (Int × Grp)} (h : w.ownsMap Tryz.prog 3 raw b n (encD iK Grp.val M)) : GOwn w b M := by
  have := own_tight h
  rwa [encD_size] at this
theorem NOwn.made (w : World) : NOwn (w.alloc (.map #[] 0)) w.heap.size [] := World.ownsMap_made w _ _ _
theorem GOwn.made (w : World) : GOwn (w.alloc (.map #[] 0)) w.heap.size [] := World.ownsMap_made w _ _ _
theorem NOwn.kept {w w' : World} {b : Nat} {M : List (ByteArray × Rec)} (h : NOwn w b M) (e : w'.heap[b]? = w.heap[b]?) : NOwn w' b M := by
  obtain ⟨es, clock, hb, r⟩ := h
  exact ⟨es, clock, e.trans hb, r⟩
theorem GOwn.kept {w w' : World} {b : Nat} {M : List (Int × Grp)} (h : GOwn w b M) (e : w'.heap[b]? = w.heap[b]?) : GOwn w' b M := by
  obtain ⟨es, clock, hb, r⟩ := h
  exact ⟨es, clock, e.trans hb, r⟩
theorem NOwn.lt {w : World} {b : Nat} {M : List (ByteArray × Rec)} (h : NOwn w b M) : b < w.heap.size := World.ownsMap.lt h
theorem GOwn.lt {w : World} {b : Nat} {M : List (Int × Grp)} (h : GOwn w b M) : b < w.heap.size := World.ownsMap.lt h

theorem sK_inj {a b : ByteArray} (h : sK a = sK b) : a = b := by
  have := sK_same a b
  rw [h, sK_same] at this
  simpa using this
theorem iK_inj {a b : Int} (h : iK a = iK b) : a = b := by simpa [iK] using h
theorem NOwn.apart {w : World} {b : Nat} {M : List (ByteArray × Rec)} (h : NOwn w b M) : Apart M := by
  obtain ⟨es, he, hp⟩ := World.ownsMap.tidy h kS
  simp only [encD, DataW.map.injEq] at he
  subst he
  rw [List.pairwise_map] at hp
  exact hp.imp fun h e => h (by rw [e])
theorem GOwn.apart {w : World} {b : Nat} {M : List (Int × Grp)} (h : GOwn w b M) : Apart M := by
  obtain ⟨es, he, hp⟩ := World.ownsMap.tidy h kI
  simp only [encD, DataW.map.injEq] at he
  subst he
  rw [List.pairwise_map] at hp
  exact hp.imp fun h e => h (by rw [e])
theorem NMap.apart {w : World} {p : Option Nat} {M : List (ByteArray × Rec)} (h : NMap w p M) : Apart M := by
  rcases h with ⟨_, rfl⟩ | ⟨b, _, h⟩
  · exact List.Pairwise.nil
  · exact h.apart
theorem GMap.apart {w : World} {p : Option Nat} {M : List (Int × Grp)} (h : GMap w p M) : Apart M := by
  rcases h with ⟨_, rfl⟩ | ⟨b, _, h⟩
  · exact List.Pairwise.nil
  · exact h.apart

theorem keyS {s : ByteArray} (hs : s.size ≤ maxLen) : keyOf Tryz.prog 9 (.string s) = some (sK s) := WideMaps.keyOf_string_mk Tryz.underlying9 hs
theorem keyI {g : Int} (hg : (Lit.int .i64 g).wf = true) : keyOf Tryz.prog 3 (.int .i64 g) = some (iK g) := keyOf_int_mk Tryz.underlying3 hg

theorem NMap.look2 {w : World} {p : Option Nat} {M : List (ByteArray × Rec)} (h : NMap w p M) (s : ByteArray) (hs : s.size ≤ maxLen) :
    (Instr.lookup 149 (.map p) (.string s) true).run Tryz.prog w = .ok (.tuple #[((look M s).getD zrec).val, .bool (look M s).isSome]) w := by
  rcases h with ⟨rfl, rfl⟩ | ⟨b, rfl, h⟩
  · exact Maps.look_nil true kS Tryz.underlying149 (zero_stand w) (keyS hs)
  · obtain ⟨v, ps, hr, hv⟩ := World.ownsMap.look_ok h kS Tryz.underlying149 (zero_stand w) (zd := .held zrec.val) (zp := []) rfl (keyS hs)
    rw [encD_at sK Rec.val sK_same] at hv
    rw [hr, encD_has sK Rec.val sK_same]
    simp only [raw, Option.some.injEq, Prod.mk.injEq, DataW.held.injEq] at hv
    rw [hv.1]
    cases look M s <;> rfl
theorem NMap.look1 {w : World} {p : Option Nat} {M : List (ByteArray × Rec)} (h : NMap w p M) (s : ByteArray) (hs : s.size ≤ maxLen) :
    (Instr.lookup 149 (.map p) (.string s) false).run Tryz.prog w = .ok ((look M s).getD zrec).val w := by
  rcases h with ⟨rfl, rfl⟩ | ⟨b, rfl, h⟩
  · exact Maps.look_nil false kS Tryz.underlying149 (zero_stand w) (keyS hs)
  · obtain ⟨v, ps, hr, hv⟩ := World.ownsMap.lookup h kS Tryz.underlying149 (zero_stand w) (zd := .held zrec.val) (zp := []) rfl (keyS hs)
    rw [encD_at sK Rec.val sK_same] at hv
    rw [hr]
    simp only [raw, Option.some.injEq, Prod.mk.injEq, DataW.held.injEq] at hv
    rw [hv.1]
    cases look M s <;> rfl
theorem GMap.look2 {w : World} {p : Option Nat} {M : List (Int × Grp)} (h : GMap w p M) (g : Int) (hs : (Lit.int .i64 g).wf = true) :
    (Instr.lookup 150 (.map p) (.int .i64 g) true).run Tryz.prog w = .ok (.tuple #[((look M g).getD zgrp).val, .bool (look M g).isSome]) w := by
  rcases h with ⟨rfl, rfl⟩ | ⟨b, rfl, h⟩
  · exact Maps.look_nil true kI Tryz.underlying150 (zero_places w) (keyI hs)
  · obtain ⟨v, ps, hr, hv⟩ := World.ownsMap.look_ok h kI Tryz.underlying150 (zero_places w) (zd := .held zgrp.val) (zp := []) rfl (keyI hs)
    rw [encD_at iK Grp.val iK_same] at hv
    rw [hr, encD_has iK Grp.val iK_same]
    simp only [raw, Option.some.injEq, Prod.mk.injEq, DataW.held.injEq] at hv
    rw [hv.1]
    cases look M g <;> rfl
theorem GMap.look1 {w : World} {p : Option Nat} {M : List (Int × Grp)} (h : GMap w p M) (g : Int) (hs : (Lit.int .i64 g).wf = true) :
    (Instr.lookup 150 (.map p) (.int .i64 g) false).run Tryz.prog w = .ok ((look M g).getD zgrp).val w := by
  rcases h with ⟨rfl, rfl⟩ | ⟨b, rfl, h⟩
  · exact Maps.look_nil false kI Tryz.underlying150 (zero_places w) (keyI hs)
  · obtain ⟨v, ps, hr, hv⟩ := World.ownsMap.lookup h kI Tryz.underlying150 (zero_places w) (zd := .held zgrp.val) (zp := []) rfl (keyI hs)
    rw [encD_at iK Grp.val iK_same] at hv
    rw [hr]
    simp only [raw, Option.some.injEq, Prod.mk.injEq, DataW.held.injEq] at hv
    rw [hv.1]
    cases look M g <;> rfl
theorem NMap.len {w : World} {p : Option Nat} {M : List (ByteArray × Rec)} (h : NMap w p M) (ty : TypeId) : (Builtin.len_ #[149] ty #[.map p]).run Tryz.prog w = .ok (.int .i64 M.length) w := by
  rcases h with ⟨rfl, rfl⟩ | ⟨b, rfl, h⟩
  · exact Maps.len_nil Tryz.underlying149 ty
  · have := World.ownsMap.len h Tryz.underlying149 ty
    rwa [encD_size] at this

theorem NOwn.put {w' : World} {b n : Nat} {M : List (ByteArray × Rec)} {s : ByteArray} {r : Rec} (h : w'.ownsMap Tryz.prog 9 raw b n ((encD sK Rec.val M).put (sK s) (.held r.val))) : NOwn w' b (put sK M s r) := by
  rw [encD_put sK Rec.val sK_same] at h
  exact .of h
theorem GOwn.put {w' : World} {b n : Nat} {M : List (Int × Grp)} {s : Int} {r : Grp} (h : w'.ownsMap Tryz.prog 3 raw b n ((encD iK Grp.val M).put (iK s) (.held r.val))) : GOwn w' b (put iK M s r) := by
  rw [encD_put iK Grp.val iK_same] at h
  exact .of h
theorem NOwn.del {w' : World} {b n : Nat} {M : List (ByteArray × Rec)} {s : ByteArray} (h : w'.ownsMap Tryz.prog 9 raw b n ((encD sK Rec.val M).del (sK s))) : NOwn w' b (del M s) := by
  rw [encD_del sK Rec.val sK_same] at h
  exact .of h
theorem GOwn.del {w' : World} {b n : Nat} {M : List (Int × Grp)} {s : Int} (h : w'.ownsMap Tryz.prog 3 raw b n ((encD iK Grp.val M).del (iK s))) : GOwn w' b (del M s) := by
  rw [encD_del iK Grp.val iK_same] at h
  exact .of h

/-- All but these blocks is as it was. -/
structure Kept (fp : Nat → Prop) (w w' : World) : Prop where
  os : w'.os = w.os
  tape : w'.tape = w.tape
  output : w'.output = w.output
  size : w.heap.size ≤ w'.heap.size
  block : ∀ k, k < w.heap.size → ¬ fp k → w'.heap[k]? = w.heap[k]?

variable {fp : Nat → Prop} {w w' w'' : World}
theorem Kept.refl (fp : Nat → Prop) (w : World) : Kept fp w w := ⟨rfl, rfl, rfl, Nat.le_refl _, fun _ _ _ => rfl⟩
theorem Kept.trans (h : Kept fp w w') (h' : Kept fp w' w'') : Kept fp w w'' :=
  ⟨h'.os.trans h.os, h'.tape.trans h.tape, h'.output.trans h.output, Nat.le_trans h.size h'.size, fun k hk hn => (h'.block k (Nat.lt_of_lt_of_le hk h.size) hn).trans (h.block k hk hn)⟩
theorem Kept.trans' {fp' : Nat → Prop} (h : Kept fp w w') (h' : Kept fp' w' w'') (hf : ∀ b, fp' b → fp b ∨ w.heap.size ≤ b) : Kept fp w w'' :=
  ⟨h'.os.trans h.os, h'.tape.trans h.tape, h'.output.trans h.output, Nat.le_trans h.size h'.size, fun k hk hn =>
    (h'.block k (Nat.lt_of_lt_of_le hk h.size) (fun hk' => (hf k hk').elim hn (fun h => absurd hk (by omega)))).trans (h.block k hk hn)⟩
theorem Kept.of_below (h : Below w.heap.size w w') : Kept fp w w' := ⟨h.os, h.tape, h.output, h.size, fun k hk _ => h.block k hk⟩
theorem Kept.of_grown {b : Nat} (h : w.grownBy w' (some b)) (hb : fp b) : Kept fp w w' :=
  ⟨h.os, h.tape, h.output, h.size, fun k hk hn => h.block k hk (fun e => hn (by cases e; exact hb))⟩
theorem Kept.box {B : Nat} {cs : Array Value} {t : TypeId} (h : Kept fp w w') (hB : Box w B cs t) (hn : ¬ fp B) : Box w' B cs t := by
  unfold Box at *
  rw [h.block B (Array.getElem?_eq_some_iff.1 hB).1 hn, hB]
theorem Kept.below {B : Nat} (h : Kept fp w w') (hB : B ≤ w.heap.size) (hf : ∀ b, fp b → B ≤ b) : Below B w w' :=
  ⟨h.os, h.tape, h.output, h.size, fun k hk => h.block k (by omega) (fun h' => by have := hf k h'; omega)⟩
theorem Kept.wide {fp' : Nat → Prop} (h : Kept fp w w') (hf : ∀ b, fp b → fp' b) : Kept fp' w w' := ⟨h.os, h.tape, h.output, h.size, fun k hk hn => h.block k hk (fun h' => hn (hf k h'))⟩

/-- Rows of texts, of places, that stay. -/
theorem add_block (x : Addr) (i : Nat) : (x.add i).block = x.block := by
  unfold Addr.add
  split <;> rfl
theorem Strs.frame {a : Option Addr} {ss : List ByteArray} (h : Strs w a ss) (hk : ∀ x, a = some x → ss ≠ [] → w'.heap[x.block]? = w.heap[x.block]?) : Strs w' a ss :=
  ⟨h.1, fun i hi => by
    obtain ⟨x, hx, hc⟩ := h.2 i hi
    refine ⟨x, hx, ?_⟩
    rw [← hc]
    exact World.cell?_of_block (by have := hk x hx (by intro e; simp [e] at hi); rw [add_block]; exact this)⟩
theorem Strs.lt {a : Option Addr} {ss : List ByteArray} (h : Strs w a ss) {x : Addr} (hx : a = some x) (hne : ss ≠ []) : x.block < w.heap.size := by
  obtain ⟨y, hy, hc⟩ := h.2 0 (by cases ss with | nil => exact absurd rfl hne | cons => simp)
  obtain rfl : x = y := by rw [hx] at hy; exact Option.some.inj hy
  have := block_lt hc
  rwa [add_block] at this
theorem Box.cells6' {B : Nat} {t : TypeId} {x0 x1 x2 x3 x4 x5 x6 x7 x8 : Value} (h : Box w B #[x0, x1, x2, x3, x4, x5, x6, x7, x8] t) : w.cell? ⟨B, 0, none⟩ = some x0 ∧ w.cell? ⟨B, 1, none⟩ = some x1 ∧ w.cell? ⟨B, 2, none⟩ = some x2 ∧ w.cell? ⟨B, 3, none⟩ = some x3 ∧ w.cell? ⟨B, 4, none⟩ = some x4 ∧ w.cell? ⟨B, 5, none⟩ = some x5 :=
  ⟨h.cell rfl, h.cell rfl, h.cell rfl, h.cell rfl, h.cell rfl, h.cell rfl⟩
theorem Box.cells9 {B : Nat} {t : TypeId} {x0 x1 x2 x3 x4 x5 x6 x7 x8 : Value} (h : Box w B #[x0, x1, x2, x3, x4, x5, x6, x7, x8] t) : w.cell? ⟨B, 0, none⟩ = some x0 ∧ w.cell? ⟨B, 1, none⟩ = some x1 ∧ w.cell? ⟨B, 2, none⟩ = some x2 ∧ w.cell? ⟨B, 3, none⟩ = some x3 ∧ w.cell? ⟨B, 4, none⟩ = some x4 ∧ w.cell? ⟨B, 5, none⟩ = some x5 ∧ w.cell? ⟨B, 6, none⟩ = some x6 ∧ w.cell? ⟨B, 7, none⟩ = some x7 ∧ w.cell? ⟨B, 8, none⟩ = some x8 :=
  ⟨h.cell rfl, h.cell rfl, h.cell rfl, h.cell rfl, h.cell rfl, h.cell rfl, h.cell rfl, h.cell rfl, h.cell rfl⟩
theorem map_no_cell {b : Nat} {es : Array MapEntry} {c : Nat} (hb : w.heap[b]? = some (.map es c)) (a : Addr) (ha : a.block = b) : w.cell? a = none := by
  unfold World.cell?
  rw [ha, hb]
theorem Strs.grown {a : Option Addr} {ss : List ByteArray} {b : Nat} (h : Strs w a ss) (hg : w.grownBy w' (some b)) (hb : ∃ es c, w.heap[b]? = some (.map es c)) : Strs w' a ss := by
  obtain ⟨es, c, hb⟩ := hb
  refine h.frame fun x hx hne => ?_
  obtain ⟨x', hx', hc⟩ := h.2 0 (by cases ss with | nil => exact absurd rfl hne | cons => simp)
  obtain rfl : x = x' := by rw [hx] at hx'; exact Option.some.inj hx'
  refine hg.block _ (by have := block_lt hc; rwa [add_block] at this) fun e => ?_
  rw [map_no_cell hb _ (by rw [add_block]; exact Option.some.inj e)] at hc
  cases hc

def PlAt (w : World) (B o : Nat) (p : Pl) : Prop :=
  w.cell? ⟨B, o, none⟩ = some (.string p.pod) ∧ w.cell? ⟨B, o + 1, none⟩ = some (.string p.node) ∧ w.cell? ⟨B, o + 2, none⟩ = some (.int .i64 p.cpu) ∧ w.cell? ⟨B, o + 3, none⟩ = some (.int .i64 p.mem) ∧ w.cell? ⟨B, o + 4, none⟩ = some (.bool p.al)
def Pls (w : World) (a : Option Addr) (l : List Pl) : Prop := l.length ≤ 1000 ∧ ∀ i p, l[i]? = some p → ∃ B o, a = some ⟨B, o, none⟩ ∧ PlAt w B (o + i * 5) p
theorem PlAt.frame {B o : Nat} {p : Pl} (h : PlAt w B o p) (hk : w'.heap[B]? = w.heap[B]?) : PlAt w' B o p := by
  obtain ⟨h0, h1, h2, h3, h4⟩ := h
  exact ⟨(World.cell?_of_block hk).trans h0, (World.cell?_of_block hk).trans h1, (World.cell?_of_block hk).trans h2, (World.cell?_of_block hk).trans h3, (World.cell?_of_block hk).trans h4⟩
theorem Pls.frame {a : Option Addr} {l : List Pl} (h : Pls w a l) (hk : ∀ x, a = some x → l ≠ [] → w'.heap[x.block]? = w.heap[x.block]?) : Pls w' a l :=
  ⟨h.1, fun i p hp => by
    obtain ⟨B, o, ha, hc⟩ := h.2 i p hp
    exact ⟨B, o, ha, hc.frame (hk _ ha (by intro e; simp [e] at hp))⟩⟩
theorem Pls.lt {a : Option Addr} {l : List Pl} (h : Pls w a l) {x : Addr} (hx : a = some x) (hne : l ≠ []) : x.block < w.heap.size := by
  cases l with
  | nil => exact absurd rfl hne
  | cons p t =>
    obtain ⟨B, o, ha, hc⟩ := h.2 0 p rfl
    have := block_lt hc.1
    rw [hx] at ha
    cases ha
    exact this
theorem Pls.later {a : Option Addr} {l : List Pl} (h : Pls w a l) (hb : Below w.heap.size w w') : Pls w' a l := h.frame fun _ hx hne => hb.block _ (h.lt hx hne)
theorem Pls.grown {a : Option Addr} {l : List Pl} {b : Nat} (h : Pls w a l) (hg : w.grownBy w' (some b)) (hb : ∃ es c, w.heap[b]? = some (.map es c)) : Pls w' a l := by
  obtain ⟨es, c, hb⟩ := hb
  refine h.frame fun x hx hne => hg.block _ (h.lt hx hne) fun e => ?_
  cases l with
  | nil => exact hne rfl
  | cons p t =>
    obtain ⟨B, o, ha, hc⟩ := h.2 0 p rfl
    rw [hx] at ha
    cases ha
    have := hc.1
    rw [map_no_cell hb _ (by simpa using Option.some.inj e)] at this
    cases this

/-- A row's address points to no part of a cell. -/
def SP (a : Option Addr) : Prop := ∀ x, a = some x → x.spot = none
theorem SP.none : SP none := fun _ h => by cases h
theorem SP.some (b o : Nat) : SP (some ⟨b, o, .none⟩) := fun x h => by cases h; rfl

/-- What a record, a gang's places lean on is there, in these blocks. -/
structure Rec.Ok (w : World) (fp : Nat → Prop) (r : Rec) : Prop where
  h1 : Strs w r.a1 r.xs
  h2 : Strs w r.a2 r.ys
  f1 : ∀ x, r.a1 = some x → r.xs ≠ [] → fp x.block
  f2 : ∀ x, r.a2 = some x → r.ys ≠ [] → fp x.block
  s1 : SP r.a1
  s2 : SP r.a2
structure Grp.Ok (w : World) (fp : Nat → Prop) (g : Grp) : Prop where
  h : Pls w g.a g.ps
  f : ∀ x, g.a = some x → g.ps ≠ [] → fp x.block
  c : g.ps.length ≤ g.c
  s : SP g.a
theorem Rec.Ok.frame {r : Rec} (h : r.Ok w fp) (hk : ∀ b, fp b → w'.heap[b]? = w.heap[b]?) : r.Ok w' fp :=
  ⟨h.h1.frame fun x hx hn => hk _ (h.f1 x hx hn), h.h2.frame fun x hx hn => hk _ (h.f2 x hx hn), h.f1, h.f2, h.s1, h.s2⟩
theorem Grp.Ok.frame {g : Grp} (h : g.Ok w fp) (hk : ∀ b, fp b → w'.heap[b]? = w.heap[b]?) : g.Ok w' fp := ⟨h.h.frame fun x hx hn => hk _ (h.f x hx hn), h.f, h.c, h.s⟩
theorem Rec.Ok.grown {r : Rec} {b : Nat} (h : r.Ok w fp) (hg : w.grownBy w' (some b)) (hb : ∃ es c, w.heap[b]? = some (.map es c)) : r.Ok w' fp := ⟨h.h1.grown hg hb, h.h2.grown hg hb, h.f1, h.f2, h.s1, h.s2⟩
theorem Grp.Ok.grown {g : Grp} {b : Nat} (h : g.Ok w fp) (hg : w.grownBy w' (some b)) (hb : ∃ es c, w.heap[b]? = some (.map es c)) : g.Ok w' fp := ⟨h.h.grown hg hb, h.f, h.c, h.s⟩
theorem Rec.Ok.wide {r : Rec} {fp' : Nat → Prop} (h : r.Ok w fp) (hf : ∀ b, fp b → fp' b) : r.Ok w fp' := ⟨h.h1, h.h2, fun x hx hn => hf _ (h.f1 x hx hn), fun x hx hn => hf _ (h.f2 x hx hn), h.s1, h.s2⟩
theorem Grp.Ok.wide {g : Grp} {fp' : Nat → Prop} (h : g.Ok w fp) (hf : ∀ b, fp b → fp' b) : g.Ok w fp' := ⟨h.h, fun x hx hn => hf _ (h.f x hx hn), h.c, h.s⟩
theorem zrec_ok (w : World) (fp : Nat → Prop) : zrec.Ok w fp := ⟨⟨by simp [zrec], by simp [zrec]⟩, ⟨by simp [zrec], by simp [zrec]⟩, by simp [zrec], by simp [zrec], SP.none, SP.none⟩

/-- Block L is a ledger that has these nodes and gangs, in these blocks. -/
structure IsL (w : World) (L : Nat) (fp : Nat → Prop) (p q : Option Nat) (E : List (ByteArray × Rec)) (G : List (Int × Grp)) : Prop where
  box : Box w L #[.map p, .map q] 152
  nodes : NMap w p E
  gangs : GMap w q G
  both : p = none ↔ q = none
  fL : fp L
  fp1 : ∀ b, p = some b → fp b
  fp2 : ∀ b, q = some b → fp b
  ne : ∀ b, p = some b → q ≠ some b
  lt : ∀ b, fp b → b < w.heap.size
  okE : ∀ e ∈ E, e.2.Ok w fp
  okG : ∀ e ∈ G, e.2.Ok w fp

variable {L : Nat} {p q : Option Nat} {E : List (ByteArray × Rec)} {G : List (Int × Grp)}
theorem IsL.frame (h : IsL w L fp p q E G) (hk : ∀ b, fp b → w'.heap[b]? = w.heap[b]?) (hs : w.heap.size ≤ w'.heap.size) : IsL w' L fp p q E G where
  box := by have := h.box; unfold Box at *; rw [hk L h.fL, this]
  nodes := by
    rcases h.nodes with hn | ⟨b, hb, hn⟩
    · exact .inl hn
    · exact .inr ⟨b, hb, hn.kept (hk b (h.fp1 b hb))⟩
  gangs := by
    rcases h.gangs with hn | ⟨b, hb, hn⟩
    · exact .inl hn
    · exact .inr ⟨b, hb, hn.kept (hk b (h.fp2 b hb))⟩
  both := h.both
  fL := h.fL
  fp1 := h.fp1
  fp2 := h.fp2
  ne := h.ne
  lt := fun b hb => Nat.lt_of_lt_of_le (h.lt b hb) hs
  okE := fun e he => (h.okE e he).frame hk
  okG := fun e he => (h.okG e he).frame hk
theorem IsL.later (h : IsL w L fp p q E G) (hb : Below w.heap.size w w') : IsL w' L fp p q E G := h.frame (fun b hf => hb.block b (h.lt b hf)) hb.size
theorem IsL.set (h : IsL w L fp p q E G) {b : Nat} (hb : ¬ fp b) (i : Nat) (v : Value) : IsL (w.setCell ⟨b, i, none⟩ v) L fp p q E G :=
  h.frame (fun k hk => RowKit.Below.heap_setCell _ _ _ _ (fun e => hb (by rw [show b = k from e.symm]; exact hk))) (by simp)
theorem IsL.wide (h : IsL w L fp p q E G) {fp' : Nat → Prop} (hf : ∀ b, fp b → fp' b) (hl : ∀ b, fp' b → b < w.heap.size) : IsL w L fp' p q E G :=
  ⟨h.box, h.nodes, h.gangs, h.both, hf _ h.fL, fun b hb => hf _ (h.fp1 b hb), fun b hb => hf _ (h.fp2 b hb), h.ne, hl, fun e he => (h.okE e he).wide hf, fun e he => (h.okG e he).wide hf⟩
theorem IsL.outs (h : IsL w L fp p q E G) : ¬ fp w.heap.size := fun hf => by have := h.lt _ hf; omega

theorem own_ne {b : Nat} {o : Obj} {M : List (ByteArray × Rec)} (h : NOwn w b M) (c : Nat) (hc : w.heap[c]? = some o) (hn : ∀ es k, o ≠ .map es k) : b ≠ c := by
  rintro rfl
  obtain ⟨es, k, hb⟩ := own_map h
  rw [hb] at hc
  cases hc
  exact hn es k rfl
/-- The map of the nodes turned. -/
theorem IsL.turnN {b : Nat} {E' : List (ByteArray × Rec)} (h : IsL w L fp (some b) q E G) (hn : NOwn w' b E') (hg : w.grownBy w' (some b)) (hE : ∀ e ∈ E', e.2.Ok w' fp) : IsL w' L fp (some b) q E' G := by
  obtain ⟨b', hb', hn0⟩ := h.nodes.resolve_left (by simp)
  cases hb'
  have hm := own_map hn0
  have hL : b ≠ L := own_ne hn0 L h.box (by intro es k e; cases e)
  refine ⟨h.box.grown hg (by simpa using Ne.symm hL), .inr ⟨b, rfl, hn⟩, ?_, h.both, h.fL, h.fp1, h.fp2, h.ne, fun c hc => Nat.lt_of_lt_of_le (h.lt c hc) hg.size, hE, fun e he => (h.okG e he).grown hg hm⟩
  rcases h.gangs with hq | ⟨c, hc, hq⟩
  · exact .inl hq
  · exact .inr ⟨c, hc, hq.kept (hg.block c hq.lt (by have := h.ne b rfl; rw [hc] at this; simpa using this))⟩
theorem IsL.delN {b : Nat} {s : ByteArray} (h : IsL w L fp (some b) q E G) (hn : NOwn w' b (del E s)) (hg : w.grownBy w' (some b)) : IsL w' L fp (some b) q (del E s) G := by
  obtain ⟨b', hb', hn0⟩ := h.nodes.resolve_left (by simp)
  cases hb'
  exact h.turnN hn hg fun e he => (h.okE e (mem_del.1 he).1).grown hg (own_map hn0)
theorem IsL.putN {b : Nat} {s : ByteArray} {r : Rec} (h : IsL w L fp (some b) q E G) (hn : NOwn w' b (put sK E s r)) (hg : w.grownBy w' (some b)) (hr : r.Ok w fp) : IsL w' L fp (some b) q (put sK E s r) G := by
  obtain ⟨b', hb', hn0⟩ := h.nodes.resolve_left (by simp)
  cases hb'
  refine h.turnN hn hg fun e he => ?_
  rcases (mem_put sK).1 he with rfl | ⟨he, _⟩
  · exact hr.grown hg (own_map hn0)
  · exact (h.okE e he).grown hg (own_map hn0)
/-- The map of the gangs turned. -/
theorem IsL.turnG {b : Nat} {G' : List (Int × Grp)} (h : IsL w L fp p (some b) E G) (hn : GOwn w' b G') (hg : w.grownBy w' (some b)) (hG : ∀ e ∈ G', e.2.Ok w' fp) : IsL w' L fp p (some b) E G' := by
  obtain ⟨b', hb', hn0⟩ := h.gangs.resolve_left (by simp)
  cases hb'
  have hm := own_map hn0
  have hL : b ≠ L := by
    rintro rfl
    obtain ⟨es, k, hb⟩ := hm
    have := h.box
    unfold Box at this
    rw [hb] at this
    cases this
  refine ⟨h.box.grown hg (by simpa using Ne.symm hL), ?_, .inr ⟨b, rfl, hn⟩, h.both, h.fL, h.fp1, h.fp2, h.ne, fun c hc => Nat.lt_of_lt_of_le (h.lt c hc) hg.size, fun e he => (h.okE e he).grown hg hm, hG⟩
  rcases h.nodes with hq | ⟨c, hc, hq⟩
  · exact .inl hq
  · exact .inr ⟨c, hc, hq.kept (hg.block c hq.lt (by have := h.ne c hc; intro e; exact this e.symm))⟩
theorem IsL.delG {b : Nat} {g : Int} (h : IsL w L fp p (some b) E G) (hn : GOwn w' b (del G g)) (hg : w.grownBy w' (some b)) : IsL w' L fp p (some b) E (del G g) := by
  obtain ⟨b', hb', hn0⟩ := h.gangs.resolve_left (by simp)
  cases hb'
  exact h.turnG hn hg fun e he => (h.okG e (mem_del.1 he).1).grown hg (own_map hn0)
theorem IsL.putG {b : Nat} {g : Int} {r : Grp} (h : IsL w L fp p (some b) E G) (hn : GOwn w' b (put iK G g r)) (hg : w.grownBy w' (some b)) (hr : r.Ok w fp) : IsL w' L fp p (some b) E (put iK G g r) := by
  obtain ⟨b', hb', hn0⟩ := h.gangs.resolve_left (by simp)
  cases hb'
  refine h.turnG hn hg fun e he => ?_
  rcases (mem_put iK).1 he with rfl | ⟨he, _⟩
  · exact hr.grown hg (own_map hn0)
  · exact (h.okG e he).grown hg (own_map hn0)

end Go.Proofs.YthneemgpifbehaaGreatDoor

/- Maps by gangs' numbers; what is undecided of a gang, what is decided. -/
namespace Go.Proofs.YthneemgpifbehaaGreatDoor
open Go.RowKit Go.Maps

/-- What is undecided of a gang: for how long it is held, or for how long it has been prepared, and who else may know. -/
inductive Und
  | held (n : Int)
  | prep (age : Int) (a : Option Addr) (c : Nat) (zs : List Nat)
def Und.val : Und → Value
  | .held n => .iface 97 (.int .i64 n)
  | .prep age a c zs => .iface 115 (.agg #[.int .i64 age, .slice a zs.length c])
def dval (s : Int) : Value := .int .i64 s

/-- A map by numbers. -/
def MOwn {ρ : Type} (val : ρ → Value) (w : World) (b : Nat) (M : List (Int × ρ)) : Prop := w.ownsMap Tryz.prog 3 raw b M.length (encD iK val M)
section
variable {ρ : Type} {val : ρ → Value} {w w' : World} {b n : Nat} {M : List (Int × ρ)}
theorem MOwn.of (h : w.ownsMap Tryz.prog 3 raw b n (encD iK val M)) : MOwn val w b M := by
  have := own_tight h
  rwa [encD_size] at this
theorem MOwn.made (w : World) : MOwn val (w.alloc (.map #[] 0)) w.heap.size [] := World.ownsMap_made w _ _ _
theorem MOwn.kept (h : MOwn val w b M) (e : w'.heap[b]? = w.heap[b]?) : MOwn val w' b M := by
  obtain ⟨es, clock, hb, r⟩ := h
  exact ⟨es, clock, e.trans hb, r⟩
theorem MOwn.lt (h : MOwn val w b M) : b < w.heap.size := World.ownsMap.lt h
theorem MOwn.later (h : MOwn val w b M) (hb : Below w.heap.size w w') : MOwn val w' b M := h.kept (hb.block _ h.lt)
theorem MOwn.apart (h : MOwn val w b M) : Apart M := by
  obtain ⟨es, he, hp⟩ := World.ownsMap.tidy h kI
  simp only [encD, DataW.map.injEq] at he
  subst he
  rw [List.pairwise_map] at hp
  exact hp.imp fun h e => h (by rw [e])
theorem MOwn.put {s : Int} {r : ρ} (h : w'.ownsMap Tryz.prog 3 raw b n ((encD iK val M).put (iK s) (.held (val r)))) : MOwn val w' b (put iK M s r) := by
  rw [encD_put iK val iK_same] at h
  exact .of h
theorem MOwn.del {s : Int} (h : w'.ownsMap Tryz.prog 3 raw b n ((encD iK val M).del (iK s))) : MOwn val w' b (del M s) := by
  rw [encD_del iK val iK_same] at h
  exact .of h
/-- What is looked up, with whether it is there. -/
theorem MOwn.look2 (h : MOwn val w b M) {t e : TypeId} (z : Value) (hu : Tryz.prog.underlying t = some (.map 3 e)) (hz : (zeroValue e).run Tryz.prog w = .ok z w) (g : Int) (hg : (Lit.int .i64 g).wf = true) :
    (Instr.lookup t (.map (some b)) (.int .i64 g) true).run Tryz.prog w = .ok (.tuple #[((look M g).map val).getD z, .bool (look M g).isSome]) w := by
  obtain ⟨v, ps, hr, hv⟩ := World.ownsMap.look_ok h kI hu hz (zd := .held z) (zp := []) rfl (keyI hg)
  rw [encD_at iK val iK_same] at hv
  rw [hr, encD_has iK val iK_same]
  simp only [raw, Option.some.injEq, Prod.mk.injEq, DataW.held.injEq] at hv
  rw [hv.1]
theorem MOwn.look1 (h : MOwn val w b M) {t e : TypeId} (z : Value) (hu : Tryz.prog.underlying t = some (.map 3 e)) (hz : (zeroValue e).run Tryz.prog w = .ok z w) (g : Int) (hg : (Lit.int .i64 g).wf = true) :
    (Instr.lookup t (.map (some b)) (.int .i64 g) false).run Tryz.prog w = .ok (((look M g).map val).getD z) w := by
  obtain ⟨v, ps, hr, hv⟩ := World.ownsMap.lookup h kI hu hz (zd := .held z) (zp := []) rfl (keyI hg)
  rw [encD_at iK val iK_same] at hv
  rw [hr]
  simp only [raw, Option.some.injEq, Prod.mk.injEq, DataW.held.injEq] at hv
  rw [hv.1]
theorem MOwn.update (h : MOwn val w b M) {t e : TypeId} (hu : Tryz.prog.underlying t = some (.map 3 e)) (g : Int) (hg : (Lit.int .i64 g).wf = true) (hM : M.length ≤ 1000000) (r : ρ) :
    ∃ w', (Instr.mapUpdate t (.map (some b)) (.int .i64 g) (val r)).run Tryz.prog w = .ok () w' ∧ MOwn val w' b (Go.Proofs.YthneemgpifbehaaGreatDoor.put iK M g r) ∧ w.grownBy w' (some b) := by
  obtain ⟨w9, hrun, hown, hgrow⟩ := World.ownsMap.update (show w.ownsMap Tryz.prog 3 raw b M.length (encD iK val M) from h) kI hu (by unfold maxLen; omega) (keyI hg) (val := val r) (d := .held (val r)) (ps := []) rfl
  exact ⟨w9, hrun, MOwn.put hown, hgrow⟩
end

theorem zero_any (w : World) : (zeroValue 20).run Tryz.prog w = .ok .nilIface w := by kernel_rfl
theorem zero_int (w : World) : (zeroValue 3).run Tryz.prog w = .ok (.int .i64 0) w := by kernel_rfl

end Go.Proofs.YthneemgpifbehaaGreatDoor

/- The contracts of Add and Sub of package vec. -/
namespace Go.Proofs.YthneemgpifbehaaGreatDoor
open Go.RowKit

theorem raised_x (x y : Int) (w : World) :
    Calls Tryz.prog 238 #[.agg #[.int .i64 x, .int .i64 y]] w fun e w' => e = .returned (.agg #[.int .i64 (max x 0), .int .i64 (max y 0)]) ∧
      w' = (w.alloc (V x y)).alloc (V (max x 0) (max y 0)) := by
  have hx : max x 0 = if x < 0 then 0 else x := by omega
  have hy : max y 0 = if y < 0 then 0 else y := by omega
  rw [hx, hy]
  clear hx hy
  by_cases h1 : x < 0 <;> by_cases h2 : y < 0 <;> simp only [h1, h2, if_true, if_false]
  all_goals
    go_enter Tryz.func238, Tryz.ntmps238
    go_wp2
    refine bodyPost_ret (by simp [results, Tryz.results238, go_sem]) rfl ⟨rfl, rfl⟩

theorem greater_x (x y u v : Int) (w : World) :
    Calls Tryz.prog 167 #[.agg #[.int .i64 x, .int .i64 y], .agg #[.int .i64 u, .int .i64 v]] w fun e w' => e = .returned (.agg #[.bool (decide (u < x)), .bool (decide (v < y))]) ∧
      w' = ((w.alloc (V x y)).alloc (V u v)).alloc (.cells #[.bool (decide (u < x)), .bool (decide (v < y))] 218) := by
  go_enter Tryz.func167, Tryz.ntmps167
  go_wp2
  refine bodyPost_ret (by simp [results, Tryz.results167, go_sem]) rfl ⟨rfl, rfl⟩

theorem above_x (x y : Int) (w : World) :
    Calls Tryz.prog 242 #[.agg #[.int .i64 x, .int .i64 y]] w fun e w' => e = .returned (.agg #[.int .i64 (wrap64 (9223372036854775807 - x)), .int .i64 (wrap64 (9223372036854775807 - y))]) ∧
      w' = (w.alloc (V x y)).alloc (V (wrap64 (9223372036854775807 - x)) (wrap64 (9223372036854775807 - y))) := by
  go_enter Tryz.func242, Tryz.ntmps242
  go_wp2
  refine bodyPost_ret (by simp [results, Tryz.results242, go_sem]) rfl ⟨rfl, rfl⟩

theorem right_x (b : Bool) (x y : Int) (h : decide (0 ≤ x ∧ 0 ≤ y) = b) (w : World) :
    Calls Tryz.prog 186 #[.agg #[.int .i64 x, .int .i64 y]] w fun e w' => e = .returned (.bool b) ∧ w' = (((w.alloc (V x y)).alloc (V x y)).alloc (V (max x 0) (max y 0))).drew := by
  have he := eqVec
  have h' : (x == max x 0 && y == max y 0) = b := by rw [right_eq, h]
  clear h
  go_enter Tryz.func186, Tryz.ntmps186
  go_wp2
  go_region_with (go_at_call 238; refine (raised_x _ _ _).mono ?_; rintro e w1 ⟨rfl, rfl⟩)
  all_goals
    go_wp2
    go_ret
    exact ⟨rfl, rfl⟩

theorem fits_x (b : Bool) (x y u v : Int) (h : decide (x ≤ u ∧ y ≤ v) = b) (w : World) :
    Calls Tryz.prog 117 #[.agg #[.int .i64 x, .int .i64 y], .agg #[.int .i64 u, .int .i64 v]] w fun e w' => e = .returned (.bool b) ∧
      w' = ((((w.alloc (V x y)).alloc (V u v)).alloc (V x y)).alloc (V u v)).alloc (.cells #[.bool (decide (u < x)), .bool (decide (v < y))] 218) := by
  have he := eqBB
  have h' : (!decide (u < x) && !decide (v < y)) = b := by rw [fits_eq, h]
  clear h
  go_enter Tryz.func117, Tryz.ntmps117
  go_wp2_with (go_at_call 167; refine (greater_x _ _ _ _ _).mono ?_; rintro e w1 ⟨rfl, rfl⟩)
  go_ret
  exact ⟨rfl, rfl⟩

set_option maxHeartbeats 800000 in
theorem add_ok (x y u v : Int) (ha : decide (0 ≤ x ∧ 0 ≤ y) = true) (hb : decide (0 ≤ u ∧ 0 ≤ v) = true)
    (hf : decide (u ≤ wrap64 (9223372036854775807 - x) ∧ v ≤ wrap64 (9223372036854775807 - y)) = true) (w : World) :
    Calls Tryz.prog 194 #[.agg #[.int .i64 x, .int .i64 y], .agg #[.int .i64 u, .int .i64 v]] w fun e w' => e = .returned (.tuple #[.agg #[.int .i64 (wrap64 (x + u)), .int .i64 (wrap64 (y + v))], .int .i64 0]) ∧ Below w.heap.size w w' := by
  go_enter Tryz.func194, Tryz.ntmps194
  go_wp2_with (first
    | (go_at_call 186; refine (right_x true _ _ (by assumption) _).mono ?_; rintro e w1 ⟨rfl, rfl⟩))
  go_region_with (first
    | (go_at_call 242; refine (above_x _ _ _).mono ?_; rintro e w1 ⟨rfl, rfl⟩)
    | (go_at_call 117; refine (fits_x true _ _ _ _ (by assumption) _).mono ?_; rintro e w1 ⟨rfl, rfl⟩))
  all_goals
    go_wp2
    refine bodyPost_ret (by simp [results, Tryz.results194, go_sem]) rfl ⟨rfl, ?_⟩
    repeat (first | with_reducible exact Below.refl _ _ | with_reducible apply Below.drew | with_reducible refine Below.alloc ?_ (by simp <;> omega) _)

set_option maxHeartbeats 800000 in
theorem sub_ok (x y u v : Int) (ha : decide (0 ≤ x ∧ 0 ≤ y) = true) (hb : decide (0 ≤ u ∧ 0 ≤ v) = true)
    (hf : decide (u ≤ x ∧ v ≤ y) = true) (w : World) :
    Calls Tryz.prog 153 #[.agg #[.int .i64 x, .int .i64 y], .agg #[.int .i64 u, .int .i64 v]] w fun e w' => e = .returned (.tuple #[.agg #[.int .i64 (wrap64 (x - u)), .int .i64 (wrap64 (y - v))], .int .i64 0]) ∧ Below w.heap.size w w' := by
  go_enter Tryz.func153, Tryz.ntmps153
  go_wp2_with (first
    | (go_at_call 186; refine (right_x true _ _ (by assumption) _).mono ?_; rintro e w1 ⟨rfl, rfl⟩)
    | (go_at_call 117; refine (fits_x true _ _ _ _ (by assumption) _).mono ?_; rintro e w1 ⟨rfl, rfl⟩))
  all_goals
    refine bodyPost_ret (by simp [results, Tryz.results153, go_sem]) rfl ⟨rfl, ?_⟩
    repeat (first | with_reducible exact Below.refl _ _ | with_reducible apply Below.drew | with_reducible refine Below.alloc ?_ (by simp <;> omega) _)

set_option maxHeartbeats 800000 in
theorem add_no (x y u v : Int) (ha : decide (0 ≤ x ∧ 0 ≤ y) = true) (hb : decide (0 ≤ u ∧ 0 ≤ v) = true)
    (hf : decide (u ≤ wrap64 (9223372036854775807 - x) ∧ v ≤ wrap64 (9223372036854775807 - y)) = false) (w : World) :
    Calls Tryz.prog 194 #[.agg #[.int .i64 x, .int .i64 y], .agg #[.int .i64 u, .int .i64 v]] w fun e w' => e = .returned (.tuple #[.agg #[.int .i64 0, .int .i64 0], .int .i64 6]) ∧ Below w.heap.size w w' := by
  go_enter Tryz.func194, Tryz.ntmps194
  go_wp2_with (first
    | (go_at_call 186; refine (right_x true _ _ (by assumption) _).mono ?_; rintro e w1 ⟨rfl, rfl⟩))
  go_region_with (first
    | (go_at_call 242; refine (above_x _ _ _).mono ?_; rintro e w1 ⟨rfl, rfl⟩)
    | (go_at_call 117; refine (fits_x false _ _ _ _ (by assumption) _).mono ?_; rintro e w1 ⟨rfl, rfl⟩))
  all_goals
    go_wp2
    refine bodyPost_ret (by simp [results, Tryz.results194, go_sem]) rfl ⟨rfl, ?_⟩
    repeat (first | with_reducible exact Below.refl _ _ | with_reducible apply Below.drew | with_reducible refine Below.alloc ?_ (by simp <;> omega) _)

/-- What Add answers of two that are right. -/
def addV (x y u v : Int) : Value := if x + u ≤ 9223372036854775807 ∧ y + v ≤ 9223372036854775807 then .tuple #[.agg #[.int .i64 (x + u), .int .i64 (y + v)], .int .i64 0] else .tuple #[.agg #[.int .i64 0, .int .i64 0], .int .i64 6]

theorem add_any (x y u v : Int) (ha : 0 ≤ x ∧ 0 ≤ y) (hb : 0 ≤ u ∧ 0 ≤ v) (hx : x ≤ 9223372036854775807 ∧ y ≤ 9223372036854775807) (w : World) :
    Calls Tryz.prog 194 #[.agg #[.int .i64 x, .int .i64 y], .agg #[.int .i64 u, .int .i64 v]] w fun e w' => e = .returned (addV x y u v) ∧ Below w.heap.size w w' := by
  have e1 : wrap64 (9223372036854775807 - x) = 9223372036854775807 - x := by unfold wrap64; omega
  have e2 : wrap64 (9223372036854775807 - y) = 9223372036854775807 - y := by unfold wrap64; omega
  unfold addV
  by_cases h : x + u ≤ 9223372036854775807 ∧ y + v ≤ 9223372036854775807
  · rw [if_pos h]
    have e3 : wrap64 (x + u) = x + u := by unfold wrap64; omega
    have e4 : wrap64 (y + v) = y + v := by unfold wrap64; omega
    have := add_ok x y u v (by simpa using ha) (by simpa using hb) (by rw [e1, e2]; simp; omega) w
    rwa [e3, e4] at this
  · rw [if_neg h]
    exact add_no x y u v (by simpa using ha) (by simpa using hb) (by rw [e1, e2]; simp; omega) w

theorem sub_any (x y u v : Int) (ha : 0 ≤ x ∧ 0 ≤ y) (hb : 0 ≤ u ∧ 0 ≤ v) (hx : x ≤ 9223372036854775807 ∧ y ≤ 9223372036854775807) (hf : u ≤ x ∧ v ≤ y) (w : World) :
    Calls Tryz.prog 153 #[.agg #[.int .i64 x, .int .i64 y], .agg #[.int .i64 u, .int .i64 v]] w fun e w' => e = .returned (.tuple #[.agg #[.int .i64 (x - u), .int .i64 (y - v)], .int .i64 0]) ∧ Below w.heap.size w w' := by
  have e3 : wrap64 (x - u) = x - u := by unfold wrap64; omega
  have e4 : wrap64 (y - v) = y - v := by unfold wrap64; omega
  have := sub_ok x y u v (by simpa using ha) (by simpa using hb) (by simpa using hf) w
  rwa [e3, e4] at this

end Go.Proofs.YthneemgpifbehaaGreatDoor

/- The contract of Pod of package spec. -/
namespace Go.Proofs.YthneemgpifbehaaGreatDoor
open Go.RowKit
set_option linter.unusedSimpArgs false
set_option linter.unusedVariables false

/-- What Pod answers. -/
def podE (s : ByteArray) (shard cpu mem : Int) (xs ys : List ByteArray) (shards : Int) : Int :=
  askE (isName s) (decide (1 ≤ shard) && decide (shard ≤ shards) && sizeB cpu mem) (setB xs) (setB ys)

set_option maxRecDepth 100000 in
set_option maxHeartbeats 1000000 in
theorem pod_any (s : ByteArray) (shard cpu mem : Int) (a1 a2 : Option Addr) (n1 n2 c1 c2 : Nat) (al : Bool) (xs ys : List ByteArray) (shards : Int) (w : World) (h1 : Strs w a1 xs) (h2 : Strs w a2 ys) (e1 : xs.length = n1) (e2 : ys.length = n2) :
    Calls Tryz.prog 239 #[.agg #[.string s, .int .i64 shard, .int .i64 cpu, .int .i64 mem, .slice a1 n1 c1, .slice a2 n2 c2, .bool al], .int .i64 shards] w fun e w' =>
      e = .returned (.int .i64 (podE s shard cpu mem xs ys shards)) ∧ Below w.heap.size w w' := by
  unfold podE
  obtain ⟨b, hb⟩ : ∃ b, sizeB cpu mem = b := ⟨_, rfl⟩
  rw [hb]
  have hA : ∀ o, Below w.heap.size w (w.alloc o) := fun o => (Below.refl _ _).alloc (Nat.le_refl _) _
  have kb := fun W (h : Below w.heap.size w W) => bounded_is b cpu mem hb w W h
  have ka := fun num W (h : Below w.heap.size w W) => asked_any s num a1 a2 n1 n2 c1 c2 xs ys W (h1.later h) (h2.later h) e1 e2
  clear h1 h2 e1 e2 hb
  have hO := hA (.cells #[.string s, .int .i64 shard, .int .i64 cpu, .int .i64 mem, .slice a1 n1 c1, .slice a2 n2 c2, .bool al] 63)
  by_cases g1 : 1 ≤ shard <;> by_cases g2 : shard ≤ shards <;> simp only [g1, g2, decide_true, decide_false, Bool.and_true, Bool.and_false, Bool.true_and, Bool.false_and]
  · go_enter Tryz.func239, Tryz.ntmps239
    go_wp2_with (first
      | (go_at_call 142; refine (kb _ (by assumption)).mono ?_; rintro e w3 ⟨rfl, h3, h4⟩
         have d0 : w3.cell? ⟨w.heap.size, 0, none⟩ = some (.string s) := cell_below h4 (by simp) (by simp)
         have d4 : w3.cell? ⟨w.heap.size, 4, none⟩ = some (.slice a1 n1 c1) := cell_below h4 (by simp) (by simp)
         have d5 : w3.cell? ⟨w.heap.size, 5, none⟩ = some (.slice a2 n2 c2) := cell_below h4 (by simp) (by simp))
      | (go_at_call 141; refine (ka _ _ (by assumption)).mono ?_; rintro e w5 ⟨rfl, h5⟩))
    go_ret
    exact ⟨rfl, h3.trans (h5.mono h3.size)⟩
  all_goals
    go_enter Tryz.func239, Tryz.ntmps239
    go_wp2_with (go_at_call 141; refine (ka _ _ (by assumption)).mono ?_; rintro e w5 ⟨rfl, h5⟩)
    go_ret
    exact ⟨rfl, hO.trans (h5.mono hO.size)⟩

end Go.Proofs.YthneemgpifbehaaGreatDoor
