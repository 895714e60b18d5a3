/- Worlds that keep all but some blocks; maps by numbers. -/
import Derived.Test.YtlehlbgaboifoabGreatDoorMg03
import Derived.Test.YtlehlbgaboifoabGreatDoorMg02
import Derived.Test.YtlehlbgaboifoabGreatDoorMg04
import Derived.StringKeys
import Derived.Maps.OwnOps
import Derived.ArgAppend
import Derived.OneCell
namespace Go.Proofs.YtlehlbgaboifoabGreatDoor
open Go.RowKit Go.Maps

theorem kI : Keyed Tryz.prog 3 := int_keyed Tryz.underlying3

theorem own_tight {H : Type} {P : Program} {k : TypeId} {R : Value → Option (DataW H × List MemPlace)} {w : World} {b n : Nat} {D : DataW H} (h : w.ownsMap P k R b n D) : w.ownsMap P k R b (Maps.size D) D := by
  obtain ⟨es, clock, hb, F, hs, rfl⟩ := h
  exact ⟨es, clock, hb, F, by simp [Maps.size, length_sorted], rfl⟩
theorem iK_inj {a b : Int} (h : iK a = iK b) : a = b := by simpa [iK] using h
theorem keyI {g : Int} (hg : (Lit.int .i64 g).wf = true) : keyOf Tryz.prog 3 (.int .i64 g) = some (iK g) := keyOf_int_mk Tryz.underlying3 hg

/-- All but these blocks is as it was. -/
structure Kept (fp : Nat → Prop) (w w' : World) : Prop where
  os : w'.os = w.os
  tape : w'.tape = w.tape
  output : w'.output = w.output
  size : w.heap.size ≤ w'.heap.size
  block : ∀ k, k < w.heap.size → ¬ fp k → w'.heap[k]? = w.heap[k]?

variable {fp : Nat → Prop} {w w' w'' : World}
theorem Kept.refl (fp : Nat → Prop) (w : World) : Kept fp w w := ⟨rfl, rfl, rfl, Nat.le_refl _, fun _ _ _ => rfl⟩
theorem Kept.trans (h : Kept fp w w') (h' : Kept fp w' w'') : Kept fp w w'' :=
  ⟨h'.os.trans h.os, h'.tape.trans h.tape, h'.output.trans h.output, Nat.le_trans h.size h'.size, fun k hk hn => (h'.block k (Nat.lt_of_lt_of_le hk h.size) hn).trans (h.block k hk hn)⟩
theorem Kept.trans' {fp' : Nat → Prop} (h : Kept fp w w') (h' : Kept fp' w' w'') (hf : ∀ b, fp' b → fp b ∨ w.heap.size ≤ b) : Kept fp w w'' :=
  ⟨h'.os.trans h.os, h'.tape.trans h.tape, h'.output.trans h.output, Nat.le_trans h.size h'.size, fun k hk hn =>
    (h'.block k (Nat.lt_of_lt_of_le hk h.size) (fun hk' => (hf k hk').elim hn (fun h => absurd hk (by omega)))).trans (h.block k hk hn)⟩
theorem Kept.of_below (h : Below w.heap.size w w') : Kept fp w w' := ⟨h.os, h.tape, h.output, h.size, fun k hk _ => h.block k hk⟩
theorem Kept.of_grown {b : Nat} (h : w.grownBy w' (some b)) (hb : fp b) : Kept fp w w' :=
  ⟨h.os, h.tape, h.output, h.size, fun k hk hn => h.block k hk (fun e => hn (by cases e; exact hb))⟩
theorem Kept.box {B : Nat} {cs : Array Value} {t : TypeId} (h : Kept fp w w') (hB : Box w B cs t) (hn : ¬ fp B) : Box w' B cs t := by
  unfold Box at *
  rw [h.block B (Array.getElem?_eq_some_iff.1 hB).1 hn, hB]
theorem Kept.below {B : Nat} (h : Kept fp w w') (hB : B ≤ w.heap.size) (hf : ∀ b, fp b → B ≤ b) : Below B w w' :=
  ⟨h.os, h.tape, h.output, h.size, fun k hk => h.block k (by omega) (fun h' => by have := hf k h'; omega)⟩
theorem Kept.wide {fp' : Nat → Prop} (h : Kept fp w w') (hf : ∀ b, fp b → fp' b) : Kept fp' w w' := ⟨h.os, h.tape, h.output, h.size, fun k hk hn => h.block k hk (fun h' => hn (hf k h'))⟩

/-- Rows of texts, of places, that stay. -/
theorem add_block (x : Addr) (i : Nat) : (x.add i).block = x.block := by
  unfold Addr.add
  split <;> rfl
theorem Strs.frame {a : Option Addr} {ss : List ByteArray} (h : Strs w a ss) (hk : ∀ x, a = some x → ss ≠ [] → w'.heap[x.block]? = w.heap[x.block]?) : Strs w' a ss :=
  ⟨h.1, fun i hi => by
    obtain ⟨x, hx, hc⟩ := h.2 i hi
    refine ⟨x, hx, ?_⟩
    rw [← hc]
    exact World.cell?_of_block (by have := hk x hx (by intro e; simp [e] at hi); rw [add_block]; exact this)⟩
theorem Strs.lt {a : Option Addr} {ss : List ByteArray} (h : Strs w a ss) {x : Addr} (hx : a = some x) (hne : ss ≠ []) : x.block < w.heap.size := by
  obtain ⟨y, hy, hc⟩ := h.2 0 (by cases ss with | nil => exact absurd rfl hne | cons => simp)
  obtain rfl : x = y := by rw [hx] at hy; exact Option.some.inj hy
  have := block_lt hc
  rwa [add_block] at this
/-- A row's address points to no part of a cell. -/
def SP (a : Option Addr) : Prop := ∀ x, a = some x → x.spot = none
theorem SP.none : SP none := fun _ h => by cases h
theorem SP.some (b o : Nat) : SP (some ⟨b, o, .none⟩) := fun x h => by cases h; rfl

/-- Blocks that turn, and more of them. -/
structure Turn (w w' : World) (fp fp' : Nat → Prop) : Prop where
  more : ∀ b, fp b → fp' b
  new : ∀ b, fp' b → fp b ∨ w.heap.size ≤ b
  kept : Kept fp w w'
theorem Turn.of_below {w w' : World} {fp : Nat → Prop} (h : Below w.heap.size w w') : Turn w w' fp fp := ⟨fun _ h => h, fun _ h => .inl h, .of_below h⟩
theorem Turn.low {w0 w w' : World} {fp fp' : Nat → Prop} (h : Turn w w' fp fp') (hf : ∀ b, fp b → w0.heap.size ≤ b) (hb : w0.heap.size ≤ w.heap.size) : ∀ b, fp' b → w0.heap.size ≤ b := fun b hb' => (h.new b hb').elim (hf b) (fun h' => Nat.le_trans hb h')
theorem Turn.below {w0 w w' : World} {fp fp' : Nat → Prop} (h : Turn w w' fp fp') (hf : ∀ b, fp b → w0.heap.size ≤ b) (hb : Below w0.heap.size w0 w) : Below w0.heap.size w0 w' := hb.trans (h.kept.below hb.size hf)
theorem Turn.refl (w : World) (fp : Nat → Prop) : Turn w w fp fp := ⟨fun _ h => h, fun _ h => .inl h, .refl _ _⟩
section
variable {w w' w'' : World} {fp fp' fp'' : Nat → Prop}
theorem Turn.trans (h : Turn w w' fp fp') (h' : Turn w' w'' fp' fp'') : Turn w w'' fp fp'' :=
  ⟨fun b hb => h'.more b (h.more b hb), fun b hb => (h'.new b hb).elim (h.new b) (fun hz => .inr (Nat.le_trans h.kept.size hz)), h.kept.trans' h'.kept h.new⟩
end

end Go.Proofs.YtlehlbgaboifoabGreatDoor

/- The words of a line: the first sign of a text; the contracts of parting and take of package line. -/
namespace Go.Proofs.YtlehlbgaboifoabGreatDoor
open Go.RowKit
set_option linter.unusedSimpArgs false
set_option linter.unusedVariables false

section
variable {w w' : World} {B : Nat} {cs : Array Value} {t : TypeId} {x0 x1 x2 x3 x4 x5 x6 : Value}
end

/-- A sign of a line. -/
def sgn (r : Int) : Bool := decide (r = 32) || decide (r = 58) || decide (r = 44) || decide (r = 43) || decide (r = 126) || decide (r = 33) || decide (r = 62) || decide (r = 64)
/-- The first sign from this byte on: where, and which. -/
def tkR (s : ByteArray) : Nat → Nat → Option (Nat × Int)
  | 0, _ => none
  | f + 1, pos => if pos < s.size then (if sgn (Utf8.decode s pos).1 then some (pos, (Utf8.decode s pos).1) else tkR s f (pos + (Utf8.decode s pos).2)) else none

theorem parting_any (r : Int) (b : Bool) (h : sgn r = b) (w : World) :
    Calls Tryz.prog 223 #[.int .i32 r] w fun e w' => e = .returned (.bool b) ∧ w' = w := by
  subst h
  unfold sgn
  by_cases h1 : r = 32
  · subst h1; go_enter Tryz.func223, Tryz.ntmps223; go_wp2; go_ret; exact ⟨rfl, rfl⟩
  by_cases h2 : r = 58
  · subst h2; go_enter Tryz.func223, Tryz.ntmps223; go_wp2; go_ret; exact ⟨rfl, rfl⟩
  by_cases h3 : r = 44
  · subst h3; go_enter Tryz.func223, Tryz.ntmps223; go_wp2; go_ret; exact ⟨rfl, rfl⟩
  by_cases h4 : r = 43
  · subst h4; go_enter Tryz.func223, Tryz.ntmps223; go_wp2; go_ret; exact ⟨rfl, rfl⟩
  by_cases h5 : r = 126
  · subst h5; go_enter Tryz.func223, Tryz.ntmps223; go_wp2; go_ret; exact ⟨rfl, rfl⟩
  by_cases h6 : r = 33
  · subst h6; go_enter Tryz.func223, Tryz.ntmps223; go_wp2; go_ret; exact ⟨rfl, rfl⟩
  by_cases h7 : r = 62
  · subst h7; go_enter Tryz.func223, Tryz.ntmps223; go_wp2; go_ret; exact ⟨rfl, rfl⟩
  by_cases h8 : r = 64
  · subst h8; go_enter Tryz.func223, Tryz.ntmps223; go_wp2; go_ret; exact ⟨rfl, rfl⟩
  have b1 : (r == 32) = false := by simp [h1]
  have b2 : (r == 58) = false := by simp [h2]
  have b3 : (r == 44) = false := by simp [h3]
  have b4 : (r == 43) = false := by simp [h4]
  have b5 : (r == 126) = false := by simp [h5]
  have b6 : (r == 33) = false := by simp [h6]
  have b7 : (r == 62) = false := by simp [h7]
  have b8 : (r == 64) = false := by simp [h8]
  simp only [h1, h2, h3, h4, h5, h6, h7, h8, decide_false, Bool.or_self]
  go_enter Tryz.func223, Tryz.ntmps223
  go_wp2
  go_ret
  exact ⟨rfl, rfl⟩

end Go.Proofs.YtlehlbgaboifoabGreatDoor

/- The contract of Pod of package spec. -/
namespace Go.Proofs.YtlehlbgaboifoabGreatDoor
open Go.RowKit
set_option linter.unusedSimpArgs false
set_option linter.unusedVariables false

/-- What Pod answers. -/
def podE (s : ByteArray) (shard cpu mem : Int) (xs ys : List ByteArray) (shards : Int) : Int :=
  askE (isName s) (decide (1 ≤ shard) && decide (shard ≤ shards) && sizeB cpu mem) (setB xs) (setB ys)

theorem strs_nil (w : World) : Strs w none [] := ⟨by simp, fun i hi => by simp at hi⟩

set_option maxRecDepth 100000 in
set_option maxHeartbeats 1000000 in
theorem pod_any (s : ByteArray) (shard cpu mem : Int) (a1 a2 : Option Addr) (n1 n2 c1 c2 : Nat) (al : Bool) (xs ys : List ByteArray) (shards : Int) (w : World) (h1 : Strs w a1 xs) (h2 : Strs w a2 ys) (e1 : xs.length = n1) (e2 : ys.length = n2) :
    Calls Tryz.prog 75 #[.agg #[.string s, .int .i64 shard, .int .i64 cpu, .int .i64 mem, .slice a1 n1 c1, .slice a2 n2 c2, .bool al], .int .i64 shards] w fun e w' =>
      e = .returned (.int .i64 (podE s shard cpu mem xs ys shards)) ∧ Below w.heap.size w w' := by
  unfold podE
  obtain ⟨b, hb⟩ : ∃ b, sizeB cpu mem = b := ⟨_, rfl⟩
  rw [hb]
  have hA : ∀ o, Below w.heap.size w (w.alloc o) := fun o => (Below.refl _ _).alloc (Nat.le_refl _) _
  have kb := fun W (h : Below w.heap.size w W) => bounded_is b cpu mem hb w W h
  have ka := fun num W (h : Below w.heap.size w W) => asked_any s num a1 a2 n1 n2 c1 c2 xs ys W (h1.later h) (h2.later h) e1 e2
  clear h1 h2 e1 e2 hb
  have hO := hA (.cells #[.string s, .int .i64 shard, .int .i64 cpu, .int .i64 mem, .slice a1 n1 c1, .slice a2 n2 c2, .bool al] 60)
  by_cases g1 : 1 ≤ shard <;> by_cases g2 : shard ≤ shards <;> simp only [g1, g2, decide_true, decide_false, Bool.and_true, Bool.and_false, Bool.true_and, Bool.false_and]
  · go_enter Tryz.func75, Tryz.ntmps75
    go_wp2_with (first
      | (go_at_call 113; refine (kb _ (by assumption)).mono ?_; rintro e w3 ⟨rfl, h3, h4⟩
         have d0 : w3.cell? ⟨w.heap.size, 0, none⟩ = some (.string s) := cell_below h4 (by simp) (by simp)
         have d4 : w3.cell? ⟨w.heap.size, 4, none⟩ = some (.slice a1 n1 c1) := cell_below h4 (by simp) (by simp)
         have d5 : w3.cell? ⟨w.heap.size, 5, none⟩ = some (.slice a2 n2 c2) := cell_below h4 (by simp) (by simp))
      | (go_at_call 114; refine (ka _ _ (by assumption)).mono ?_; rintro e w5 ⟨rfl, h5⟩))
    go_ret
    exact ⟨rfl, h3.trans (h5.mono h3.size)⟩
  all_goals
    go_enter Tryz.func75, Tryz.ntmps75
    go_wp2_with (go_at_call 114; refine (ka _ _ (by assumption)).mono ?_; rintro e w5 ⟨rfl, h5⟩)
    go_ret
    exact ⟨rfl, hO.trans (h5.mono hO.size)⟩

end Go.Proofs.YtlehlbgaboifoabGreatDoor

/- Maps by gangs' numbers. -/
namespace Go.Proofs.YtlehlbgaboifoabGreatDoor
open Go.RowKit Go.Maps

/-- A map by numbers. -/
def MOwn {ρ : Type} (val : ρ → Value) (w : World) (b : Nat) (M : List (Int × ρ)) : Prop := w.ownsMap Tryz.prog 3 raw b M.length (encD iK val M)
section
variable {ρ : Type} {val : ρ → Value} {w w' : World} {b n : Nat} {M : List (Int × ρ)}
theorem MOwn.of (h : w.ownsMap Tryz.prog 3 raw b n (encD iK val M)) : MOwn val w b M := by
  have := own_tight h
  rwa [encD_size] at this
theorem MOwn.made (w : World) : MOwn val (w.alloc (.map #[] 0)) w.heap.size [] := World.ownsMap_made w _ _ _
theorem MOwn.kept (h : MOwn val w b M) (e : w'.heap[b]? = w.heap[b]?) : MOwn val w' b M := by
  obtain ⟨es, clock, hb, r⟩ := h
  exact ⟨es, clock, e.trans hb, r⟩
theorem MOwn.lt (h : MOwn val w b M) : b < w.heap.size := World.ownsMap.lt h
theorem MOwn.later (h : MOwn val w b M) (hb : Below w.heap.size w w') : MOwn val w' b M := h.kept (hb.block _ h.lt)
theorem MOwn.apart (h : MOwn val w b M) : Apart M := by
  obtain ⟨es, he, hp⟩ := World.ownsMap.tidy h kI
  simp only [encD, DataW.map.injEq] at he
  subst he
  rw [List.pairwise_map] at hp
  exact hp.imp fun h e => h (by rw [e])
theorem MOwn.put {s : Int} {r : ρ} (h : w'.ownsMap Tryz.prog 3 raw b n ((encD iK val M).put (iK s) (.held (val r)))) : MOwn val w' b (put iK M s r) := by
  rw [encD_put iK val iK_same] at h
  exact .of h
theorem MOwn.del {s : Int} (h : w'.ownsMap Tryz.prog 3 raw b n ((encD iK val M).del (iK s))) : MOwn val w' b (del M s) := by
  rw [encD_del iK val iK_same] at h
  exact .of h
/-- What is looked up, with whether it is there. -/
theorem MOwn.look2 (h : MOwn val w b M) {t e : TypeId} (z : Value) (hu : Tryz.prog.underlying t = some (.map 3 e)) (hz : (zeroValue e).run Tryz.prog w = .ok z w) (g : Int) (hg : (Lit.int .i64 g).wf = true) :
    (Instr.lookup t (.map (some b)) (.int .i64 g) true).run Tryz.prog w = .ok (.tuple #[((look M g).map val).getD z, .bool (look M g).isSome]) w := by
  obtain ⟨v, ps, hr, hv⟩ := World.ownsMap.look_ok h kI hu hz (zd := .held z) (zp := []) rfl (keyI hg)
  rw [encD_at iK val iK_same] at hv
  rw [hr, encD_has iK val iK_same]
  simp only [raw, Option.some.injEq, Prod.mk.injEq, DataW.held.injEq] at hv
  rw [hv.1]
theorem MOwn.look1 (h : MOwn val w b M) {t e : TypeId} (z : Value) (hu : Tryz.prog.underlying t = some (.map 3 e)) (hz : (zeroValue e).run Tryz.prog w = .ok z w) (g : Int) (hg : (Lit.int .i64 g).wf = true) :
    (Instr.lookup t (.map (some b)) (.int .i64 g) false).run Tryz.prog w = .ok (((look M g).map val).getD z) w := by
  obtain ⟨v, ps, hr, hv⟩ := World.ownsMap.lookup h kI hu hz (zd := .held z) (zp := []) rfl (keyI hg)
  rw [encD_at iK val iK_same] at hv
  rw [hr]
  simp only [raw, Option.some.injEq, Prod.mk.injEq, DataW.held.injEq] at hv
  rw [hv.1]
theorem MOwn.update (h : MOwn val w b M) {t e : TypeId} (hu : Tryz.prog.underlying t = some (.map 3 e)) (g : Int) (hg : (Lit.int .i64 g).wf = true) (hM : M.length ≤ 1000000) (r : ρ) :
    ∃ w', (Instr.mapUpdate t (.map (some b)) (.int .i64 g) (val r)).run Tryz.prog w = .ok () w' ∧ MOwn val w' b (Go.Proofs.YtlehlbgaboifoabGreatDoor.put iK M g r) ∧ w.grownBy w' (some b) := by
  obtain ⟨w9, hrun, hown, hgrow⟩ := World.ownsMap.update (show w.ownsMap Tryz.prog 3 raw b M.length (encD iK val M) from h) kI hu (by unfold maxLen; omega) (keyI hg) (val := val r) (d := .held (val r)) (ps := []) rfl
  exact ⟨w9, hrun, MOwn.put hown, hgrow⟩
end

theorem zero_pg (w : World) : (zeroValue 79).run Tryz.prog w = .ok (.pointer none) w := by kernel_rfl
theorem zero_int (w : World) : (zeroValue 3).run Tryz.prog w = .ok (.int .i64 0) w := by kernel_rfl

end Go.Proofs.YtlehlbgaboifoabGreatDoor
