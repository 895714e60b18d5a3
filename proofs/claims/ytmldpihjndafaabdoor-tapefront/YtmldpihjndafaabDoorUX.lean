/- The statements' own Make: a record that may be, told exactly; kinds that have no places. -/
import Derived.Test.YtmldpihjndafaabDoorLX
import Derived.Test.YtmldpihjndafaabDoorUL
namespace Go.Proofs.YtmldpihjndafaabDoor
open Go.RowKit
set_option linter.unusedSimpArgs false
set_option linter.unusedVariables false

/-- A row's block lies from B on. -/
def InB (B : Nat) (w : World) (a : Option Addr) : Prop := ∀ x, a = some x → B ≤ x.block ∧ x.block < w.heap.size

/-- These cells are that record's, whose rows lie from block B on. -/
structure RecM (w : World) (B : Nat) (r : RecB) (a1 : Option Addr) (c1 : Nat) (a2 : Option Addr) (c2 : Nat) (a3 : Option Addr) (c3 : Nat) (a4 : Option Addr) (c4 : Nat) : Prop where
  peers : Nats w a1 r.peers
  places : Pls w a2 r.places
  marks : Strs w a3 r.node.marks
  taints : Strs w a4 r.node.taints
  i1 : InB B w a1
  i2 : InB B w a2
  i3 : InB B w a3
  i4 : InB B w a4
  cap : r.places.length ≤ c2

/-- The cells of a record. -/
abbrev recV (r : RecB) (a1 : Option Addr) (c1 : Nat) (a2 : Option Addr) (c2 : Nat) (a3 : Option Addr) (c3 : Nat) (a4 : Option Addr) (c4 : Nat) : Value :=
  .agg #[.int .i64 r.kind, .int .i64 r.gang, .slice a1 r.peers.length c1, .slice a2 r.places.length c2, .string r.node.name, .int .i64 r.node.cpu, .int .i64 r.node.mem, .slice a3 r.node.marks.length c3, .slice a4 r.node.taints.length c4, .bool r.node.closed]

theorem InB.nil (B : Nat) (w : World) : InB B w none := fun x h => by cases h
theorem Nats.nil (w : World) : Nats w none [] := fun i h => by simp at h
theorem Pls.nil (w : World) : Pls w none [] := fun i p h => by simp at h

/-- The node of a number. -/
def nodeM (x n : Int) : NodeB := ⟨nameAt x, (n % 12).toNat, (wrap64 (n.tdiv 12) % 12).toNat, nodeXs n, nodeYs n, wrap64 (n.tdiv 17) % 9 == 0⟩
/-- The first of the numbers, 5 if there is none. -/
def firstN (len : Nat) (zs : List Int) : Int := if len = 0 then 5 else zs.getD 0 0

theorem nats_of {w : World} {base n c : Nat} {a : Option Addr} {ps : List Nat} (h : w.ownsRow base 3 1 (.slice a n c) n (ps.map natV)) (hn : ps.length = n) : Nats w a ps ∧ InB base w a := by
  rcases h.2 with ⟨h0, h1⟩ | ⟨g, cap, cur, h0, hg, hh, _⟩
  · injection h0 with e1 e2 e3
    subst e1
    exact ⟨fun i hi => by omega, InB.nil _ _⟩
  · injection h0 with e1 e2 e3
    subst e1
    exact ⟨fun i hi => ⟨⟨g, 0, none⟩, rfl, h.cells (g := g) rfl i _ (by simp [List.getD, List.getElem?_eq_getElem hi])⟩, fun x hx => by cases hx; exact ⟨hg, (Array.getElem?_eq_some_iff.1 hh).1⟩⟩

set_option maxRecDepth 100000 in
set_option maxHeartbeats 8000000 in
theorem make_four (kind gang name : Int) (a : Option Addr) (len cap : Nat) (zs : List Int) (g : Nat) (w : World) (hrow : HasRow w a len zs) (hk : kind % 7 = 3) (hg : gang % 999999 = g) :
    Calls Tryd.prog 7 #[.int .i64 kind, .int .i64 gang, .slice a len cap, .int .i64 name] w fun e w' => e = .returned (.agg #[.int .i64 4, .int .i64 (1 + (g : Int)), .slice none 0 0, .slice none 0 0, .string ⟨#[]⟩, .int .i64 0, .int .i64 0, .slice none 0 0, .slice none 0 0, .bool false]) ∧ Below w.heap.size w w' := by
  have hl0 : len ≤ 9223372036854775807 := hrow.1
  obtain ⟨fn, hfn⟩ : ∃ fn, firstN len zs = fn := ⟨_, rfl⟩
  have hfn' : Hid (firstN len zs = fn) := hfn
  have hg9 : g < 999999 := by omega
  clear hfn
  go_enter Tryd.func7, Tryd.ntmps7
  go_upto_region 3 with (first
    | (go_at_call 17; refine (within4_any _ _ _ (by decide) (by decide) (by assumption) _).mono ?_; rintro e wq ⟨rfl, rfl⟩))
  have hs1 : (w.alloc (.cells #[.int .i64 0, .int .i64 0, .slice none 0 0, .slice none 0 0, .string ⟨#[]⟩, .int .i64 0, .int .i64 0, .slice none 0 0, .slice none 0 0, .bool false] 35)).heap.size = w.heap.size + 1 := by simp
  have q8 : Box ((w.alloc (.cells #[.int .i64 0, .int .i64 0, .slice none 0 0, .slice none 0 0, .string ⟨#[]⟩, .int .i64 0, .int .i64 0, .slice none 0 0, .slice none 0 0, .bool false] 35)).alloc (.cells #[.int .i64 4, .int .i64 (1 + (g : Int)), .slice none 0 0, .slice none 0 0, .string ⟨#[]⟩, .int .i64 0, .int .i64 0, .slice none 0 0, .slice none 0 0, .bool false] 35)) w.heap.size #[.int .i64 0, .int .i64 0, .slice none 0 0, .slice none 0 0, .string ⟨#[]⟩, .int .i64 0, .int .i64 0, .slice none 0 0, .slice none 0 0, .bool false] 35 := (Box.new w _ _ rfl).up _
  have q9 : Box ((w.alloc (.cells #[.int .i64 0, .int .i64 0, .slice none 0 0, .slice none 0 0, .string ⟨#[]⟩, .int .i64 0, .int .i64 0, .slice none 0 0, .slice none 0 0, .bool false] 35)).alloc (.cells #[.int .i64 4, .int .i64 (1 + (g : Int)), .slice none 0 0, .slice none 0 0, .string ⟨#[]⟩, .int .i64 0, .int .i64 0, .slice none 0 0, .slice none 0 0, .bool false] 35)) (w.heap.size + 1) #[.int .i64 4, .int .i64 (1 + (g : Int)), .slice none 0 0, .slice none 0 0, .string ⟨#[]⟩, .int .i64 0, .int .i64 0, .slice none 0 0, .slice none 0 0, .bool false] 35 := Box.new _ _ _ hs1
  have hb0 : Below w.heap.size w ((w.alloc (.cells #[.int .i64 0, .int .i64 0, .slice none 0 0, .slice none 0 0, .string ⟨#[]⟩, .int .i64 0, .int .i64 0, .slice none 0 0, .slice none 0 0, .bool false] 35)).alloc (.cells #[.int .i64 4, .int .i64 (1 + (g : Int)), .slice none 0 0, .slice none 0 0, .string ⟨#[]⟩, .int .i64 0, .int .i64 0, .slice none 0 0, .slice none 0 0, .bool false] 35)) := up (up (Below.refl _ _) _) _
  obtain ⟨W, hW⟩ : ∃ W, (w.alloc (.cells #[.int .i64 0, .int .i64 0, .slice none 0 0, .slice none 0 0, .string ⟨#[]⟩, .int .i64 0, .int .i64 0, .slice none 0 0, .slice none 0 0, .bool false] 35)).alloc (.cells #[.int .i64 4, .int .i64 (1 + (g : Int)), .slice none 0 0, .slice none 0 0, .string ⟨#[]⟩, .int .i64 0, .int .i64 0, .slice none 0 0, .slice none 0 0, .bool false] 35) = W := ⟨_, rfl⟩
  rw [hW] at q8 q9 hb0 ⊢
  clear hW hs1 hk hg
  have q8c := RecBox.cells q8
  have q9c := RecBox.cells q9
  by_cases h0 : len = 0
  · subst h0
    have e5 : fn = 5 := hfn'.out.symm
    subst e5
    clear hrow hfn'
    obtain ⟨y0, y1, y2, y3, y4, y5, y6, y7, y8, y9⟩ := q9c
    obtain ⟨x0, x1, x2, x3, x4, x5, x6, x7, x8, x9⟩ := q8c
    have f0 := q8.frozen 0
    have f1 := q8.frozen 1
    have f2 := q8.frozen 2
    have f3 := q8.frozen 3
    have f4 := q8.frozen 4
    have f5 := q8.frozen 5
    have f6 := q8.frozen 6
    have f7 := q8.frozen 7
    have f8 := q8.frozen 8
    have f9 := q8.frozen 9
    go_wp2
    have q10 := RecBox.setAll (c0 := .int .i64 4) (c1 := .int .i64 (1 + (g : Int))) (c2 := .slice none 0 0) (c3 := .slice none 0 0) (c4 := .string ⟨#[]⟩) (c5 := .int .i64 0) (c6 := .int .i64 0) (c7 := .slice none 0 0) (c8 := .slice none 0 0) (c9 := .bool false) q8
    have hb10 := below_setAll (A := w.heap.size) (Nat.le_refl _) [.int .i64 4, .int .i64 (1 + (g : Int)), .slice none 0 0, .slice none 0 0, .string ⟨#[]⟩, .int .i64 0, .int .i64 0, .slice none 0 0, .slice none 0 0, .bool false] 0 hb0
    have hg10 : World.grownBy W (W.setCells w.heap.size 0 [.int .i64 4, .int .i64 (1 + (g : Int)), .slice none 0 0, .slice none 0 0, .string ⟨#[]⟩, .int .i64 0, .int .i64 0, .slice none 0 0, .slice none 0 0, .bool false]) (some w.heap.size) := grown_setAll [.int .i64 4, .int .i64 (1 + (g : Int)), .slice none 0 0, .slice none 0 0, .string ⟨#[]⟩, .int .i64 0, .int .i64 0, .slice none 0 0, .slice none 0 0, .bool false] 0 (World.grownBy.refl _ _)
    change bodyPost _ _ _ _ _ (W.setCells w.heap.size 0 [.int .i64 4, .int .i64 (1 + (g : Int)), .slice none 0 0, .slice none 0 0, .string ⟨#[]⟩, .int .i64 0, .int .i64 0, .slice none 0 0, .slice none 0 0, .bool false])
    generalize W.setCells w.heap.size 0 [.int .i64 4, .int .i64 (1 + (g : Int)), .slice none 0 0, .slice none 0 0, .string ⟨#[]⟩, .int .i64 0, .int .i64 0, .slice none 0 0, .slice none 0 0, .bool false] = W9 at *
    obtain ⟨z0, z1, z2, z3, z4, z5, z6, z7, z8, z9⟩ := RecBox.cells q10
    exact bodyPost_ret (by simp [results, Tryd.results7, go_sem, z0, z1, z2, z3, z4, z5, z6, z7, z8, z9]) rfl ⟨rfl, hb10⟩
  · obtain ⟨x, rfl, hc⟩ := hrow.2 0 (by omega)
    have e0 : zs.getD 0 0 = fn := by have := hfn'.out; rwa [firstN, if_neg h0] at this
    rw [e0] at hc
    have hcW : W.cell? x = some (.int .i64 fn) := by
      have := cell_below hb0 hc (block_lt hc)
      simpa [Addr.add] using this
    have hl1 : (0 : Int) < len := by omega
    clear hrow hc hfn' e0
    obtain ⟨y0, y1, y2, y3, y4, y5, y6, y7, y8, y9⟩ := q9c
    obtain ⟨x0, x1, x2, x3, x4, x5, x6, x7, x8, x9⟩ := q8c
    have f0 := q8.frozen 0
    have f1 := q8.frozen 1
    have f2 := q8.frozen 2
    have f3 := q8.frozen 3
    have f4 := q8.frozen 4
    have f5 := q8.frozen 5
    have f6 := q8.frozen 6
    have f7 := q8.frozen 7
    have f8 := q8.frozen 8
    have f9 := q8.frozen 9
    go_wp2
    have q10 := RecBox.setAll (c0 := .int .i64 4) (c1 := .int .i64 (1 + (g : Int))) (c2 := .slice none 0 0) (c3 := .slice none 0 0) (c4 := .string ⟨#[]⟩) (c5 := .int .i64 0) (c6 := .int .i64 0) (c7 := .slice none 0 0) (c8 := .slice none 0 0) (c9 := .bool false) q8
    have hb10 := below_setAll (A := w.heap.size) (Nat.le_refl _) [.int .i64 4, .int .i64 (1 + (g : Int)), .slice none 0 0, .slice none 0 0, .string ⟨#[]⟩, .int .i64 0, .int .i64 0, .slice none 0 0, .slice none 0 0, .bool false] 0 hb0
    have hg10 : World.grownBy W (W.setCells w.heap.size 0 [.int .i64 4, .int .i64 (1 + (g : Int)), .slice none 0 0, .slice none 0 0, .string ⟨#[]⟩, .int .i64 0, .int .i64 0, .slice none 0 0, .slice none 0 0, .bool false]) (some w.heap.size) := grown_setAll [.int .i64 4, .int .i64 (1 + (g : Int)), .slice none 0 0, .slice none 0 0, .string ⟨#[]⟩, .int .i64 0, .int .i64 0, .slice none 0 0, .slice none 0 0, .bool false] 0 (World.grownBy.refl _ _)
    change bodyPost _ _ _ _ _ (W.setCells w.heap.size 0 [.int .i64 4, .int .i64 (1 + (g : Int)), .slice none 0 0, .slice none 0 0, .string ⟨#[]⟩, .int .i64 0, .int .i64 0, .slice none 0 0, .slice none 0 0, .bool false])
    generalize W.setCells w.heap.size 0 [.int .i64 4, .int .i64 (1 + (g : Int)), .slice none 0 0, .slice none 0 0, .string ⟨#[]⟩, .int .i64 0, .int .i64 0, .slice none 0 0, .slice none 0 0, .bool false] = W9 at *
    obtain ⟨z0, z1, z2, z3, z4, z5, z6, z7, z8, z9⟩ := RecBox.cells q10
    exact bodyPost_ret (by simp [results, Tryd.results7, go_sem, z0, z1, z2, z3, z4, z5, z6, z7, z8, z9]) rfl ⟨rfl, hb10⟩

set_option maxRecDepth 100000 in
set_option maxHeartbeats 8000000 in
theorem make_five (kind gang name : Int) (a : Option Addr) (len cap : Nat) (zs : List Int) (g : Nat) (w : World) (hrow : HasRow w a len zs) (hk : kind % 7 = 4) (hg : gang % 999999 = g) :
    Calls Tryd.prog 7 #[.int .i64 kind, .int .i64 gang, .slice a len cap, .int .i64 name] w fun e w' => e = .returned (.agg #[.int .i64 5, .int .i64 (1 + (g : Int)), .slice none 0 0, .slice none 0 0, .string ⟨#[]⟩, .int .i64 0, .int .i64 0, .slice none 0 0, .slice none 0 0, .bool false]) ∧ Below w.heap.size w w' := by
  have hl0 : len ≤ 9223372036854775807 := hrow.1
  obtain ⟨fn, hfn⟩ : ∃ fn, firstN len zs = fn := ⟨_, rfl⟩
  have hfn' : Hid (firstN len zs = fn) := hfn
  have hg9 : g < 999999 := by omega
  clear hfn
  go_enter Tryd.func7, Tryd.ntmps7
  go_upto_region 3 with (first
    | (go_at_call 17; refine (within4_any _ _ _ (by decide) (by decide) (by assumption) _).mono ?_; rintro e wq ⟨rfl, rfl⟩))
  have hs1 : (w.alloc (.cells #[.int .i64 0, .int .i64 0, .slice none 0 0, .slice none 0 0, .string ⟨#[]⟩, .int .i64 0, .int .i64 0, .slice none 0 0, .slice none 0 0, .bool false] 35)).heap.size = w.heap.size + 1 := by simp
  have q8 : Box ((w.alloc (.cells #[.int .i64 0, .int .i64 0, .slice none 0 0, .slice none 0 0, .string ⟨#[]⟩, .int .i64 0, .int .i64 0, .slice none 0 0, .slice none 0 0, .bool false] 35)).alloc (.cells #[.int .i64 5, .int .i64 (1 + (g : Int)), .slice none 0 0, .slice none 0 0, .string ⟨#[]⟩, .int .i64 0, .int .i64 0, .slice none 0 0, .slice none 0 0, .bool false] 35)) w.heap.size #[.int .i64 0, .int .i64 0, .slice none 0 0, .slice none 0 0, .string ⟨#[]⟩, .int .i64 0, .int .i64 0, .slice none 0 0, .slice none 0 0, .bool false] 35 := (Box.new w _ _ rfl).up _
  have q9 : Box ((w.alloc (.cells #[.int .i64 0, .int .i64 0, .slice none 0 0, .slice none 0 0, .string ⟨#[]⟩, .int .i64 0, .int .i64 0, .slice none 0 0, .slice none 0 0, .bool false] 35)).alloc (.cells #[.int .i64 5, .int .i64 (1 + (g : Int)), .slice none 0 0, .slice none 0 0, .string ⟨#[]⟩, .int .i64 0, .int .i64 0, .slice none 0 0, .slice none 0 0, .bool false] 35)) (w.heap.size + 1) #[.int .i64 5, .int .i64 (1 + (g : Int)), .slice none 0 0, .slice none 0 0, .string ⟨#[]⟩, .int .i64 0, .int .i64 0, .slice none 0 0, .slice none 0 0, .bool false] 35 := Box.new _ _ _ hs1
  have hb0 : Below w.heap.size w ((w.alloc (.cells #[.int .i64 0, .int .i64 0, .slice none 0 0, .slice none 0 0, .string ⟨#[]⟩, .int .i64 0, .int .i64 0, .slice none 0 0, .slice none 0 0, .bool false] 35)).alloc (.cells #[.int .i64 5, .int .i64 (1 + (g : Int)), .slice none 0 0, .slice none 0 0, .string ⟨#[]⟩, .int .i64 0, .int .i64 0, .slice none 0 0, .slice none 0 0, .bool false] 35)) := up (up (Below.refl _ _) _) _
  obtain ⟨W, hW⟩ : ∃ W, (w.alloc (.cells #[.int .i64 0, .int .i64 0, .slice none 0 0, .slice none 0 0, .string ⟨#[]⟩, .int .i64 0, .int .i64 0, .slice none 0 0, .slice none 0 0, .bool false] 35)).alloc (.cells #[.int .i64 5, .int .i64 (1 + (g : Int)), .slice none 0 0, .slice none 0 0, .string ⟨#[]⟩, .int .i64 0, .int .i64 0, .slice none 0 0, .slice none 0 0, .bool false] 35) = W := ⟨_, rfl⟩
  rw [hW] at q8 q9 hb0 ⊢
  clear hW hs1 hk hg
  have q8c := RecBox.cells q8
  have q9c := RecBox.cells q9
  by_cases h0 : len = 0
  · subst h0
    have e5 : fn = 5 := hfn'.out.symm
    subst e5
    clear hrow hfn'
    obtain ⟨y0, y1, y2, y3, y4, y5, y6, y7, y8, y9⟩ := q9c
    obtain ⟨x0, x1, x2, x3, x4, x5, x6, x7, x8, x9⟩ := q8c
    have f0 := q8.frozen 0
    have f1 := q8.frozen 1
    have f2 := q8.frozen 2
    have f3 := q8.frozen 3
    have f4 := q8.frozen 4
    have f5 := q8.frozen 5
    have f6 := q8.frozen 6
    have f7 := q8.frozen 7
    have f8 := q8.frozen 8
    have f9 := q8.frozen 9
    go_wp2
    have q10 := RecBox.setAll (c0 := .int .i64 5) (c1 := .int .i64 (1 + (g : Int))) (c2 := .slice none 0 0) (c3 := .slice none 0 0) (c4 := .string ⟨#[]⟩) (c5 := .int .i64 0) (c6 := .int .i64 0) (c7 := .slice none 0 0) (c8 := .slice none 0 0) (c9 := .bool false) q8
    have hb10 := below_setAll (A := w.heap.size) (Nat.le_refl _) [.int .i64 5, .int .i64 (1 + (g : Int)), .slice none 0 0, .slice none 0 0, .string ⟨#[]⟩, .int .i64 0, .int .i64 0, .slice none 0 0, .slice none 0 0, .bool false] 0 hb0
    have hg10 : World.grownBy W (W.setCells w.heap.size 0 [.int .i64 5, .int .i64 (1 + (g : Int)), .slice none 0 0, .slice none 0 0, .string ⟨#[]⟩, .int .i64 0, .int .i64 0, .slice none 0 0, .slice none 0 0, .bool false]) (some w.heap.size) := grown_setAll [.int .i64 5, .int .i64 (1 + (g : Int)), .slice none 0 0, .slice none 0 0, .string ⟨#[]⟩, .int .i64 0, .int .i64 0, .slice none 0 0, .slice none 0 0, .bool false] 0 (World.grownBy.refl _ _)
    change bodyPost _ _ _ _ _ (W.setCells w.heap.size 0 [.int .i64 5, .int .i64 (1 + (g : Int)), .slice none 0 0, .slice none 0 0, .string ⟨#[]⟩, .int .i64 0, .int .i64 0, .slice none 0 0, .slice none 0 0, .bool false])
    generalize W.setCells w.heap.size 0 [.int .i64 5, .int .i64 (1 + (g : Int)), .slice none 0 0, .slice none 0 0, .string ⟨#[]⟩, .int .i64 0, .int .i64 0, .slice none 0 0, .slice none 0 0, .bool false] = W9 at *
    obtain ⟨z0, z1, z2, z3, z4, z5, z6, z7, z8, z9⟩ := RecBox.cells q10
    exact bodyPost_ret (by simp [results, Tryd.results7, go_sem, z0, z1, z2, z3, z4, z5, z6, z7, z8, z9]) rfl ⟨rfl, hb10⟩
  · obtain ⟨x, rfl, hc⟩ := hrow.2 0 (by omega)
    have e0 : zs.getD 0 0 = fn := by have := hfn'.out; rwa [firstN, if_neg h0] at this
    rw [e0] at hc
    have hcW : W.cell? x = some (.int .i64 fn) := by
      have := cell_below hb0 hc (block_lt hc)
      simpa [Addr.add] using this
    have hl1 : (0 : Int) < len := by omega
    clear hrow hc hfn' e0
    obtain ⟨y0, y1, y2, y3, y4, y5, y6, y7, y8, y9⟩ := q9c
    obtain ⟨x0, x1, x2, x3, x4, x5, x6, x7, x8, x9⟩ := q8c
    have f0 := q8.frozen 0
    have f1 := q8.frozen 1
    have f2 := q8.frozen 2
    have f3 := q8.frozen 3
    have f4 := q8.frozen 4
    have f5 := q8.frozen 5
    have f6 := q8.frozen 6
    have f7 := q8.frozen 7
    have f8 := q8.frozen 8
    have f9 := q8.frozen 9
    go_wp2
    have q10 := RecBox.setAll (c0 := .int .i64 5) (c1 := .int .i64 (1 + (g : Int))) (c2 := .slice none 0 0) (c3 := .slice none 0 0) (c4 := .string ⟨#[]⟩) (c5 := .int .i64 0) (c6 := .int .i64 0) (c7 := .slice none 0 0) (c8 := .slice none 0 0) (c9 := .bool false) q8
    have hb10 := below_setAll (A := w.heap.size) (Nat.le_refl _) [.int .i64 5, .int .i64 (1 + (g : Int)), .slice none 0 0, .slice none 0 0, .string ⟨#[]⟩, .int .i64 0, .int .i64 0, .slice none 0 0, .slice none 0 0, .bool false] 0 hb0
    have hg10 : World.grownBy W (W.setCells w.heap.size 0 [.int .i64 5, .int .i64 (1 + (g : Int)), .slice none 0 0, .slice none 0 0, .string ⟨#[]⟩, .int .i64 0, .int .i64 0, .slice none 0 0, .slice none 0 0, .bool false]) (some w.heap.size) := grown_setAll [.int .i64 5, .int .i64 (1 + (g : Int)), .slice none 0 0, .slice none 0 0, .string ⟨#[]⟩, .int .i64 0, .int .i64 0, .slice none 0 0, .slice none 0 0, .bool false] 0 (World.grownBy.refl _ _)
    change bodyPost _ _ _ _ _ (W.setCells w.heap.size 0 [.int .i64 5, .int .i64 (1 + (g : Int)), .slice none 0 0, .slice none 0 0, .string ⟨#[]⟩, .int .i64 0, .int .i64 0, .slice none 0 0, .slice none 0 0, .bool false])
    generalize W.setCells w.heap.size 0 [.int .i64 5, .int .i64 (1 + (g : Int)), .slice none 0 0, .slice none 0 0, .string ⟨#[]⟩, .int .i64 0, .int .i64 0, .slice none 0 0, .slice none 0 0, .bool false] = W9 at *
    obtain ⟨z0, z1, z2, z3, z4, z5, z6, z7, z8, z9⟩ := RecBox.cells q10
    exact bodyPost_ret (by simp [results, Tryd.results7, go_sem, z0, z1, z2, z3, z4, z5, z6, z7, z8, z9]) rfl ⟨rfl, hb10⟩

set_option maxRecDepth 100000 in
set_option maxHeartbeats 8000000 in
theorem make_six (kind gang name : Int) (a : Option Addr) (len cap : Nat) (zs : List Int) (g : Nat) (w : World) (hrow : HasRow w a len zs) (hk : kind % 7 = 5) (hg : gang % 999999 = g) :
    Calls Tryd.prog 7 #[.int .i64 kind, .int .i64 gang, .slice a len cap, .int .i64 name] w fun e w' => e = .returned (.agg #[.int .i64 6, .int .i64 (1 + (g : Int)), .slice none 0 0, .slice none 0 0, .string ⟨#[]⟩, .int .i64 0, .int .i64 0, .slice none 0 0, .slice none 0 0, .bool false]) ∧ Below w.heap.size w w' := by
  have hl0 : len ≤ 9223372036854775807 := hrow.1
  obtain ⟨fn, hfn⟩ : ∃ fn, firstN len zs = fn := ⟨_, rfl⟩
  have hfn' : Hid (firstN len zs = fn) := hfn
  have hg9 : g < 999999 := by omega
  clear hfn
  go_enter Tryd.func7, Tryd.ntmps7
  go_upto_region 3 with (first
    | (go_at_call 17; refine (within4_any _ _ _ (by decide) (by decide) (by assumption) _).mono ?_; rintro e wq ⟨rfl, rfl⟩))
  have hs1 : (w.alloc (.cells #[.int .i64 0, .int .i64 0, .slice none 0 0, .slice none 0 0, .string ⟨#[]⟩, .int .i64 0, .int .i64 0, .slice none 0 0, .slice none 0 0, .bool false] 35)).heap.size = w.heap.size + 1 := by simp
  have q8 : Box ((w.alloc (.cells #[.int .i64 0, .int .i64 0, .slice none 0 0, .slice none 0 0, .string ⟨#[]⟩, .int .i64 0, .int .i64 0, .slice none 0 0, .slice none 0 0, .bool false] 35)).alloc (.cells #[.int .i64 6, .int .i64 (1 + (g : Int)), .slice none 0 0, .slice none 0 0, .string ⟨#[]⟩, .int .i64 0, .int .i64 0, .slice none 0 0, .slice none 0 0, .bool false] 35)) w.heap.size #[.int .i64 0, .int .i64 0, .slice none 0 0, .slice none 0 0, .string ⟨#[]⟩, .int .i64 0, .int .i64 0, .slice none 0 0, .slice none 0 0, .bool false] 35 := (Box.new w _ _ rfl).up _
  have q9 : Box ((w.alloc (.cells #[.int .i64 0, .int .i64 0, .slice none 0 0, .slice none 0 0, .string ⟨#[]⟩, .int .i64 0, .int .i64 0, .slice none 0 0, .slice none 0 0, .bool false] 35)).alloc (.cells #[.int .i64 6, .int .i64 (1 + (g : Int)), .slice none 0 0, .slice none 0 0, .string ⟨#[]⟩, .int .i64 0, .int .i64 0, .slice none 0 0, .slice none 0 0, .bool false] 35)) (w.heap.size + 1) #[.int .i64 6, .int .i64 (1 + (g : Int)), .slice none 0 0, .slice none 0 0, .string ⟨#[]⟩, .int .i64 0, .int .i64 0, .slice none 0 0, .slice none 0 0, .bool false] 35 := Box.new _ _ _ hs1
  have hb0 : Below w.heap.size w ((w.alloc (.cells #[.int .i64 0, .int .i64 0, .slice none 0 0, .slice none 0 0, .string ⟨#[]⟩, .int .i64 0, .int .i64 0, .slice none 0 0, .slice none 0 0, .bool false] 35)).alloc (.cells #[.int .i64 6, .int .i64 (1 + (g : Int)), .slice none 0 0, .slice none 0 0, .string ⟨#[]⟩, .int .i64 0, .int .i64 0, .slice none 0 0, .slice none 0 0, .bool false] 35)) := up (up (Below.refl _ _) _) _
  obtain ⟨W, hW⟩ : ∃ W, (w.alloc (.cells #[.int .i64 0, .int .i64 0, .slice none 0 0, .slice none 0 0, .string ⟨#[]⟩, .int .i64 0, .int .i64 0, .slice none 0 0, .slice none 0 0, .bool false] 35)).alloc (.cells #[.int .i64 6, .int .i64 (1 + (g : Int)), .slice none 0 0, .slice none 0 0, .string ⟨#[]⟩, .int .i64 0, .int .i64 0, .slice none 0 0, .slice none 0 0, .bool false] 35) = W := ⟨_, rfl⟩
  rw [hW] at q8 q9 hb0 ⊢
  clear hW hs1 hk hg
  have q8c := RecBox.cells q8
  have q9c := RecBox.cells q9
  by_cases h0 : len = 0
  · subst h0
    have e5 : fn = 5 := hfn'.out.symm
    subst e5
    clear hrow hfn'
    obtain ⟨y0, y1, y2, y3, y4, y5, y6, y7, y8, y9⟩ := q9c
    obtain ⟨x0, x1, x2, x3, x4, x5, x6, x7, x8, x9⟩ := q8c
    have f0 := q8.frozen 0
    have f1 := q8.frozen 1
    have f2 := q8.frozen 2
    have f3 := q8.frozen 3
    have f4 := q8.frozen 4
    have f5 := q8.frozen 5
    have f6 := q8.frozen 6
    have f7 := q8.frozen 7
    have f8 := q8.frozen 8
    have f9 := q8.frozen 9
    go_wp2
    have q10 := RecBox.setAll (c0 := .int .i64 6) (c1 := .int .i64 (1 + (g : Int))) (c2 := .slice none 0 0) (c3 := .slice none 0 0) (c4 := .string ⟨#[]⟩) (c5 := .int .i64 0) (c6 := .int .i64 0) (c7 := .slice none 0 0) (c8 := .slice none 0 0) (c9 := .bool false) q8
    have hb10 := below_setAll (A := w.heap.size) (Nat.le_refl _) [.int .i64 6, .int .i64 (1 + (g : Int)), .slice none 0 0, .slice none 0 0, .string ⟨#[]⟩, .int .i64 0, .int .i64 0, .slice none 0 0, .slice none 0 0, .bool false] 0 hb0
    have hg10 : World.grownBy W (W.setCells w.heap.size 0 [.int .i64 6, .int .i64 (1 + (g : Int)), .slice none 0 0, .slice none 0 0, .string ⟨#[]⟩, .int .i64 0, .int .i64 0, .slice none 0 0, .slice none 0 0, .bool false]) (some w.heap.size) := grown_setAll [.int .i64 6, .int .i64 (1 + (g : Int)), .slice none 0 0, .slice none 0 0, .string ⟨#[]⟩, .int .i64 0, .int .i64 0, .slice none 0 0, .slice none 0 0, .bool false] 0 (World.grownBy.refl _ _)
    change bodyPost _ _ _ _ _ (W.setCells w.heap.size 0 [.int .i64 6, .int .i64 (1 + (g : Int)), .slice none 0 0, .slice none 0 0, .string ⟨#[]⟩, .int .i64 0, .int .i64 0, .slice none 0 0, .slice none 0 0, .bool false])
    generalize W.setCells w.heap.size 0 [.int .i64 6, .int .i64 (1 + (g : Int)), .slice none 0 0, .slice none 0 0, .string ⟨#[]⟩, .int .i64 0, .int .i64 0, .slice none 0 0, .slice none 0 0, .bool false] = W9 at *
    obtain ⟨z0, z1, z2, z3, z4, z5, z6, z7, z8, z9⟩ := RecBox.cells q10
    exact bodyPost_ret (by simp [results, Tryd.results7, go_sem, z0, z1, z2, z3, z4, z5, z6, z7, z8, z9]) rfl ⟨rfl, hb10⟩
  · obtain ⟨x, rfl, hc⟩ := hrow.2 0 (by omega)
    have e0 : zs.getD 0 0 = fn := by have := hfn'.out; rwa [firstN, if_neg h0] at this
    rw [e0] at hc
    have hcW : W.cell? x = some (.int .i64 fn) := by
      have := cell_below hb0 hc (block_lt hc)
      simpa [Addr.add] using this
    have hl1 : (0 : Int) < len := by omega
    clear hrow hc hfn' e0
    obtain ⟨y0, y1, y2, y3, y4, y5, y6, y7, y8, y9⟩ := q9c
    obtain ⟨x0, x1, x2, x3, x4, x5, x6, x7, x8, x9⟩ := q8c
    have f0 := q8.frozen 0
    have f1 := q8.frozen 1
    have f2 := q8.frozen 2
    have f3 := q8.frozen 3
    have f4 := q8.frozen 4
    have f5 := q8.frozen 5
    have f6 := q8.frozen 6
    have f7 := q8.frozen 7
    have f8 := q8.frozen 8
    have f9 := q8.frozen 9
    go_wp2
    have q10 := RecBox.setAll (c0 := .int .i64 6) (c1 := .int .i64 (1 + (g : Int))) (c2 := .slice none 0 0) (c3 := .slice none 0 0) (c4 := .string ⟨#[]⟩) (c5 := .int .i64 0) (c6 := .int .i64 0) (c7 := .slice none 0 0) (c8 := .slice none 0 0) (c9 := .bool false) q8
    have hb10 := below_setAll (A := w.heap.size) (Nat.le_refl _) [.int .i64 6, .int .i64 (1 + (g : Int)), .slice none 0 0, .slice none 0 0, .string ⟨#[]⟩, .int .i64 0, .int .i64 0, .slice none 0 0, .slice none 0 0, .bool false] 0 hb0
    have hg10 : World.grownBy W (W.setCells w.heap.size 0 [.int .i64 6, .int .i64 (1 + (g : Int)), .slice none 0 0, .slice none 0 0, .string ⟨#[]⟩, .int .i64 0, .int .i64 0, .slice none 0 0, .slice none 0 0, .bool false]) (some w.heap.size) := grown_setAll [.int .i64 6, .int .i64 (1 + (g : Int)), .slice none 0 0, .slice none 0 0, .string ⟨#[]⟩, .int .i64 0, .int .i64 0, .slice none 0 0, .slice none 0 0, .bool false] 0 (World.grownBy.refl _ _)
    change bodyPost _ _ _ _ _ (W.setCells w.heap.size 0 [.int .i64 6, .int .i64 (1 + (g : Int)), .slice none 0 0, .slice none 0 0, .string ⟨#[]⟩, .int .i64 0, .int .i64 0, .slice none 0 0, .slice none 0 0, .bool false])
    generalize W.setCells w.heap.size 0 [.int .i64 6, .int .i64 (1 + (g : Int)), .slice none 0 0, .slice none 0 0, .string ⟨#[]⟩, .int .i64 0, .int .i64 0, .slice none 0 0, .slice none 0 0, .bool false] = W9 at *
    obtain ⟨z0, z1, z2, z3, z4, z5, z6, z7, z8, z9⟩ := RecBox.cells q10
    exact bodyPost_ret (by simp [results, Tryd.results7, go_sem, z0, z1, z2, z3, z4, z5, z6, z7, z8, z9]) rfl ⟨rfl, hb10⟩

set_option maxRecDepth 100000 in
set_option maxHeartbeats 8000000 in
theorem make_gone (kind gang name : Int) (a : Option Addr) (len cap : Nat) (zs : List Int) (g : Nat) (w : World) (hrow : HasRow w a len zs) (hk : kind % 7 = 1) (hg : gang % 999999 = g) :
    Calls Tryd.prog 7 #[.int .i64 kind, .int .i64 gang, .slice a len cap, .int .i64 name] w fun e w' => e = .returned (.agg #[.int .i64 2, .int .i64 0, .slice none 0 0, .slice none 0 0, .string (nameAt name), .int .i64 0, .int .i64 0, .slice none 0 0, .slice none 0 0, .bool false]) ∧ Below w.heap.size w w' := by
  have hl0 : len ≤ 9223372036854775807 := hrow.1
  obtain ⟨fn, hfn⟩ : ∃ fn, firstN len zs = fn := ⟨_, rfl⟩
  have hfn' : Hid (firstN len zs = fn) := hfn
  have hg9 : g < 999999 := by omega
  clear hfn
  have kn := fun W0 Wx (hb : Below W0.heap.size W0 Wx) => lName_is name (nameAt name) W0 Wx hb rfl
  obtain ⟨nm, hnm⟩ : ∃ nm, nameAt name = nm := ⟨_, rfl⟩
  rw [hnm] at kn ⊢
  clear hnm
  go_enter Tryd.func7, Tryd.ntmps7
  go_upto_region 3 with (first
    | (go_at_call 17; refine (within4_any _ _ _ (by decide) (by decide) (by assumption) _).mono ?_; rintro e wq ⟨rfl, rfl⟩))
  have hs1 : (w.alloc (.cells #[.int .i64 0, .int .i64 0, .slice none 0 0, .slice none 0 0, .string ⟨#[]⟩, .int .i64 0, .int .i64 0, .slice none 0 0, .slice none 0 0, .bool false] 35)).heap.size = w.heap.size + 1 := by simp
  have q8 : Box ((w.alloc (.cells #[.int .i64 0, .int .i64 0, .slice none 0 0, .slice none 0 0, .string ⟨#[]⟩, .int .i64 0, .int .i64 0, .slice none 0 0, .slice none 0 0, .bool false] 35)).alloc (.cells #[.int .i64 2, .int .i64 (1 + (g : Int)), .slice none 0 0, .slice none 0 0, .string ⟨#[]⟩, .int .i64 0, .int .i64 0, .slice none 0 0, .slice none 0 0, .bool false] 35)) w.heap.size #[.int .i64 0, .int .i64 0, .slice none 0 0, .slice none 0 0, .string ⟨#[]⟩, .int .i64 0, .int .i64 0, .slice none 0 0, .slice none 0 0, .bool false] 35 := (Box.new w _ _ rfl).up _
  have q9 : Box ((w.alloc (.cells #[.int .i64 0, .int .i64 0, .slice none 0 0, .slice none 0 0, .string ⟨#[]⟩, .int .i64 0, .int .i64 0, .slice none 0 0, .slice none 0 0, .bool false] 35)).alloc (.cells #[.int .i64 2, .int .i64 (1 + (g : Int)), .slice none 0 0, .slice none 0 0, .string ⟨#[]⟩, .int .i64 0, .int .i64 0, .slice none 0 0, .slice none 0 0, .bool false] 35)) (w.heap.size + 1) #[.int .i64 2, .int .i64 (1 + (g : Int)), .slice none 0 0, .slice none 0 0, .string ⟨#[]⟩, .int .i64 0, .int .i64 0, .slice none 0 0, .slice none 0 0, .bool false] 35 := Box.new _ _ _ hs1
  have hb0 : Below w.heap.size w ((w.alloc (.cells #[.int .i64 0, .int .i64 0, .slice none 0 0, .slice none 0 0, .string ⟨#[]⟩, .int .i64 0, .int .i64 0, .slice none 0 0, .slice none 0 0, .bool false] 35)).alloc (.cells #[.int .i64 2, .int .i64 (1 + (g : Int)), .slice none 0 0, .slice none 0 0, .string ⟨#[]⟩, .int .i64 0, .int .i64 0, .slice none 0 0, .slice none 0 0, .bool false] 35)) := up (up (Below.refl _ _) _) _
  obtain ⟨W, hW⟩ : ∃ W, (w.alloc (.cells #[.int .i64 0, .int .i64 0, .slice none 0 0, .slice none 0 0, .string ⟨#[]⟩, .int .i64 0, .int .i64 0, .slice none 0 0, .slice none 0 0, .bool false] 35)).alloc (.cells #[.int .i64 2, .int .i64 (1 + (g : Int)), .slice none 0 0, .slice none 0 0, .string ⟨#[]⟩, .int .i64 0, .int .i64 0, .slice none 0 0, .slice none 0 0, .bool false] 35) = W := ⟨_, rfl⟩
  rw [hW] at q8 q9 hb0 ⊢
  clear hW hs1 hk hg
  have q8c := RecBox.cells q8
  have q9c := RecBox.cells q9
  by_cases h0 : len = 0
  · subst h0
    have e5 : fn = 5 := hfn'.out.symm
    subst e5
    clear hrow hfn'
    obtain ⟨y0, y1, y2, y3, y4, y5, y6, y7, y8, y9⟩ := q9c
    obtain ⟨x0, x1, x2, x3, x4, x5, x6, x7, x8, x9⟩ := q8c
    go_upto_region 21 with (go_at_call 19; refine (kn W _ (Below.refl _ _)).mono ?_
                            rintro e w3 ⟨rfl, hb3⟩
                            have r8 := q8.later hb3
                            have r9 := q9.later hb3
                            have hb03 := fin hb3 hb0
                            obtain ⟨z0, z1, z2, z3, z4, z5, z6, z7, z8, z9⟩ := RecBox.cells r9
                            have g1 := r9.frozen 1
                            have g4 := r9.frozen 4)
    have s8 := (r8.other (by omega : w.heap.size ≠ w.heap.size + 1) 1 (.int .i64 0)).other (by omega : w.heap.size ≠ w.heap.size + 1) 4 (.string nm)
    have s9 := (r9.set 1 (.int .i64 0)).set 4 (.string nm)
    have hb4 := (hb03.setCell (p := ⟨w.heap.size + 1, 1, none⟩) (Nat.le_succ _) (.int .i64 0)).setCell (p := ⟨w.heap.size + 1, 4, none⟩) (Nat.le_succ _) (.string nm)
    generalize (w3.setCell ⟨w.heap.size + 1, 1, none⟩ (.int .i64 0)).setCell ⟨w.heap.size + 1, 4, none⟩ (.string nm) = W4 at *
    clear x0 x1 x2 x3 x4 x5 x6 x7 x8 x9 y0 y1 y2 y3 y4 y5 y6 y7 y8 y9 z0 z1 z2 z3 z4 z5 z6 z7 z8 z9 g1 g4
    obtain ⟨x0, x1, x2, x3, x4, x5, x6, x7, x8, x9⟩ := RecBox.cells s8
    obtain ⟨y0, y1, y2, y3, y4, y5, y6, y7, y8, y9⟩ := RecBox.cells s9
    have f0 := s8.frozen 0
    have f1 := s8.frozen 1
    have f2 := s8.frozen 2
    have f3 := s8.frozen 3
    have f4 := s8.frozen 4
    have f5 := s8.frozen 5
    have f6 := s8.frozen 6
    have f7 := s8.frozen 7
    have f8 := s8.frozen 8
    have f9 := s8.frozen 9
    go_wp2
    have q10 := RecBox.setAll (c0 := .int .i64 2) (c1 := .int .i64 0) (c2 := .slice none 0 0) (c3 := .slice none 0 0) (c4 := .string nm) (c5 := .int .i64 0) (c6 := .int .i64 0) (c7 := .slice none 0 0) (c8 := .slice none 0 0) (c9 := .bool false) s8
    have hb10 := below_setAll (A := w.heap.size) (Nat.le_refl _) [.int .i64 2, .int .i64 0, .slice none 0 0, .slice none 0 0, .string nm, .int .i64 0, .int .i64 0, .slice none 0 0, .slice none 0 0, .bool false] 0 hb4
    have hg10 : World.grownBy W4 (W4.setCells w.heap.size 0 [.int .i64 2, .int .i64 0, .slice none 0 0, .slice none 0 0, .string nm, .int .i64 0, .int .i64 0, .slice none 0 0, .slice none 0 0, .bool false]) (some w.heap.size) := grown_setAll [.int .i64 2, .int .i64 0, .slice none 0 0, .slice none 0 0, .string nm, .int .i64 0, .int .i64 0, .slice none 0 0, .slice none 0 0, .bool false] 0 (World.grownBy.refl _ _)
    change bodyPost _ _ _ _ _ (W4.setCells w.heap.size 0 [.int .i64 2, .int .i64 0, .slice none 0 0, .slice none 0 0, .string nm, .int .i64 0, .int .i64 0, .slice none 0 0, .slice none 0 0, .bool false])
    generalize W4.setCells w.heap.size 0 [.int .i64 2, .int .i64 0, .slice none 0 0, .slice none 0 0, .string nm, .int .i64 0, .int .i64 0, .slice none 0 0, .slice none 0 0, .bool false] = W9 at *
    obtain ⟨z0, z1, z2, z3, z4, z5, z6, z7, z8, z9⟩ := RecBox.cells q10
    exact bodyPost_ret (by simp [results, Tryd.results7, go_sem, z0, z1, z2, z3, z4, z5, z6, z7, z8, z9]) rfl ⟨rfl, hb10⟩
  · obtain ⟨x, rfl, hc⟩ := hrow.2 0 (by omega)
    have e0 : zs.getD 0 0 = fn := by have := hfn'.out; rwa [firstN, if_neg h0] at this
    rw [e0] at hc
    have hcW : W.cell? x = some (.int .i64 fn) := by
      have := cell_below hb0 hc (block_lt hc)
      simpa [Addr.add] using this
    have hl1 : (0 : Int) < len := by omega
    clear hrow hc hfn' e0
    obtain ⟨y0, y1, y2, y3, y4, y5, y6, y7, y8, y9⟩ := q9c
    obtain ⟨x0, x1, x2, x3, x4, x5, x6, x7, x8, x9⟩ := q8c
    go_upto_region 21 with (go_at_call 19; refine (kn W _ (Below.refl _ _)).mono ?_
                            rintro e w3 ⟨rfl, hb3⟩
                            have r8 := q8.later hb3
                            have r9 := q9.later hb3
                            have hb03 := fin hb3 hb0
                            obtain ⟨z0, z1, z2, z3, z4, z5, z6, z7, z8, z9⟩ := RecBox.cells r9
                            have g1 := r9.frozen 1
                            have g4 := r9.frozen 4)
    have s8 := (r8.other (by omega : w.heap.size ≠ w.heap.size + 1) 1 (.int .i64 0)).other (by omega : w.heap.size ≠ w.heap.size + 1) 4 (.string nm)
    have s9 := (r9.set 1 (.int .i64 0)).set 4 (.string nm)
    have hb4 := (hb03.setCell (p := ⟨w.heap.size + 1, 1, none⟩) (Nat.le_succ _) (.int .i64 0)).setCell (p := ⟨w.heap.size + 1, 4, none⟩) (Nat.le_succ _) (.string nm)
    generalize (w3.setCell ⟨w.heap.size + 1, 1, none⟩ (.int .i64 0)).setCell ⟨w.heap.size + 1, 4, none⟩ (.string nm) = W4 at *
    clear x0 x1 x2 x3 x4 x5 x6 x7 x8 x9 y0 y1 y2 y3 y4 y5 y6 y7 y8 y9 z0 z1 z2 z3 z4 z5 z6 z7 z8 z9 g1 g4
    obtain ⟨x0, x1, x2, x3, x4, x5, x6, x7, x8, x9⟩ := RecBox.cells s8
    obtain ⟨y0, y1, y2, y3, y4, y5, y6, y7, y8, y9⟩ := RecBox.cells s9
    have f0 := s8.frozen 0
    have f1 := s8.frozen 1
    have f2 := s8.frozen 2
    have f3 := s8.frozen 3
    have f4 := s8.frozen 4
    have f5 := s8.frozen 5
    have f6 := s8.frozen 6
    have f7 := s8.frozen 7
    have f8 := s8.frozen 8
    have f9 := s8.frozen 9
    go_wp2
    have q10 := RecBox.setAll (c0 := .int .i64 2) (c1 := .int .i64 0) (c2 := .slice none 0 0) (c3 := .slice none 0 0) (c4 := .string nm) (c5 := .int .i64 0) (c6 := .int .i64 0) (c7 := .slice none 0 0) (c8 := .slice none 0 0) (c9 := .bool false) s8
    have hb10 := below_setAll (A := w.heap.size) (Nat.le_refl _) [.int .i64 2, .int .i64 0, .slice none 0 0, .slice none 0 0, .string nm, .int .i64 0, .int .i64 0, .slice none 0 0, .slice none 0 0, .bool false] 0 hb4
    have hg10 : World.grownBy W4 (W4.setCells w.heap.size 0 [.int .i64 2, .int .i64 0, .slice none 0 0, .slice none 0 0, .string nm, .int .i64 0, .int .i64 0, .slice none 0 0, .slice none 0 0, .bool false]) (some w.heap.size) := grown_setAll [.int .i64 2, .int .i64 0, .slice none 0 0, .slice none 0 0, .string nm, .int .i64 0, .int .i64 0, .slice none 0 0, .slice none 0 0, .bool false] 0 (World.grownBy.refl _ _)
    change bodyPost _ _ _ _ _ (W4.setCells w.heap.size 0 [.int .i64 2, .int .i64 0, .slice none 0 0, .slice none 0 0, .string nm, .int .i64 0, .int .i64 0, .slice none 0 0, .slice none 0 0, .bool false])
    generalize W4.setCells w.heap.size 0 [.int .i64 2, .int .i64 0, .slice none 0 0, .slice none 0 0, .string nm, .int .i64 0, .int .i64 0, .slice none 0 0, .slice none 0 0, .bool false] = W9 at *
    obtain ⟨z0, z1, z2, z3, z4, z5, z6, z7, z8, z9⟩ := RecBox.cells q10
    exact bodyPost_ret (by simp [results, Tryd.results7, go_sem, z0, z1, z2, z3, z4, z5, z6, z7, z8, z9]) rfl ⟨rfl, hb10⟩

set_option maxRecDepth 100000 in
set_option maxHeartbeats 8000000 in
theorem make_seven (kind gang name : Int) (a : Option Addr) (len cap : Nat) (zs : List Int) (g : Nat) (w : World) (hrow : HasRow w a len zs) (hk : kind % 7 = 6) (hg : gang % 999999 = g) :
    Calls Tryd.prog 7 #[.int .i64 kind, .int .i64 gang, .slice a len cap, .int .i64 name] w fun e w' => ∃ a1 c1, e = .returned (.agg #[.int .i64 7, .int .i64 (1 + (g : Int)), .slice a1 (peersTo name 4).length c1, .slice none 0 0, .string ⟨#[]⟩, .int .i64 0, .int .i64 0, .slice none 0 0, .slice none 0 0, .bool false]) ∧ w'.ownsRow w.heap.size 3 1 (.slice a1 (peersTo name 4).length c1) (peersTo name 4).length ((peersTo name 4).map natV) ∧ Below w.heap.size w w' := by
  have hl0 : len ≤ 9223372036854775807 := hrow.1
  obtain ⟨fn, hfn⟩ : ∃ fn, firstN len zs = fn := ⟨_, rfl⟩
  have hfn' : Hid (firstN len zs = fn) := hfn
  have hg9 : g < 999999 := by omega
  clear hfn
  have kp := fun Wx => lPeers_any name Wx
  obtain ⟨ps, hps⟩ : ∃ ps, peersTo name 4 = ps := ⟨_, rfl⟩
  rw [hps] at kp ⊢
  obtain ⟨pn, hpn⟩ : ∃ pn, ps.length = pn := ⟨_, rfl⟩
  rw [hpn] at kp ⊢
  clear hps hpn
  go_enter Tryd.func7, Tryd.ntmps7
  go_upto_region 3 with (first
    | (go_at_call 17; refine (within4_any _ _ _ (by decide) (by decide) (by assumption) _).mono ?_; rintro e wq ⟨rfl, rfl⟩))
  have hs1 : (w.alloc (.cells #[.int .i64 0, .int .i64 0, .slice none 0 0, .slice none 0 0, .string ⟨#[]⟩, .int .i64 0, .int .i64 0, .slice none 0 0, .slice none 0 0, .bool false] 35)).heap.size = w.heap.size + 1 := by simp
  have q8 : Box ((w.alloc (.cells #[.int .i64 0, .int .i64 0, .slice none 0 0, .slice none 0 0, .string ⟨#[]⟩, .int .i64 0, .int .i64 0, .slice none 0 0, .slice none 0 0, .bool false] 35)).alloc (.cells #[.int .i64 7, .int .i64 (1 + (g : Int)), .slice none 0 0, .slice none 0 0, .string ⟨#[]⟩, .int .i64 0, .int .i64 0, .slice none 0 0, .slice none 0 0, .bool false] 35)) w.heap.size #[.int .i64 0, .int .i64 0, .slice none 0 0, .slice none 0 0, .string ⟨#[]⟩, .int .i64 0, .int .i64 0, .slice none 0 0, .slice none 0 0, .bool false] 35 := (Box.new w _ _ rfl).up _
  have q9 : Box ((w.alloc (.cells #[.int .i64 0, .int .i64 0, .slice none 0 0, .slice none 0 0, .string ⟨#[]⟩, .int .i64 0, .int .i64 0, .slice none 0 0, .slice none 0 0, .bool false] 35)).alloc (.cells #[.int .i64 7, .int .i64 (1 + (g : Int)), .slice none 0 0, .slice none 0 0, .string ⟨#[]⟩, .int .i64 0, .int .i64 0, .slice none 0 0, .slice none 0 0, .bool false] 35)) (w.heap.size + 1) #[.int .i64 7, .int .i64 (1 + (g : Int)), .slice none 0 0, .slice none 0 0, .string ⟨#[]⟩, .int .i64 0, .int .i64 0, .slice none 0 0, .slice none 0 0, .bool false] 35 := Box.new _ _ _ hs1
  have hb0 : Below w.heap.size w ((w.alloc (.cells #[.int .i64 0, .int .i64 0, .slice none 0 0, .slice none 0 0, .string ⟨#[]⟩, .int .i64 0, .int .i64 0, .slice none 0 0, .slice none 0 0, .bool false] 35)).alloc (.cells #[.int .i64 7, .int .i64 (1 + (g : Int)), .slice none 0 0, .slice none 0 0, .string ⟨#[]⟩, .int .i64 0, .int .i64 0, .slice none 0 0, .slice none 0 0, .bool false] 35)) := up (up (Below.refl _ _) _) _
  obtain ⟨W, hW⟩ : ∃ W, (w.alloc (.cells #[.int .i64 0, .int .i64 0, .slice none 0 0, .slice none 0 0, .string ⟨#[]⟩, .int .i64 0, .int .i64 0, .slice none 0 0, .slice none 0 0, .bool false] 35)).alloc (.cells #[.int .i64 7, .int .i64 (1 + (g : Int)), .slice none 0 0, .slice none 0 0, .string ⟨#[]⟩, .int .i64 0, .int .i64 0, .slice none 0 0, .slice none 0 0, .bool false] 35) = W := ⟨_, rfl⟩
  rw [hW] at q8 q9 hb0 ⊢
  clear hW hs1 hk hg
  have q8c := RecBox.cells q8
  have q9c := RecBox.cells q9
  by_cases h0 : len = 0
  · subst h0
    have e5 : fn = 5 := hfn'.out.symm
    subst e5
    clear hrow hfn'
    obtain ⟨y0, y1, y2, y3, y4, y5, y6, y7, y8, y9⟩ := q9c
    obtain ⟨x0, x1, x2, x3, x4, x5, x6, x7, x8, x9⟩ := q8c
    go_upto_region 21 with (go_at_call 20; refine (kp _).mono ?_
                            rintro e w3 ⟨v3, rfl, ho3, hb3⟩
                            obtain ⟨a1, c1, rfl⟩ := slice_of_own ho3
                            have r8 := q8.later hb3
                            have r9 := q9.later hb3
                            have hb03 := fin hb3 hb0
                            obtain ⟨z0, z1, z2, z3, z4, z5, z6, z7, z8, z9⟩ := RecBox.cells r9
                            have g2 := r9.frozen 2)
    have hWs := q9.lt
    have s8 := r8.other (by omega : w.heap.size ≠ w.heap.size + 1) 2 (.slice a1 pn c1)
    have s9 := r9.set 2 (.slice a1 pn c1)
    have hb4 := hb03.setCell (p := ⟨w.heap.size + 1, 2, none⟩) (Nat.le_succ _) (.slice a1 pn c1)
    have ho4 := own_other ho3 (b := w.heap.size + 1) hWs 2 (.slice a1 pn c1)
    generalize w3.setCell ⟨w.heap.size + 1, 2, none⟩ (.slice a1 pn c1) = W4 at *
    clear x0 x1 x2 x3 x4 x5 x6 x7 x8 x9 y0 y1 y2 y3 y4 y5 y6 y7 y8 y9 z0 z1 z2 z3 z4 z5 z6 z7 z8 z9 g2
    obtain ⟨x0, x1, x2, x3, x4, x5, x6, x7, x8, x9⟩ := RecBox.cells s8
    obtain ⟨y0, y1, y2, y3, y4, y5, y6, y7, y8, y9⟩ := RecBox.cells s9
    have f0 := s8.frozen 0
    have f1 := s8.frozen 1
    have f2 := s8.frozen 2
    have f3 := s8.frozen 3
    have f4 := s8.frozen 4
    have f5 := s8.frozen 5
    have f6 := s8.frozen 6
    have f7 := s8.frozen 7
    have f8 := s8.frozen 8
    have f9 := s8.frozen 9
    go_wp2
    have q10 := RecBox.setAll (c0 := .int .i64 7) (c1 := .int .i64 (1 + (g : Int))) (c2 := .slice a1 pn c1) (c3 := .slice none 0 0) (c4 := .string ⟨#[]⟩) (c5 := .int .i64 0) (c6 := .int .i64 0) (c7 := .slice none 0 0) (c8 := .slice none 0 0) (c9 := .bool false) s8
    have hb10 := below_setAll (A := w.heap.size) (Nat.le_refl _) [.int .i64 7, .int .i64 (1 + (g : Int)), .slice a1 pn c1, .slice none 0 0, .string ⟨#[]⟩, .int .i64 0, .int .i64 0, .slice none 0 0, .slice none 0 0, .bool false] 0 hb4
    have hg10 : World.grownBy W4 (W4.setCells w.heap.size 0 [.int .i64 7, .int .i64 (1 + (g : Int)), .slice a1 pn c1, .slice none 0 0, .string ⟨#[]⟩, .int .i64 0, .int .i64 0, .slice none 0 0, .slice none 0 0, .bool false]) (some w.heap.size) := grown_setAll [.int .i64 7, .int .i64 (1 + (g : Int)), .slice a1 pn c1, .slice none 0 0, .string ⟨#[]⟩, .int .i64 0, .int .i64 0, .slice none 0 0, .slice none 0 0, .bool false] 0 (World.grownBy.refl _ _)
    change bodyPost _ _ _ _ _ (W4.setCells w.heap.size 0 [.int .i64 7, .int .i64 (1 + (g : Int)), .slice a1 pn c1, .slice none 0 0, .string ⟨#[]⟩, .int .i64 0, .int .i64 0, .slice none 0 0, .slice none 0 0, .bool false])
    generalize W4.setCells w.heap.size 0 [.int .i64 7, .int .i64 (1 + (g : Int)), .slice a1 pn c1, .slice none 0 0, .string ⟨#[]⟩, .int .i64 0, .int .i64 0, .slice none 0 0, .slice none 0 0, .bool false] = W9 at *
    obtain ⟨z0, z1, z2, z3, z4, z5, z6, z7, z8, z9⟩ := RecBox.cells q10
    exact bodyPost_ret (by simp [results, Tryd.results7, go_sem, z0, z1, z2, z3, z4, z5, z6, z7, z8, z9]) rfl ⟨a1, c1, rfl, own_low (ho4.kept hg10 (.inr (fun e => by have := (ho4.lt _ e).1; omega))) (by omega), hb10⟩
  · obtain ⟨x, rfl, hc⟩ := hrow.2 0 (by omega)
    have e0 : zs.getD 0 0 = fn := by have := hfn'.out; rwa [firstN, if_neg h0] at this
    rw [e0] at hc
    have hcW : W.cell? x = some (.int .i64 fn) := by
      have := cell_below hb0 hc (block_lt hc)
      simpa [Addr.add] using this
    have hl1 : (0 : Int) < len := by omega
    clear hrow hc hfn' e0
    obtain ⟨y0, y1, y2, y3, y4, y5, y6, y7, y8, y9⟩ := q9c
    obtain ⟨x0, x1, x2, x3, x4, x5, x6, x7, x8, x9⟩ := q8c
    go_upto_region 21 with (go_at_call 20; refine (kp _).mono ?_
                            rintro e w3 ⟨v3, rfl, ho3, hb3⟩
                            obtain ⟨a1, c1, rfl⟩ := slice_of_own ho3
                            have r8 := q8.later hb3
                            have r9 := q9.later hb3
                            have hb03 := fin hb3 hb0
                            obtain ⟨z0, z1, z2, z3, z4, z5, z6, z7, z8, z9⟩ := RecBox.cells r9
                            have g2 := r9.frozen 2)
    have hWs := q9.lt
    have s8 := r8.other (by omega : w.heap.size ≠ w.heap.size + 1) 2 (.slice a1 pn c1)
    have s9 := r9.set 2 (.slice a1 pn c1)
    have hb4 := hb03.setCell (p := ⟨w.heap.size + 1, 2, none⟩) (Nat.le_succ _) (.slice a1 pn c1)
    have ho4 := own_other ho3 (b := w.heap.size + 1) hWs 2 (.slice a1 pn c1)
    generalize w3.setCell ⟨w.heap.size + 1, 2, none⟩ (.slice a1 pn c1) = W4 at *
    clear x0 x1 x2 x3 x4 x5 x6 x7 x8 x9 y0 y1 y2 y3 y4 y5 y6 y7 y8 y9 z0 z1 z2 z3 z4 z5 z6 z7 z8 z9 g2
    obtain ⟨x0, x1, x2, x3, x4, x5, x6, x7, x8, x9⟩ := RecBox.cells s8
    obtain ⟨y0, y1, y2, y3, y4, y5, y6, y7, y8, y9⟩ := RecBox.cells s9
    have f0 := s8.frozen 0
    have f1 := s8.frozen 1
    have f2 := s8.frozen 2
    have f3 := s8.frozen 3
    have f4 := s8.frozen 4
    have f5 := s8.frozen 5
    have f6 := s8.frozen 6
    have f7 := s8.frozen 7
    have f8 := s8.frozen 8
    have f9 := s8.frozen 9
    go_wp2
    have q10 := RecBox.setAll (c0 := .int .i64 7) (c1 := .int .i64 (1 + (g : Int))) (c2 := .slice a1 pn c1) (c3 := .slice none 0 0) (c4 := .string ⟨#[]⟩) (c5 := .int .i64 0) (c6 := .int .i64 0) (c7 := .slice none 0 0) (c8 := .slice none 0 0) (c9 := .bool false) s8
    have hb10 := below_setAll (A := w.heap.size) (Nat.le_refl _) [.int .i64 7, .int .i64 (1 + (g : Int)), .slice a1 pn c1, .slice none 0 0, .string ⟨#[]⟩, .int .i64 0, .int .i64 0, .slice none 0 0, .slice none 0 0, .bool false] 0 hb4
    have hg10 : World.grownBy W4 (W4.setCells w.heap.size 0 [.int .i64 7, .int .i64 (1 + (g : Int)), .slice a1 pn c1, .slice none 0 0, .string ⟨#[]⟩, .int .i64 0, .int .i64 0, .slice none 0 0, .slice none 0 0, .bool false]) (some w.heap.size) := grown_setAll [.int .i64 7, .int .i64 (1 + (g : Int)), .slice a1 pn c1, .slice none 0 0, .string ⟨#[]⟩, .int .i64 0, .int .i64 0, .slice none 0 0, .slice none 0 0, .bool false] 0 (World.grownBy.refl _ _)
    change bodyPost _ _ _ _ _ (W4.setCells w.heap.size 0 [.int .i64 7, .int .i64 (1 + (g : Int)), .slice a1 pn c1, .slice none 0 0, .string ⟨#[]⟩, .int .i64 0, .int .i64 0, .slice none 0 0, .slice none 0 0, .bool false])
    generalize W4.setCells w.heap.size 0 [.int .i64 7, .int .i64 (1 + (g : Int)), .slice a1 pn c1, .slice none 0 0, .string ⟨#[]⟩, .int .i64 0, .int .i64 0, .slice none 0 0, .slice none 0 0, .bool false] = W9 at *
    obtain ⟨z0, z1, z2, z3, z4, z5, z6, z7, z8, z9⟩ := RecBox.cells q10
    exact bodyPost_ret (by simp [results, Tryd.results7, go_sem, z0, z1, z2, z3, z4, z5, z6, z7, z8, z9]) rfl ⟨a1, c1, rfl, own_low (ho4.kept hg10 (.inr (fun e => by have := (ho4.lt _ e).1; omega))) (by omega), hb10⟩

end Go.Proofs.YtmldpihjndafaabDoor
