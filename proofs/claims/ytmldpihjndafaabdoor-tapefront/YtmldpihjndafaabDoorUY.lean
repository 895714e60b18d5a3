/- The statements' own Make: a node. -/
import Derived.Test.YtmldpihjndafaabDoorUX
namespace Go.Proofs.YtmldpihjndafaabDoor
open Go.RowKit
set_option linter.unusedSimpArgs false
set_option linter.unusedVariables false

set_option maxRecDepth 100000 in
set_option maxHeartbeats 8000000 in
theorem make_node (kind gang name : Int) (a : Option Addr) (len cap : Nat) (zs : List Int) (g : Nat) (w : World) (hrow : HasRow w a len zs) (hk : kind % 7 = 0) (hg : gang % 999999 = g) :
    Calls Tryd.prog 7 #[.int .i64 kind, .int .i64 gang, .slice a len cap, .int .i64 name] w fun e w' => ∃ a3 c3 a4 c4, e = .returned (.agg #[.int .i64 1, .int .i64 0, .slice none 0 0, .slice none 0 0, .string (nameAt name), .int .i64 (firstN len zs % 12), .int .i64 (wrap64 ((firstN len zs).tdiv 12) % 12), .slice a3 (nodeXs (firstN len zs)).length c3, .slice a4 (nodeYs (firstN len zs)).length c4, .bool (wrap64 ((firstN len zs).tdiv 17) % 9 == 0)]) ∧ GoodSet w.heap.size w' a3 c3 (nodeXs (firstN len zs)) ∧ GoodSet w.heap.size w' a4 c4 (nodeYs (firstN len zs)) ∧ Below w.heap.size w w' := by
  have hl0 : len ≤ 9223372036854775807 := hrow.1
  obtain ⟨fn, hfn⟩ : ∃ fn, firstN len zs = fn := ⟨_, rfl⟩
  have hfn' : Hid (firstN len zs = fn) := hfn
  have hg9 : g < 999999 := by omega
  clear hfn
  rw [hfn'.out]
  have kn := fun W0 => lNode_is name fn W0
  obtain ⟨nm, hnm⟩ : ∃ nm, nameAt name = nm := ⟨_, rfl⟩
  obtain ⟨cpu, hcpu⟩ : ∃ cpu, fn % 12 = cpu := ⟨_, rfl⟩
  obtain ⟨mem, hmem⟩ : ∃ mem, wrap64 (fn.tdiv 12) % 12 = mem := ⟨_, rfl⟩
  obtain ⟨xs, hxs⟩ : ∃ xs, nodeXs fn = xs := ⟨_, rfl⟩
  obtain ⟨ys, hys⟩ : ∃ ys, nodeYs fn = ys := ⟨_, rfl⟩
  obtain ⟨cl, hcl⟩ : ∃ cl, (wrap64 (fn.tdiv 17) % 9 == 0) = cl := ⟨_, rfl⟩
  obtain ⟨xn, hxn⟩ : ∃ xn, xs.length = xn := ⟨_, rfl⟩
  obtain ⟨yn, hyn⟩ : ∃ yn, ys.length = yn := ⟨_, rfl⟩
  rw [hnm, hcpu, hmem, hxs, hys, hcl, hxn, hyn] at kn ⊢
  clear hnm hcpu hmem hxs hys hcl hxn hyn
  go_enter Tryd.func7, Tryd.ntmps7
  go_upto_region 3 with (first
    | (go_at_call 17; refine (within4_any _ _ _ (by decide) (by decide) (by assumption) _).mono ?_; rintro e wq ⟨rfl, rfl⟩))
  have hs1 : (w.alloc (.cells #[.int .i64 0, .int .i64 0, .slice none 0 0, .slice none 0 0, .string ⟨#[]⟩, .int .i64 0, .int .i64 0, .slice none 0 0, .slice none 0 0, .bool false] 35)).heap.size = w.heap.size + 1 := by simp
  have q8 : Box ((w.alloc (.cells #[.int .i64 0, .int .i64 0, .slice none 0 0, .slice none 0 0, .string ⟨#[]⟩, .int .i64 0, .int .i64 0, .slice none 0 0, .slice none 0 0, .bool false] 35)).alloc (.cells #[.int .i64 1, .int .i64 (1 + (g : Int)), .slice none 0 0, .slice none 0 0, .string ⟨#[]⟩, .int .i64 0, .int .i64 0, .slice none 0 0, .slice none 0 0, .bool false] 35)) w.heap.size #[.int .i64 0, .int .i64 0, .slice none 0 0, .slice none 0 0, .string ⟨#[]⟩, .int .i64 0, .int .i64 0, .slice none 0 0, .slice none 0 0, .bool false] 35 := (Box.new w _ _ rfl).up _
  have q9 : Box ((w.alloc (.cells #[.int .i64 0, .int .i64 0, .slice none 0 0, .slice none 0 0, .string ⟨#[]⟩, .int .i64 0, .int .i64 0, .slice none 0 0, .slice none 0 0, .bool false] 35)).alloc (.cells #[.int .i64 1, .int .i64 (1 + (g : Int)), .slice none 0 0, .slice none 0 0, .string ⟨#[]⟩, .int .i64 0, .int .i64 0, .slice none 0 0, .slice none 0 0, .bool false] 35)) (w.heap.size + 1) #[.int .i64 1, .int .i64 (1 + (g : Int)), .slice none 0 0, .slice none 0 0, .string ⟨#[]⟩, .int .i64 0, .int .i64 0, .slice none 0 0, .slice none 0 0, .bool false] 35 := Box.new _ _ _ hs1
  have hb0 : Below w.heap.size w ((w.alloc (.cells #[.int .i64 0, .int .i64 0, .slice none 0 0, .slice none 0 0, .string ⟨#[]⟩, .int .i64 0, .int .i64 0, .slice none 0 0, .slice none 0 0, .bool false] 35)).alloc (.cells #[.int .i64 1, .int .i64 (1 + (g : Int)), .slice none 0 0, .slice none 0 0, .string ⟨#[]⟩, .int .i64 0, .int .i64 0, .slice none 0 0, .slice none 0 0, .bool false] 35)) := up (up (Below.refl _ _) _) _
  obtain ⟨W, hW⟩ : ∃ W, (w.alloc (.cells #[.int .i64 0, .int .i64 0, .slice none 0 0, .slice none 0 0, .string ⟨#[]⟩, .int .i64 0, .int .i64 0, .slice none 0 0, .slice none 0 0, .bool false] 35)).alloc (.cells #[.int .i64 1, .int .i64 (1 + (g : Int)), .slice none 0 0, .slice none 0 0, .string ⟨#[]⟩, .int .i64 0, .int .i64 0, .slice none 0 0, .slice none 0 0, .bool false] 35) = W := ⟨_, rfl⟩
  rw [hW] at q8 q9 hb0 ⊢
  clear hW hs1 hk hg
  have q8c := RecBox.cells q8
  have q9c := RecBox.cells q9
  by_cases h0 : len = 0
  · subst h0
    have e5 : fn = 5 := hfn'.out.symm
    subst e5
    clear hrow hfn'
    obtain ⟨y0, y1, y2, y3, y4, y5, y6, y7, y8, y9⟩ := q9c
    obtain ⟨x0, x1, x2, x3, x4, x5, x6, x7, x8, x9⟩ := q8c
    go_upto_region 21 with (go_at_call 18; refine (kn _).mono ?_
                            rintro e w3 ⟨a3, c3, a4, c4, rfl, gx3, gy3, hb3⟩
                            have r8 := q8.later hb3
                            have r9 := q9.later hb3
                            have hb03 := fin hb3 hb0
                            obtain ⟨z0, z1, z2, z3, z4, z5, z6, z7, z8, z9⟩ := RecBox.cells r9
                            have g1 := r9.frozen 1
                            have g4 := r9.frozen 4
                            have g5 := r9.frozen 5
                            have g6 := r9.frozen 6
                            have g7 := r9.frozen 7
                            have g8 := r9.frozen 8
                            have g9 := r9.frozen 9)
    have hWs := q9.lt
    have hnx : ∀ x, a3 = some x → x.block ≠ w.heap.size + 1 := fun x hx => by have := (gx3.new.2.1 x hx).1; omega
    have hny : ∀ x, a4 = some x → x.block ≠ w.heap.size + 1 := fun x hx => by have := (gy3.new.2.1 x hx).1; omega
    have hnx2 : ∀ x, a3 = some x → some x.block ≠ some w.heap.size := fun x hx e => by have := (gx3.new.2.1 x hx).1; have e9 := Option.some.inj e; omega
    have hny2 : ∀ x, a4 = some x → some x.block ≠ some w.heap.size := fun x hx e => by have := (gy3.new.2.1 x hx).1; have e9 := Option.some.inj e; omega
    have s8 := (((((((r8).other (by omega : w.heap.size ≠ w.heap.size + 1) 1 (.int .i64 0)).other (by omega : w.heap.size ≠ w.heap.size + 1) 4 (.string nm)).other (by omega : w.heap.size ≠ w.heap.size + 1) 5 (.int .i64 cpu)).other (by omega : w.heap.size ≠ w.heap.size + 1) 6 (.int .i64 mem)).other (by omega : w.heap.size ≠ w.heap.size + 1) 7 (.slice a3 xn c3)).other (by omega : w.heap.size ≠ w.heap.size + 1) 8 (.slice a4 yn c4)).other (by omega : w.heap.size ≠ w.heap.size + 1) 9 (.bool cl)
    have s9 := (((((((r9).set 1 (.int .i64 0)).set 4 (.string nm)).set 5 (.int .i64 cpu)).set 6 (.int .i64 mem)).set 7 (.slice a3 xn c3)).set 8 (.slice a4 yn c4)).set 9 (.bool cl)
    have hb4 := (((((((hb03).setCell (p := ⟨w.heap.size + 1, 1, none⟩) (Nat.le_succ _) (.int .i64 0)).setCell (p := ⟨w.heap.size + 1, 4, none⟩) (Nat.le_succ _) (.string nm)).setCell (p := ⟨w.heap.size + 1, 5, none⟩) (Nat.le_succ _) (.int .i64 cpu)).setCell (p := ⟨w.heap.size + 1, 6, none⟩) (Nat.le_succ _) (.int .i64 mem)).setCell (p := ⟨w.heap.size + 1, 7, none⟩) (Nat.le_succ _) (.slice a3 xn c3)).setCell (p := ⟨w.heap.size + 1, 8, none⟩) (Nat.le_succ _) (.slice a4 yn c4)).setCell (p := ⟨w.heap.size + 1, 9, none⟩) (Nat.le_succ _) (.bool cl)
    have gx4 := (((((((gx3).put (b := w.heap.size + 1) hnx 1 (.int .i64 0)).put (b := w.heap.size + 1) hnx 4 (.string nm)).put (b := w.heap.size + 1) hnx 5 (.int .i64 cpu)).put (b := w.heap.size + 1) hnx 6 (.int .i64 mem)).put (b := w.heap.size + 1) hnx 7 (.slice a3 xn c3)).put (b := w.heap.size + 1) hnx 8 (.slice a4 yn c4)).put (b := w.heap.size + 1) hnx 9 (.bool cl)
    have gy4 := (((((((gy3).put (b := w.heap.size + 1) hny 1 (.int .i64 0)).put (b := w.heap.size + 1) hny 4 (.string nm)).put (b := w.heap.size + 1) hny 5 (.int .i64 cpu)).put (b := w.heap.size + 1) hny 6 (.int .i64 mem)).put (b := w.heap.size + 1) hny 7 (.slice a3 xn c3)).put (b := w.heap.size + 1) hny 8 (.slice a4 yn c4)).put (b := w.heap.size + 1) hny 9 (.bool cl)
    generalize ((((((w3.setCell ⟨w.heap.size + 1, 1, none⟩ (.int .i64 0)).setCell ⟨w.heap.size + 1, 4, none⟩ (.string nm)).setCell ⟨w.heap.size + 1, 5, none⟩ (.int .i64 cpu)).setCell ⟨w.heap.size + 1, 6, none⟩ (.int .i64 mem)).setCell ⟨w.heap.size + 1, 7, none⟩ (.slice a3 xn c3)).setCell ⟨w.heap.size + 1, 8, none⟩ (.slice a4 yn c4)).setCell ⟨w.heap.size + 1, 9, none⟩ (.bool cl) = W4 at *
    clear x0 x1 x2 x3 x4 x5 x6 x7 x8 x9 y0 y1 y2 y3 y4 y5 y6 y7 y8 y9 z0 z1 z2 z3 z4 z5 z6 z7 z8 z9 g1 g4 g5 g6 g7 g8 g9 gx3 gy3
    obtain ⟨x0, x1, x2, x3, x4, x5, x6, x7, x8, x9⟩ := RecBox.cells s8
    obtain ⟨y0, y1, y2, y3, y4, y5, y6, y7, y8, y9⟩ := RecBox.cells s9
    have f0 := s8.frozen 0
    have f1 := s8.frozen 1
    have f2 := s8.frozen 2
    have f3 := s8.frozen 3
    have f4 := s8.frozen 4
    have f5 := s8.frozen 5
    have f6 := s8.frozen 6
    have f7 := s8.frozen 7
    have f8 := s8.frozen 8
    have f9 := s8.frozen 9
    go_wp2
    have q10 := RecBox.setAll (c0 := .int .i64 1) (c1 := .int .i64 0) (c2 := .slice none 0 0) (c3 := .slice none 0 0) (c4 := .string nm) (c5 := .int .i64 cpu) (c6 := .int .i64 mem) (c7 := .slice a3 xn c3) (c8 := .slice a4 yn c4) (c9 := .bool cl) s8
    have hb10 := below_setAll (A := w.heap.size) (Nat.le_refl _) [.int .i64 1, .int .i64 0, .slice none 0 0, .slice none 0 0, .string nm, .int .i64 cpu, .int .i64 mem, .slice a3 xn c3, .slice a4 yn c4, .bool cl] 0 hb4
    have hg10 : World.grownBy W4 (W4.setCells w.heap.size 0 [.int .i64 1, .int .i64 0, .slice none 0 0, .slice none 0 0, .string nm, .int .i64 cpu, .int .i64 mem, .slice a3 xn c3, .slice a4 yn c4, .bool cl]) (some w.heap.size) := grown_setAll [.int .i64 1, .int .i64 0, .slice none 0 0, .slice none 0 0, .string nm, .int .i64 cpu, .int .i64 mem, .slice a3 xn c3, .slice a4 yn c4, .bool cl] 0 (World.grownBy.refl _ _)
    change bodyPost _ _ _ _ _ (W4.setCells w.heap.size 0 [.int .i64 1, .int .i64 0, .slice none 0 0, .slice none 0 0, .string nm, .int .i64 cpu, .int .i64 mem, .slice a3 xn c3, .slice a4 yn c4, .bool cl])
    generalize W4.setCells w.heap.size 0 [.int .i64 1, .int .i64 0, .slice none 0 0, .slice none 0 0, .string nm, .int .i64 cpu, .int .i64 mem, .slice a3 xn c3, .slice a4 yn c4, .bool cl] = W9 at *
    obtain ⟨z0, z1, z2, z3, z4, z5, z6, z7, z8, z9⟩ := RecBox.cells q10
    exact bodyPost_ret (by simp [results, Tryd.results7, go_sem, z0, z1, z2, z3, z4, z5, z6, z7, z8, z9]) rfl ⟨a3, c3, a4, c4, rfl, (GoodSet.mk (gx4.new.grown hg10 hnx2) gx4.sub).low (by omega), (GoodSet.mk (gy4.new.grown hg10 hny2) gy4.sub).low (by omega), hb10⟩
  · obtain ⟨x, rfl, hc⟩ := hrow.2 0 (by omega)
    have e0 : zs.getD 0 0 = fn := by have := hfn'.out; rwa [firstN, if_neg h0] at this
    rw [e0] at hc
    have hcW : W.cell? x = some (.int .i64 fn) := by
      have := cell_below hb0 hc (block_lt hc)
      simpa [Addr.add] using this
    have hl1 : (0 : Int) < len := by omega
    clear hrow hc hfn' e0
    obtain ⟨y0, y1, y2, y3, y4, y5, y6, y7, y8, y9⟩ := q9c
    obtain ⟨x0, x1, x2, x3, x4, x5, x6, x7, x8, x9⟩ := q8c
    go_upto_region 21 with (go_at_call 18; refine (kn _).mono ?_
                            rintro e w3 ⟨a3, c3, a4, c4, rfl, gx3, gy3, hb3⟩
                            have r8 := q8.later hb3
                            have r9 := q9.later hb3
                            have hb03 := fin hb3 hb0
                            obtain ⟨z0, z1, z2, z3, z4, z5, z6, z7, z8, z9⟩ := RecBox.cells r9
                            have g1 := r9.frozen 1
                            have g4 := r9.frozen 4
                            have g5 := r9.frozen 5
                            have g6 := r9.frozen 6
                            have g7 := r9.frozen 7
                            have g8 := r9.frozen 8
                            have g9 := r9.frozen 9)
    have hWs := q9.lt
    have hnx : ∀ x, a3 = some x → x.block ≠ w.heap.size + 1 := fun x hx => by have := (gx3.new.2.1 x hx).1; omega
    have hny : ∀ x, a4 = some x → x.block ≠ w.heap.size + 1 := fun x hx => by have := (gy3.new.2.1 x hx).1; omega
    have hnx2 : ∀ x, a3 = some x → some x.block ≠ some w.heap.size := fun x hx e => by have := (gx3.new.2.1 x hx).1; have e9 := Option.some.inj e; omega
    have hny2 : ∀ x, a4 = some x → some x.block ≠ some w.heap.size := fun x hx e => by have := (gy3.new.2.1 x hx).1; have e9 := Option.some.inj e; omega
    have s8 := (((((((r8).other (by omega : w.heap.size ≠ w.heap.size + 1) 1 (.int .i64 0)).other (by omega : w.heap.size ≠ w.heap.size + 1) 4 (.string nm)).other (by omega : w.heap.size ≠ w.heap.size + 1) 5 (.int .i64 cpu)).other (by omega : w.heap.size ≠ w.heap.size + 1) 6 (.int .i64 mem)).other (by omega : w.heap.size ≠ w.heap.size + 1) 7 (.slice a3 xn c3)).other (by omega : w.heap.size ≠ w.heap.size + 1) 8 (.slice a4 yn c4)).other (by omega : w.heap.size ≠ w.heap.size + 1) 9 (.bool cl)
    have s9 := (((((((r9).set 1 (.int .i64 0)).set 4 (.string nm)).set 5 (.int .i64 cpu)).set 6 (.int .i64 mem)).set 7 (.slice a3 xn c3)).set 8 (.slice a4 yn c4)).set 9 (.bool cl)
    have hb4 := (((((((hb03).setCell (p := ⟨w.heap.size + 1, 1, none⟩) (Nat.le_succ _) (.int .i64 0)).setCell (p := ⟨w.heap.size + 1, 4, none⟩) (Nat.le_succ _) (.string nm)).setCell (p := ⟨w.heap.size + 1, 5, none⟩) (Nat.le_succ _) (.int .i64 cpu)).setCell (p := ⟨w.heap.size + 1, 6, none⟩) (Nat.le_succ _) (.int .i64 mem)).setCell (p := ⟨w.heap.size + 1, 7, none⟩) (Nat.le_succ _) (.slice a3 xn c3)).setCell (p := ⟨w.heap.size + 1, 8, none⟩) (Nat.le_succ _) (.slice a4 yn c4)).setCell (p := ⟨w.heap.size + 1, 9, none⟩) (Nat.le_succ _) (.bool cl)
    have gx4 := (((((((gx3).put (b := w.heap.size + 1) hnx 1 (.int .i64 0)).put (b := w.heap.size + 1) hnx 4 (.string nm)).put (b := w.heap.size + 1) hnx 5 (.int .i64 cpu)).put (b := w.heap.size + 1) hnx 6 (.int .i64 mem)).put (b := w.heap.size + 1) hnx 7 (.slice a3 xn c3)).put (b := w.heap.size + 1) hnx 8 (.slice a4 yn c4)).put (b := w.heap.size + 1) hnx 9 (.bool cl)
    have gy4 := (((((((gy3).put (b := w.heap.size + 1) hny 1 (.int .i64 0)).put (b := w.heap.size + 1) hny 4 (.string nm)).put (b := w.heap.size + 1) hny 5 (.int .i64 cpu)).put (b := w.heap.size + 1) hny 6 (.int .i64 mem)).put (b := w.heap.size + 1) hny 7 (.slice a3 xn c3)).put (b := w.heap.size + 1) hny 8 (.slice a4 yn c4)).put (b := w.heap.size + 1) hny 9 (.bool cl)
    generalize ((((((w3.setCell ⟨w.heap.size + 1, 1, none⟩ (.int .i64 0)).setCell ⟨w.heap.size + 1, 4, none⟩ (.string nm)).setCell ⟨w.heap.size + 1, 5, none⟩ (.int .i64 cpu)).setCell ⟨w.heap.size + 1, 6, none⟩ (.int .i64 mem)).setCell ⟨w.heap.size + 1, 7, none⟩ (.slice a3 xn c3)).setCell ⟨w.heap.size + 1, 8, none⟩ (.slice a4 yn c4)).setCell ⟨w.heap.size + 1, 9, none⟩ (.bool cl) = W4 at *
    clear x0 x1 x2 x3 x4 x5 x6 x7 x8 x9 y0 y1 y2 y3 y4 y5 y6 y7 y8 y9 z0 z1 z2 z3 z4 z5 z6 z7 z8 z9 g1 g4 g5 g6 g7 g8 g9 gx3 gy3
    obtain ⟨x0, x1, x2, x3, x4, x5, x6, x7, x8, x9⟩ := RecBox.cells s8
    obtain ⟨y0, y1, y2, y3, y4, y5, y6, y7, y8, y9⟩ := RecBox.cells s9
    have f0 := s8.frozen 0
    have f1 := s8.frozen 1
    have f2 := s8.frozen 2
    have f3 := s8.frozen 3
    have f4 := s8.frozen 4
    have f5 := s8.frozen 5
    have f6 := s8.frozen 6
    have f7 := s8.frozen 7
    have f8 := s8.frozen 8
    have f9 := s8.frozen 9
    go_wp2
    have q10 := RecBox.setAll (c0 := .int .i64 1) (c1 := .int .i64 0) (c2 := .slice none 0 0) (c3 := .slice none 0 0) (c4 := .string nm) (c5 := .int .i64 cpu) (c6 := .int .i64 mem) (c7 := .slice a3 xn c3) (c8 := .slice a4 yn c4) (c9 := .bool cl) s8
    have hb10 := below_setAll (A := w.heap.size) (Nat.le_refl _) [.int .i64 1, .int .i64 0, .slice none 0 0, .slice none 0 0, .string nm, .int .i64 cpu, .int .i64 mem, .slice a3 xn c3, .slice a4 yn c4, .bool cl] 0 hb4
    have hg10 : World.grownBy W4 (W4.setCells w.heap.size 0 [.int .i64 1, .int .i64 0, .slice none 0 0, .slice none 0 0, .string nm, .int .i64 cpu, .int .i64 mem, .slice a3 xn c3, .slice a4 yn c4, .bool cl]) (some w.heap.size) := grown_setAll [.int .i64 1, .int .i64 0, .slice none 0 0, .slice none 0 0, .string nm, .int .i64 cpu, .int .i64 mem, .slice a3 xn c3, .slice a4 yn c4, .bool cl] 0 (World.grownBy.refl _ _)
    change bodyPost _ _ _ _ _ (W4.setCells w.heap.size 0 [.int .i64 1, .int .i64 0, .slice none 0 0, .slice none 0 0, .string nm, .int .i64 cpu, .int .i64 mem, .slice a3 xn c3, .slice a4 yn c4, .bool cl])
    generalize W4.setCells w.heap.size 0 [.int .i64 1, .int .i64 0, .slice none 0 0, .slice none 0 0, .string nm, .int .i64 cpu, .int .i64 mem, .slice a3 xn c3, .slice a4 yn c4, .bool cl] = W9 at *
    obtain ⟨z0, z1, z2, z3, z4, z5, z6, z7, z8, z9⟩ := RecBox.cells q10
    exact bodyPost_ret (by simp [results, Tryd.results7, go_sem, z0, z1, z2, z3, z4, z5, z6, z7, z8, z9]) rfl ⟨a3, c3, a4, c4, rfl, (GoodSet.mk (gx4.new.grown hg10 hnx2) gx4.sub).low (by omega), (GoodSet.mk (gy4.new.grown hg10 hny2) gy4.sub).low (by omega), hb10⟩

end Go.Proofs.YtmldpihjndafaabDoor
