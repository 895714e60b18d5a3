/- A gang comes to be held. -/
import Derived.Test.YtlehlbgaboifoabGreatDoorMg27
import Derived.Test.YtlehlbgaboifoabGreatDoorMg28
import Derived.Deep.RegionHeld3
import Derived.Lib.SliceRun
namespace Go.Proofs.YtlehlbgaboifoabGreatDoor
open Go.RowKit Go.Maps Go.Shelf
set_option linter.unusedSimpArgs false
set_option linter.unusedVariables false

section
variable {w : World} {C : Nat} {Q R : Nat → Prop} {id : Nat} {g : GS} {pa : Option Addr} {pc : Nat} {wv v : Value}

theorem enter_hold (h : GA w C Q R id g pa pc wv v) {w2 : World} {P gb xb cb pb : Nat} {a : Option Addr} {c : Nat} {pods : List PodT} (hb : Below w.heap.size w w2)
    (bP : Box w2 P #[.int .i64 1, .int .i64 2, .int .i64 0, .func (.func 87) #[] #[ptr gb], .func (.func 89) #[] #[ptr xb, ptr cb, ptr pb]] 138) (bg : Box w2 gb #[.int .i64 id, .slice a pods.length c] 39) (bx : Box w2 xb #[ptr g.b] 79) (bc : Box w2 cb #[ptr C] 30) (bp : Box w2 pb #[ptr P] 92)
    (nP : New w w2 P) (ng : New w w2 gb) (nx : New w w2 xb) (nc : New w w2 cb) (np : New w w2 pb) (hpods : Pods w2 a pods) (hin : PodsIn (fun k => New w w2 k ∧ k ≠ P) a pods) :
    Calls Tryz.prog 36 #[ptr g.b, .iface 92 (ptr P)] w2 fun e w' => ∃ v2 Q', e = .returned v2 ∧ MsgsN w w' v2 (toAll id g.ps (.hold 0 pods)) ∧ GangAt w' C Q' id (g.at (.hold 0 pods)) ∧ Turn w w' Q Q' := by
  have hg := h.box.lt
  have h2 := (h.later hb).wide (Q' := fun k => Q k ∨ New w w2 k) (fun k hk => .inl hk) (fun k hk => hk.elim (fun hk => Nat.lt_of_lt_of_le (h.lt k hk) hb.size) (fun hk => hk.2))
  have hlow : ∀ k, R k → k < w.heap.size := fun k hk => h.lt k (h.sub k hk)
  have e1 : gb ≠ P := bg.apart bP (by decide)
  have e2 : xb ≠ P := bx.apart bP (by decide)
  have e3 : cb ≠ P := bc.apart bP (by decide)
  have e4 : pb ≠ P := bp.apart bP (by decide)
  refine (enter_any h2 (R' := fun k => R k ∨ (New w w2 k ∧ k ≠ P)) 92 (ptr P) (.hold 0 pods) ⟨by decide, P, gb, xb, cb, pb, a, c, rfl, bP, bg, hpods, bx, bc, bp, .inr nP, (fun hr => ?_), .inr ⟨ng, e1⟩, .inr ⟨nx, e2⟩, .inr ⟨nc, e3⟩, .inr ⟨np, e4⟩, hin.wide fun k hk => .inr hk⟩ (fun k hk => .inl hk) (fun k hk => ?_) (fun hr => ?_) (by simp)).mono ?_
  · rcases hr with hr | hr
    · have := hlow P hr
      have := nP.1
      omega
    · exact hr.2 rfl
  · rcases hk with hk | hk
    · exact .inl (h.sub k hk)
    · exact .inr hk.1
  · rcases hr with hr | hr
    · exact h.rb hr
    · have := hr.1.1; omega
  · rintro e w' ⟨v2, Q', rfl, hM, hG, hT, _⟩
    refine ⟨v2, Q', rfl, hM.low hb.size, hG, Turn.trans (fp' := fun k => Q k ∨ New w w2 k) ⟨fun k hk => .inl hk, fun k hk => hk.imp (fun h => h) (fun hk => hk.1), .of_below hb⟩ hT⟩

theorem enter_hold' {b : Nat} {ps ws : List Nat} {ph : Ph} (h : GA w C Q R id ⟨b, ps, ws, ph⟩ pa pc wv v) {w1 w2 : World} {P gb xb cb pb : Nat} {a : Option Addr} {c : Nat} {pods : List PodT} (hb1 : Below w.heap.size w w1) (hb2 : Below w1.heap.size w1 w2)
    (bP : Box w2 P #[.int .i64 1, .int .i64 2, .int .i64 0, .func (.func 87) #[] #[ptr gb], .func (.func 89) #[] #[ptr xb, ptr cb, ptr pb]] 138) (bg : Box w2 gb #[.int .i64 id, .slice a pods.length c] 39) (bx : Box w2 xb #[ptr b] 79) (bc : Box w2 cb #[ptr C] 30) (bp : Box w2 pb #[ptr P] 92)
    (nP : New w1 w2 P) (ng : New w1 w2 gb) (nx : New w1 w2 xb) (nc : New w1 w2 cb) (np : New w1 w2 pb) (hpods : Pods w1 a pods) (hin : PodsIn (New w w1) a pods) :
    Calls Tryz.prog 36 #[ptr b, .iface 92 (ptr P)] w2 fun e w' => ∃ v2 Q', e = .returned v2 ∧ MsgsN w w' v2 (toAll id ps (.hold 0 pods)) ∧ GangAt w' C Q' id ⟨b, ps, ps, .hold 0 pods⟩ ∧ Turn w w' Q Q' := by
  have hz := hb1.size
  have hz2 := hb2.size
  have up1 : ∀ k, New w1 w2 k → New w w2 k := fun k hk => ⟨Nat.le_trans hz hk.1, hk.2⟩
  exact enter_hold h (fin hb2 hb1) bP bg bx bc bp (up1 _ nP) (up1 _ ng) (up1 _ nx) (up1 _ nc) (up1 _ np) (hpods.later hb2) (hin.wide fun k hk => ⟨⟨hk.1, Nat.lt_of_lt_of_le hk.2 hz2⟩, fun e => by have := nP.1; have := hk.2; omega⟩)

/-- What is copied, as pods of its own. -/
theorem CopSt.pods {w w1 : World} {l : List PodT} {zs : List Int} {v : Value} (h : CopSt w.heap.size l zs v w1) (hz : (copD l zs).length ≤ 1000) :
    ∃ a c pods, v = .slice a pods.length c ∧ Pods w1 a pods ∧ pods.map PodT.data = copD l zs ∧ PodsIn (New w w1) a pods ∧ pods.length ≤ c := by
  obtain ⟨l', h1, h2, h3, h4⟩ := h
  have hl : l'.length ≤ 1000 := by
    have e1 : l'.length = (l'.map PodT.data).length := by simp
    rw [e1, h2]; exact hz
  obtain ⟨a, cap, rfl, _, hc, hP, _, hx⟩ := pods_of_own h1 (fun p hp => (h3 p hp).ok) hl
  refine ⟨a, cap, l', rfl, hP, h2, ⟨fun x hx' _ => ⟨(hx x hx').1, ?_⟩, fun p hp => ⟨fun x hx' hn => (h3 p hp).1.2.1 x hx', fun x hx' hn => (h3 p hp).2.2.1 x hx'⟩⟩, hc⟩
  have := own_low h1 x.block (by rw [hx']; rfl)
  exact this.2
end

end Go.Proofs.YtlehlbgaboifoabGreatDoor

/- What is done behind the last yes of a hold. -/
namespace Go.Proofs.YtlehlbgaboifoabGreatDoor
open Go.RowKit Go.Maps Go.Shelf
set_option linter.unusedSimpArgs false
set_option linter.unusedVariables false

section
variable {w : World} {C : Nat} {Q R : Nat → Prop} {id : Nat} {g : GS} {pa : Option Addr} {pc : Nat} {wv v : Value}

theorem grown_cell {w w' : World} {b B o : Nat} {u : Value} (hg : w.grownBy w' (some b)) (h : w.cell? ⟨B, o, none⟩ = some u) (hn : B ≠ b) : w'.cell? ⟨B, o, none⟩ = some u :=
  (World.cell?_of_block (hg.block B (block_lt h) (fun e => hn (by cases e; rfl)))).trans h

set_option maxRecDepth 100000 in
set_option maxHeartbeats 1000000 in
theorem hold2_core (GP : Value → World → Prop) (b P xb cb pb age : Nat) (x0 : w.cell? ⟨xb, 0, none⟩ = some (ptr b)) (x1 : w.cell? ⟨cb, 0, none⟩ = some (ptr C)) (x2 : w.cell? ⟨pb, 0, none⟩ = some (ptr P)) (x3 : w.cell? ⟨P, 2, none⟩ = some (.int .i64 age))
    (kp : ∀ W, Below w.heap.size w W → Calls Tryz.prog 90 #[ptr C, ptr b, .int .i64 age] W fun e w' => ∃ N, e = .returned (ptr N) ∧ Below w.heap.size w w' ∧
      Calls Tryz.prog 36 #[ptr b, .iface 92 (ptr N)] w' fun e w3 => ∃ v3, e = .returned v3 ∧ GP v3 w3 ∧ w'.grownBy w3 (some b))
    (nx : xb ≠ b) (nc : cb ≠ b) (np : pb ≠ b) (nP : P ≠ b) :
    Calls Tryz.prog 89 #[ptr xb, ptr cb, ptr pb] w fun e w' => ∃ v3, e = .returned v3 ∧ GP v3 w' := by
  go_enter Tryz.func89, Tryz.ntmps89
  go_wp2
  have l0 := block_lt x0
  have l1 := block_lt x1
  have l2 := block_lt x2
  have l3 := block_lt x3
  go_region_held3 (fun w' => w'.cell? ⟨xb, 0, none⟩ = some (ptr b) ∧ w'.cell? ⟨cb, 0, none⟩ = some (ptr C) ∧ w'.cell? ⟨pb, 0, none⟩ = some (ptr P) ∧ w'.cell? ⟨P, 2, none⟩ = some (.int .i64 age))
    (exact ⟨by assumption, by assumption, by assumption, by assumption⟩)
    (first
      | (go_at_call 36; refine Calls.mono (by with_reducible assumption) ?_; rintro e w3 ⟨v3, rfl, hP3, hg3⟩; have z0 := grown_cell hg3 (by with_reducible assumption : _ = some (ptr b)) nx; have z1 := grown_cell hg3 (by with_reducible assumption : _ = some (ptr C)) nc; have z2 := grown_cell hg3 (by with_reducible assumption : _ = some (ptr P)) np; have z3 := grown_cell hg3 (by with_reducible assumption : _ = some (Value.int .i64 age)) nP)
      | (go_at_call 90; with_reducible refine (kp _ (by first | exact Below.refl _ _ | exact Below.drew (Below.refl _ _))).mono ?_; rintro e w2 ⟨N, rfl, hb2, ke⟩; have y0 := cell_below hb2 x0 l0; have y1 := cell_below hb2 x1 l1; have y2 := cell_below hb2 x2 l2; have y3 := cell_below hb2 x3 l3)
      | fail)
  all_goals
    go_wp2
    go_ret
    exact ⟨v3, rfl, hP3⟩

theorem hold2_any (h : GA w C Q R id g pa pc wv v) {P gb xb cb pb : Nat} {a : Option Addr} {c age : Nat} {pods : List PodT} (ha : age ≤ 100) (hH : HoldAt w C Q R id g.b P gb xb cb pb a c age pods) :
    Calls Tryz.prog 89 #[ptr xb, ptr cb, ptr pb] w (GangPost w C Q id (g.at (.prep age)) (toAll id g.ps (.prep age))) := by
  refine (hold2_core (fun v w' => ∃ Q', MsgsN w w' v (toAll id g.ps (.prep age)) ∧ GangAt w' C Q' id (g.at (.prep age)) ∧ Turn w w' Q Q') g.b P xb cb pb age (hH.bx.cell rfl) (hH.bc.cell rfl) (hH.bp.cell rfl) (hH.bP.cell rfl) (fun W hW => (preparing_any C g.b age W).mono ?_) (hH.bx.apart h.box (by decide)) (hH.bc.apart h.box (by decide)) (hH.bp.apart h.box (by decide)) (hH.bP.apart h.box (by decide))).mono ?_
  · rintro e w' ⟨h1, hP, h3⟩
    refine ⟨_, h1, fin h3 hW, (enter_prep (h.later hW) (w2 := w') (P := W.heap.size + 2) (xb := W.heap.size + 1) (cb := W.heap.size) ha hP ⟨by omega, by have := hP.bx.lt; omega, by omega, by have := hP.bc.lt; omega⟩ h3).mono ?_⟩
    rintro e w3 ⟨v3, Q3, h4, hM, hG, hT, hgr⟩
    exact ⟨v3, h4, ⟨Q3, hM.low hW.size, hG, Turn.trans (.of_below hW) hT⟩, hgr⟩
  · rintro e w' ⟨v3, h4, Q3, h5⟩
    exact ⟨v3, Q3, h4, h5⟩
end

end Go.Proofs.YtlehlbgaboifoabGreatDoor

/- Whom a gang waits for: DeleteFunc with the closure of count; Contains. -/
namespace Go.Proofs.YtlehlbgaboifoabGreatDoor
open Go.RowKit Go.Maps Go.Shelf Go.Lib Go.Sort
set_option linter.unusedSimpArgs false
set_option linter.unusedVariables false

/-- The closure: is it this one? -/
theorem count1_gives (who x : Nat) (mb : Nat) (W : World) (hc : W.cell? ⟨mb, 1, none⟩ = some (.int .i64 who)) :
    FnGives Tryz.prog 127 #[ptr mb] #[natV x] (.bool (decide (x = who))) W := by
  show Calls Tryz.prog 127 #[.int .i64 x, ptr mb] W _
  by_cases h : x = who
  · subst h
    go_enter Tryz.func127, Tryz.ntmps127
    go_wp2
    go_ret
    exact ⟨by simp, 0, rfl⟩
  · have h1 : ((x : Int) == (who : Int)) = false := by simp; omega
    go_enter Tryz.func127, Tryz.ntmps127
    go_wp2
    go_ret
    exact ⟨by simp [h], 0, rfl⟩
theorem count1_pred (who mb : Nat) (w : World) (hB : mb < w.heap.size) (hc : w.cell? ⟨mb, 1, none⟩ = some (.int .i64 who)) :
    PredAt Tryz.prog 127 #[ptr mb] natV (fun x => decide (x = who)) w :=
  fun W x hb => count1_gives who x mb W ((hb.cell (p := ⟨mb, 1, none⟩) hB).trans hc)
theorem count1_over (who mb blk off size : Nat) (w : World) (hB : mb < w.heap.size) (hne : mb ≠ blk) (hc : w.cell? ⟨mb, 1, none⟩ = some (.int .i64 who)) :
    PredOver Tryz.prog 127 #[ptr mb] natV (fun x => decide (x = who)) blk off size w :=
  fun n os dk x _ => count1_gives who x mb _ (by
    unfold sortWorld
    rw [cell?_grow _ _ _ (by show mb < (putRow _ _ _ _ _).heap.size; rw [size_putRow]; exact hB), cell?_putRow_other _ _ blk off _ _ (Or.inl hne)]
    exact hc)
theorem natV_one (x : Nat) : (natV x).oneCell' = true := rfl
theorem grown_putRowN (w : World) (g q : Nat) (d : Array Nat) : w.grownBy (Sort.putRow natV (Sort.ahead w q) g 0 d) (some g) :=
  ⟨rfl, rfl, rfl, by simp [Sort.putRow, Sort.mapBlock, Sort.ahead], fun k _ hk => by
    have : g ≠ k := fun e => hk (by rw [e])
    simp [Sort.putRow, Sort.mapBlock, Sort.ahead, Array.getElem?_modify, this]⟩

/-- All but this one. -/
abbrev butW (ws : List Nat) (who : Nat) : List Nat := ws.filter fun x => !decide (x = who)
theorem zero3 (w : World) : (zeroValue 3).run Tryz.prog w = .ok (natV 0) w := by kernel_rfl

theorem delF_own (g cap : Nat) (ws : List Nat) (w : World) (hown : w.ownsRow 0 3 1 (.slice (some ⟨g, 0, none⟩) ws.length cap) ws.length (ws.map natV)) (mb who : Nat) (hm : mb < w.heap.size) (hne : mb ≠ g) (hc : w.cell? ⟨mb, 1, none⟩ = some (.int .i64 who)) :
    Calls Tryz.prog 126 #[.slice (some ⟨g, 0, none⟩) ws.length cap, .func (.func 127) #[] #[ptr mb]] w fun e w' => e = .returned (.slice (some ⟨g, 0, none⟩) (butW ws who).length cap) ∧
      w'.ownsRow 0 3 1 (.slice (some ⟨g, 0, none⟩) (butW ws who).length cap) (butW ws who).length ((butW ws who).map natV) ∧ w.grownBy w' (some g) := by
  obtain ⟨g', cap', e0, _, _, hn', hc', hlr, hH⟩ := Lib.holds_of_ownsRow (enc := natV) hown (by simp)
  simp only [Value.slice.injEq, Option.some.injEq, Addr.mk.injEq, and_true, true_and] at e0
  obtain ⟨rfl, rfl⟩ := e0
  have eg : ∀ args w, (callFunc 127 args).run Tryz.prog w = .ok (.enter 127 args) w := enters_of Tryz.func127 (by kernel_rfl) rfl
  have hk := AnyE.slices_DeleteFunc Tryz.delF natV natV_one (fun x => decide (x = who)) 127 #[ptr mb] eg 0 zero3 g 0 cap ws.toArray w
    (count1_pred who mb w hm hc) (count1_over who mb g 0 _ w hm hne hc) hH (by unfold maxLen at hc'; simp; omega) (by simpa using hn')
  rw [List.size_toArray] at hk
  refine Calls.mono hk ?_
  rintro e w' ⟨rfl, q, rfl⟩
  have hle : (butW ws who).length ≤ ws.length := List.length_filter_le _ _
  have ho := Lib.ownsRow_putRow (enc := natV) (q := q) (k := (butW ws who).length) (ys := butW ws who ++ List.replicate (ws.length - (butW ws who).length) 0) hown (by simp; omega) (by omega)
  rw [List.take_left] at ho
  exact ⟨rfl, ho, grown_putRowN _ _ _ _⟩

end Go.Proofs.YtlehlbgaboifoabGreatDoor
