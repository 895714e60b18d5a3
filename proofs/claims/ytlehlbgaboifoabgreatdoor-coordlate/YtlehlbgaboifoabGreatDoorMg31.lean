/- A gang: count. -/
import Derived.Test.YtlehlbgaboifoabGreatDoorMg29
import Derived.Test.YtlehlbgaboifoabGreatDoorMg30
import Derived.Deep.DeepCutAuto
namespace Go.Proofs.YtlehlbgaboifoabGreatDoor
open Go.RowKit Go.Maps Go.Shelf
set_option linter.unusedSimpArgs false
set_option linter.unusedVariables false

/-- It waits for that one no more. -/
def GS.less (g : GS) (who : Nat) : GS := ⟨g.b, g.ps, butW g.ws who, g.ph⟩

section
variable {w w1 : World} {C : Nat} {Q R : Nat → Prop} {id : Nat} {g : GS} {pa : Option Addr} {pc : Nat} {wv v : Value}

theorem GA.less {g0 cap cap' : Nat} {n : Nat} (h : GA w C Q R id g pa pc (.slice (some ⟨g0, 0, none⟩) n cap) v) (who : Nat) (hg : w.grownBy w1 (some g0)) (hown : w1.ownsRow 0 3 1 (.slice (some ⟨g0, 0, none⟩) (butW g.ws who).length cap') (butW g.ws who).length ((butW g.ws who).map natV)) :
    GA (w1.setCell ⟨g.b, 2, none⟩ (.slice (some ⟨g0, 0, none⟩) (butW g.ws who).length cap')) C Q R id (g.less who) pa pc (.slice (some ⟨g0, 0, none⟩) (butW g.ws who).length cap') v ∧ Turn w (w1.setCell ⟨g.b, 2, none⟩ (.slice (some ⟨g0, 0, none⟩) (butW g.ws who).length cap')) Q Q := by
  have hq := h.wQ g0 rfl
  have hne := h.wne
  have hne' : g.b ≠ g0 := fun e => hne (by rw [e]; rfl)
  have hz : (w1.setCell ⟨g.b, 2, none⟩ (.slice (some ⟨g0, 0, none⟩) (butW g.ws who).length cap')).heap.size = w1.heap.size := by simp [World.setCell]
  have hk : ∀ k, k < w.heap.size → k ≠ g.b → k ≠ g0 → (w1.setCell ⟨g.b, 2, none⟩ (.slice (some ⟨g0, 0, none⟩) (butW g.ws who).length cap')).heap[k]? = w.heap[k]? := fun k hl h1 h2 => (setCell_other _ _ _ _ _ h1).trans (hg.block k hl (fun e => h2 (by cases e; rfl)))
  have hR : ∀ k, R k → (w1.setCell ⟨g.b, 2, none⟩ (.slice (some ⟨g0, 0, none⟩) (butW g.ws who).length cap')).heap[k]? = w.heap[k]? := fun k hr => hk k (h.lt k (h.sub k hr)) (fun e => h.rb (by rw [← e]; exact hr)) (fun e => hq.2 (by rw [← e]; exact hr))
  have hbox : Box w1 g.b _ 83 := h.box.frame (hg.block g.b h.box.lt (fun e => hne' (by cases e; rfl)))
  have hle : (butW g.ws who).length ≤ g.ws.length := List.length_filter_le _ _
  refine ⟨{
    box := hbox.set 2 _
    ps := h.ps.frame fun y hy _ => hR _ (h.pR y hy)
    ws := own_frame hown fun k hk' => setCell_other _ _ _ _ _ (by cases hk'; exact fun e => hne' e.symm)
    ph := h.ph.frame hR (fun P e q n hP => by
      obtain ⟨cs, hP⟩ := hP
      have hp := h.pne hP
      exact ⟨hk P hP.lt hp.1 (fun e => hp.2 (by rw [e]; rfl)), q, n⟩) (fun _ h => h)
    sub := h.sub
    qb := h.qb
    rb := h.rb
    pR := h.pR
    pS := h.pS
    wQ := fun k hk' => h.wQ k (by cases hk'; rfl)
    lp := h.lp
    lw := Nat.le_trans hle h.lw
    wn := fun _ _ e => by cases e
    lt := fun k hk' => by rw [hz]; exact Nat.lt_of_lt_of_le (h.lt k hk') hg.size }, ⟨fun _ h => h, fun _ h => .inl h, ⟨hg.os, hg.tape, hg.output, by rw [hz]; exact hg.size, fun k hl hn => hk k hl (fun e => hn (by rw [e]; exact h.qb)) (fun e => hn (by rw [e]; exact hq.1))⟩⟩⟩

/-- The row of those that it waits for. -/
theorem GA.waits (h : GA w C Q R id g pa pc wv v) (h0 : g.ph ≠ .nul) (hp : g.ps ≠ []) : ∃ g0 cap, wv = .slice (some ⟨g0, 0, none⟩) g.ws.length cap := by
  have := h.wn h0 hp
  rcases h.ws.2 with ⟨e, _⟩ | ⟨g0, cap, cur, e, _⟩
  · rw [e] at this; exact absurd rfl this
  · exact ⟨g0, cap, e⟩

set_option maxRecDepth 100000 in
set_option maxHeartbeats 1000000 in
theorem count_no (h : GA w C Q R id g pa pc wv v) (ho : g.ph.open = true) (k t gg who : Int) (a1 a2 : Option Addr) (n1 c1 n2 c2 : Nat) :
    Calls Tryz.prog 92 #[ptr g.b, .agg #[.int .i64 k, .int .i64 who, .int .i64 t, .int .i64 gg, .slice a1 n1 c1, .slice a2 n2 c2, .bool false]] w (GangPost w C Q id (g.at (.dec 4)) (toAll id g.ps (.dec 4))) := by
  obtain ⟨P, cs, rfl, _⟩ := h.poll ho
  have hb0 := up (Below.refl w.heap.size w) (.cells #[.int .i64 k, .int .i64 who, .int .i64 t, .int .i64 gg, .slice a1 n1 c1, .slice a2 n2 c2, .bool false] 46)
  have h1 := h.later hb0
  have c3 : (w.alloc (.cells #[.int .i64 k, .int .i64 who, .int .i64 t, .int .i64 gg, .slice a1 n1 c1, .slice a2 n2 c2, .bool false] 46)).cell? ⟨g.b, 3, none⟩ = some (.iface 92 (ptr P)) := h1.box.cell rfl
  have kp := poll_yes g.b P _ c3
  have kd := drop_any h1
  clear h h1 c3
  go_enter Tryz.func92, Tryz.ntmps92
  go_wp2_with (first
    | (go_at_call 40; refine kp.mono ?_; rintro e w1 ⟨rfl, rfl⟩)
    | (go_at_call 41; refine kd.mono ?_; rintro e w2 ⟨v2, Q2, rfl, hM, hG, hT⟩))
  go_ret
  exact ⟨v2, Q2, rfl, hM.low hb0.size, hG, Turn.trans (.of_below hb0) hT⟩

/-- What count leaves where nothing is said. -/
def CountPost (w : World) (C : Nat) (Q : Nat → Prop) (id : Nat) (g' : GS) (e : Ending) (w' : World) : Prop := e = .returned (.slice none 0 0) ∧ GangAt w' C Q id g' ∧ Turn w w' Q Q

set_option maxRecDepth 100000 in
set_option maxHeartbeats 2000000 in
theorem count_dec (h : GA w C Q R id g pa pc wv v) {n : Nat} (hd : g.ph = .dec n) (hp : g.ps ≠ []) (k t gg : Int) (who : Nat) (a1 a2 : Option Addr) (n1 c1 n2 c2 : Nat) (yes : Bool) :
    Calls Tryz.prog 92 #[ptr g.b, .agg #[.int .i64 k, .int .i64 who, .int .i64 t, .int .i64 gg, .slice a1 n1 c1, .slice a2 n2 c2, .bool yes]] w (CountPost w C Q id (g.less who)) := by
  obtain ⟨rfl, _, _⟩ := h.verdict hd
  obtain ⟨g0, cap, rfl⟩ := h.waits (by rw [hd]; simp) hp
  have hb0 := up (Below.refl w.heap.size w) (.cells #[.int .i64 k, .int .i64 who, .int .i64 t, .int .i64 gg, .slice a1 n1 c1, .slice a2 n2 c2, .bool yes] 46)
  have h1 := h.later hb0
  have hm := Box.new w #[.int .i64 k, .int .i64 who, .int .i64 t, .int .i64 gg, .slice a1 n1 c1, .slice a2 n2 c2, .bool yes] 46 rfl
  have hm1 : (w.alloc (.cells #[.int .i64 k, .int .i64 who, .int .i64 t, .int .i64 gg, .slice a1 n1 c1, .slice a2 n2 c2, .bool yes] 46)).cell? ⟨w.heap.size, 1, none⟩ = some (.int .i64 who) := hm.cell rfl
  have hg0 : w.heap.size ≠ g0 := fun e => by have := (own_low h.ws g0 rfl).2; omega
  have c3 : (w.alloc (.cells #[.int .i64 k, .int .i64 who, .int .i64 t, .int .i64 gg, .slice a1 n1 c1, .slice a2 n2 c2, .bool yes] 46)).cell? ⟨g.b, 3, none⟩ = some (.iface 140 (.int .i64 n)) := h1.box.cell rfl
  have c2' : (w.alloc (.cells #[.int .i64 k, .int .i64 who, .int .i64 t, .int .i64 gg, .slice a1 n1 c1, .slice a2 n2 c2, .bool yes] 46)).cell? ⟨g.b, 2, none⟩ = some (.slice (some ⟨g0, 0, none⟩) g.ws.length cap) := h1.box.cell rfl
  have kp := poll_no g.b n _ c3
  have kD := delF_own g0 cap g.ws _ h1.ws w.heap.size who hm.lt hg0 hm1
  have hL := fun w1 hg hown => h1.less (w1 := w1) (cap' := cap) who hg hown
  have hbx := fun w1 (hg : World.grownBy _ w1 (some g0)) => (h1.box.frame (hg.block g.b h1.box.lt (fun e => h1.wne (by cases e; rfl))))
  obtain ⟨N, hN⟩ : ∃ N, (butW g.ws who).length = N := ⟨_, rfl⟩
  obtain ⟨M, hM⟩ : ∃ M, g.ws.length = M := ⟨_, rfl⟩
  rw [hN] at kD
  simp only [hN] at hL
  rw [hM] at kD c2'
  clear h h1 c3 hm hd hp
  go_enter Tryz.func92, Tryz.ntmps92
  go_wp2_with (first
    | (go_at_call 40; refine kp.mono ?_; rintro e w1 ⟨rfl, rfl⟩)
    | (go_at_call 126; refine kD.mono ?_; rintro e w2 ⟨rfl, hown, hgr⟩; have b2 := hbx _ hgr; have f2 := b2.frozen; obtain ⟨d0, d1, d2, d3⟩ := b2.cells4))
  go_ret
  obtain ⟨hG, hT⟩ := hL _ hgr hown
  exact ⟨rfl, ⟨_, _, _, _, _, hG⟩, Turn.trans (.of_below hb0) hT⟩
set_option maxRecDepth 100000 in
set_option maxHeartbeats 2000000 in
theorem count_some (h : GA w C Q R id g pa pc wv v) (ho : g.ph.open = true) (hp : g.ps ≠ []) (k t gg : Int) (who : Nat) (a1 a2 : Option Addr) (n1 c1 n2 c2 : Nat) (hr : butW g.ws who ≠ []) :
    Calls Tryz.prog 92 #[ptr g.b, .agg #[.int .i64 k, .int .i64 who, .int .i64 t, .int .i64 gg, .slice a1 n1 c1, .slice a2 n2 c2, .bool true]] w (CountPost w C Q id (g.less who)) := by
  obtain ⟨P, cs, rfl, hbP, _⟩ := h.poll ho
  obtain ⟨g0, cap, rfl⟩ := h.waits (by intro e; rw [e] at ho; cases ho) hp
  have hb0 := up (Below.refl w.heap.size w) (.cells #[.int .i64 k, .int .i64 who, .int .i64 t, .int .i64 gg, .slice a1 n1 c1, .slice a2 n2 c2, .bool true] 46)
  have h1 := h.later hb0
  have hm := Box.new w #[.int .i64 k, .int .i64 who, .int .i64 t, .int .i64 gg, .slice a1 n1 c1, .slice a2 n2 c2, .bool true] 46 rfl
  have hm1 : (w.alloc (.cells #[.int .i64 k, .int .i64 who, .int .i64 t, .int .i64 gg, .slice a1 n1 c1, .slice a2 n2 c2, .bool true] 46)).cell? ⟨w.heap.size, 1, none⟩ = some (.int .i64 who) := hm.cell rfl
  have hg0 : w.heap.size ≠ g0 := fun e => by have := (own_low h.ws g0 rfl).2; omega
  have c3 : (w.alloc (.cells #[.int .i64 k, .int .i64 who, .int .i64 t, .int .i64 gg, .slice a1 n1 c1, .slice a2 n2 c2, .bool true] 46)).cell? ⟨g.b, 3, none⟩ = some (.iface 92 (ptr P)) := h1.box.cell rfl
  have c2' : (w.alloc (.cells #[.int .i64 k, .int .i64 who, .int .i64 t, .int .i64 gg, .slice a1 n1 c1, .slice a2 n2 c2, .bool true] 46)).cell? ⟨g.b, 2, none⟩ = some (.slice (some ⟨g0, 0, none⟩) g.ws.length cap) := h1.box.cell rfl
  have kp := poll_yes g.b P _ c3
  have kD := delF_own g0 cap g.ws _ h1.ws w.heap.size who hm.lt hg0 hm1
  have hL := fun w1 hg hown => h1.less (w1 := w1) (cap' := cap) who hg hown
  have hbx := fun w1 (hg : World.grownBy _ w1 (some g0)) => (h1.box.frame (hg.block g.b h1.box.lt (fun e => h1.wne (by cases e; rfl))))
  obtain ⟨M, hM⟩ : ∃ M, g.ws.length = M := ⟨_, rfl⟩
  rw [hM] at kD c2'
  obtain ⟨N, hN⟩ : ∃ N, (butW g.ws who).length = N + 1 := ⟨(butW g.ws who).length - 1, by have := List.length_pos_iff.2 hr; omega⟩
  rw [hN] at kD
  simp only [hN] at hL
  have hN0 : (((N + 1 : Nat) : Int) == 0) = false := by simp; omega
  clear h h1 c3 hm hp ho hr hN hM hbP
  go_enter Tryz.func92, Tryz.ntmps92
  go_wp2_with (first
    | (go_at_call 40; refine kp.mono ?_; rintro e w1 ⟨rfl, rfl⟩)
    | (go_at_call 126; refine kD.mono ?_; rintro e w2 ⟨rfl, hown, hgr⟩; have b2 := hbx _ hgr; have f2 := b2.frozen; obtain ⟨d0, d1, d2, d3⟩ := b2.cells4))
  go_ret
  obtain ⟨hG, hT⟩ := hL _ hgr hown
  exact ⟨rfl, ⟨_, _, _, _, _, hG⟩, Turn.trans (.of_below hb0) hT⟩

theorem GA.hold (h : GA w C Q R id g pa pc wv v) {age : Nat} {pods : List PodT} (hph : g.ph = .hold age pods) : age ≤ 100 ∧ ∃ P gb xb cb pb a c, v = .iface 92 (ptr P) ∧ HoldAt w C Q R id g.b P gb xb cb pb a c age pods := by
  have := h.ph
  rw [hph] at this
  exact this
theorem GA.prep (h : GA w C Q R id g pa pc wv v) {age : Nat} (hph : g.ph = .prep age) : age ≤ 100 ∧ ∃ P xb cb, v = .iface 92 (ptr P) ∧ PrepAt w C Q R g.b P xb cb age := by
  have := h.ph
  rw [hph] at this
  exact this

set_option maxRecDepth 100000 in
set_option maxHeartbeats 2000000 in
theorem count_hold (h : GA w C Q R id g pa pc wv v) {age : Nat} {pods : List PodT} (hph : g.ph = .hold age pods) (hp : g.ps ≠ []) (k t gg : Int) (who : Nat) (a1 a2 : Option Addr) (n1 c1 n2 c2 : Nat) (hr : butW g.ws who = []) :
    Calls Tryz.prog 92 #[ptr g.b, .agg #[.int .i64 k, .int .i64 who, .int .i64 t, .int .i64 gg, .slice a1 n1 c1, .slice a2 n2 c2, .bool true]] w (GangPost w C Q id (g.at (.prep age)) (toAll id g.ps (.prep age))) := by
  have ho : g.ph.open = true := by rw [hph]; rfl
  obtain ⟨P, cs, rfl, hbP, _⟩ := h.poll ho
  obtain ⟨g0, cap, rfl⟩ := h.waits (by intro e; rw [e] at ho; cases ho) hp
  have hb0 := up (Below.refl w.heap.size w) (.cells #[.int .i64 k, .int .i64 who, .int .i64 t, .int .i64 gg, .slice a1 n1 c1, .slice a2 n2 c2, .bool true] 46)
  have h1 := h.later hb0
  have hm := Box.new w #[.int .i64 k, .int .i64 who, .int .i64 t, .int .i64 gg, .slice a1 n1 c1, .slice a2 n2 c2, .bool true] 46 rfl
  have hm1 : (w.alloc (.cells #[.int .i64 k, .int .i64 who, .int .i64 t, .int .i64 gg, .slice a1 n1 c1, .slice a2 n2 c2, .bool true] 46)).cell? ⟨w.heap.size, 1, none⟩ = some (.int .i64 who) := hm.cell rfl
  have hg0 : w.heap.size ≠ g0 := fun e => by have := (own_low h.ws g0 rfl).2; omega
  have c3 : (w.alloc (.cells #[.int .i64 k, .int .i64 who, .int .i64 t, .int .i64 gg, .slice a1 n1 c1, .slice a2 n2 c2, .bool true] 46)).cell? ⟨g.b, 3, none⟩ = some (.iface 92 (ptr P)) := h1.box.cell rfl
  have c2' : (w.alloc (.cells #[.int .i64 k, .int .i64 who, .int .i64 t, .int .i64 gg, .slice a1 n1 c1, .slice a2 n2 c2, .bool true] 46)).cell? ⟨g.b, 2, none⟩ = some (.slice (some ⟨g0, 0, none⟩) g.ws.length cap) := h1.box.cell rfl
  have kp := poll_yes g.b P _ c3
  have kD := delF_own g0 cap g.ws _ h1.ws w.heap.size who hm.lt hg0 hm1
  have hL := fun w1 hg hown => h1.less (w1 := w1) (cap' := cap) who hg hown
  have hbx := fun w1 (hg : World.grownBy _ w1 (some g0)) => (h1.box.frame (hg.block g.b h1.box.lt (fun e => h1.wne (by cases e; rfl))))
  obtain ⟨M, hM⟩ : ∃ M, g.ws.length = M := ⟨_, rfl⟩
  rw [hM] at kD c2'
  have hN : (butW g.ws who).length = 0 := by rw [hr]; rfl
  rw [hN] at kD
  simp only [hN] at hL
  clear h h1 c3 hm hp ho hM hbP
  go_enter Tryz.func92, Tryz.ntmps92
  go_upto_region 6 with (first
    | (go_at_call 40; refine kp.mono ?_; rintro e w1 ⟨rfl, rfl⟩)
    | (go_at_call 126; refine kD.mono ?_; rintro e w2 ⟨rfl, hown, hgr⟩; have b2 := hbx _ hgr; have f2 := b2.frozen; obtain ⟨d0, d1, d2, d3⟩ := b2.cells4))
  obtain ⟨hG, hT⟩ := hL _ hgr hown
  obtain ⟨hage, P', gb, xb, cb, pb, a, c, e, hH⟩ := hG.hold (age := age) (pods := pods) hph
  cases e
  have kh := hold2_any hG hage hH
  have x4 := hH.bP.cell (i := 4) rfl
  clear hL kp kD hbx hH hG d0 d1 d2 d3 f2 b2 hown hgr
  generalize (w2.setCell ⟨g.b, 2, none⟩ (.slice (some ⟨g0, 0, none⟩) 0 cap)) = W at *
  go_wp2_with (go_at_call 89; refine kh.mono ?_; rintro e w5 ⟨v5, Q5, rfl, hM5, hG5, hT5⟩)
  go_ret
  exact ⟨v5, Q5, rfl, hM5.low (Turn.trans (.of_below hb0) hT).kept.size, hG5, (Turn.trans (.of_below hb0) hT).trans hT5⟩
end

end Go.Proofs.YtlehlbgaboifoabGreatDoor

/- A gang: hear. -/
namespace Go.Proofs.YtlehlbgaboifoabGreatDoor
open Go.RowKit Go.Maps Go.Shelf
set_option linter.unusedSimpArgs false
set_option linter.unusedVariables false

/-- The kind of message behind which a gang waits for a shard no more. -/
def Ph.ends : Ph → Nat
  | .nul => 0
  | .hold _ _ => 2
  | .prep _ => 4
  | .dec n => if n = 5 then 10 else 6
theorem beq_yes (a b : Nat) (h : a = b) : ((a : Int) == (b : Int)) = true := by subst h; simp
theorem beq_no (a b : Nat) (h : a ≠ b) : ((a : Int) == (b : Int)) = false := by simp; omega

section
variable {w w1 : World} {C : Nat} {Q R : Nat → Prop} {id : Nat} {g : GS} {pa : Option Addr} {pc : Nat} {wv v : Value}

theorem GA.pcells (h : GA w C Q R id g pa pc wv v) (ho : g.ph.open = true) : ∃ P, v = .iface 92 (ptr P) ∧ w.cell? ⟨P, 0, none⟩ = some (.int .i64 g.ph.state) ∧ w.cell? ⟨P, 1, none⟩ = some (.int .i64 g.ph.ends) := by
  have hph := h.ph
  obtain ⟨b, ps, ws, ph⟩ := g
  cases ph with
  | nul => cases ho
  | hold age pods =>
    obtain ⟨ha2, P', gb, xb, cb, pb, a, c, e, hh⟩ := hph
    exact ⟨P', e, hh.bP.cell rfl, hh.bP.cell rfl⟩
  | prep age =>
    obtain ⟨ha2, P', xb, cb, e, hh⟩ := hph
    exact ⟨P', e, hh.bP.cell rfl, hh.bP.cell rfl⟩
  | dec n => cases ho

set_option maxRecDepth 100000 in
set_option maxHeartbeats 2000000 in
theorem hear_count_p (GP : Value → World → Prop) (h : GA w C Q R id g pa pc wv v) (ho : g.ph.open = true) (k : Nat) (t gg : Int) (who : Nat) (a1 a2 : Option Addr) (n1 c1 n2 c2 : Nat) (yes : Bool) (hk : k = g.ph.ends)
    (kc : ∀ W, Below w.heap.size w W → Calls Tryz.prog 92 #[ptr g.b, .agg #[.int .i64 k, .int .i64 who, .int .i64 t, .int .i64 gg, .slice a1 n1 c1, .slice a2 n2 c2, .bool yes]] W fun e w' => ∃ v, e = .returned v ∧ GP v w') :
    Calls Tryz.prog 44 #[ptr g.b, .agg #[.int .i64 k, .int .i64 who, .int .i64 t, .int .i64 gg, .slice a1 n1 c1, .slice a2 n2 c2, .bool yes]] w fun e w' => ∃ v, e = .returned v ∧ GP v w' := by
  obtain ⟨P, rfl, x0, x1⟩ := h.pcells ho
  have hb0 := up (Below.refl w.heap.size w) (.cells #[.int .i64 k, .int .i64 who, .int .i64 t, .int .i64 gg, .slice a1 n1 c1, .slice a2 n2 c2, .bool yes] 46)
  have hm := Box.new w #[.int .i64 k, .int .i64 who, .int .i64 t, .int .i64 gg, .slice a1 n1 c1, .slice a2 n2 c2, .bool yes] 46 rfl
  obtain ⟨q0, q1, q2, q3, q4, q5, q6⟩ := hm.cells7
  have h1 := h.later hb0
  have c3 : (w.alloc (.cells #[.int .i64 k, .int .i64 who, .int .i64 t, .int .i64 gg, .slice a1 n1 c1, .slice a2 n2 c2, .bool yes] 46)).cell? ⟨g.b, 3, none⟩ = some (.iface 92 (ptr P)) := h1.box.cell rfl
  have c3d : (w.alloc (.cells #[.int .i64 k, .int .i64 who, .int .i64 t, .int .i64 gg, .slice a1 n1 c1, .slice a2 n2 c2, .bool yes] 46)).drew.cell? ⟨g.b, 3, none⟩ = some (.iface 92 (ptr P)) := c3
  have m1 := fun W => mth_p_ends ⟨P, 0, none⟩ W
  have m2 := fun W => nil_p_ends ⟨P, 0, none⟩ W
  obtain ⟨E, hE⟩ : ∃ E, g.ph.ends = E := ⟨_, rfl⟩
  rw [hE] at x1 hk
  have x1a := cell_alloc x1 (.cells #[.int .i64 k, .int .i64 who, .int .i64 t, .int .i64 gg, .slice a1 n1 c1, .slice a2 n2 c2, .bool yes] 46)
  have x1d : (w.alloc (.cells #[.int .i64 k, .int .i64 who, .int .i64 t, .int .i64 gg, .slice a1 n1 c1, .slice a2 n2 c2, .bool yes] 46)).drew.cell? ⟨P, 1, none⟩ = some (.int .i64 E) := x1a
  have ke := p_ends_any P E (w.alloc (.cells #[.int .i64 k, .int .i64 who, .int .i64 t, .int .i64 gg, .slice a1 n1 c1, .slice a2 n2 c2, .bool yes] 46)).drew x1d
  have kp := poll_yes g.b P _ c3d
  have hbe := beq_yes k E hk
  have kc0 := kc _ hb0.drew
  clear h h1 hm hk
  go_enter Tryz.func44, Tryz.ntmps44
  go_wp2
  go_region_with (go_at_call 258; refine ke.mono ?_; rintro e w1 ⟨rfl, rfl⟩)
  all_goals
    go_wp2_with (go_at_call 92; refine kc0.mono ?_; rintro e w2 ⟨v2, rfl, hP⟩)
    go_ret
    exact ⟨v2, rfl, hP⟩

set_option maxRecDepth 100000 in
set_option maxHeartbeats 2000000 in
theorem hear_count_v (GP : Value → World → Prop) (h : GA w C Q R id g pa pc wv v) {n : Nat} (hd : g.ph = .dec n) (k : Nat) (t gg : Int) (who : Nat) (a1 a2 : Option Addr) (n1 c1 n2 c2 : Nat) (yes : Bool) (hk : k = g.ph.ends)
    (kc : ∀ W, Below w.heap.size w W → Calls Tryz.prog 92 #[ptr g.b, .agg #[.int .i64 k, .int .i64 who, .int .i64 t, .int .i64 gg, .slice a1 n1 c1, .slice a2 n2 c2, .bool yes]] W fun e w' => ∃ v, e = .returned v ∧ GP v w') :
    Calls Tryz.prog 44 #[ptr g.b, .agg #[.int .i64 k, .int .i64 who, .int .i64 t, .int .i64 gg, .slice a1 n1 c1, .slice a2 n2 c2, .bool yes]] w fun e w' => ∃ v, e = .returned v ∧ GP v w' := by
  obtain ⟨rfl, _, h5⟩ := h.verdict hd
  have hb0 := up (Below.refl w.heap.size w) (.cells #[.int .i64 k, .int .i64 who, .int .i64 t, .int .i64 gg, .slice a1 n1 c1, .slice a2 n2 c2, .bool yes] 46)
  have hm := Box.new w #[.int .i64 k, .int .i64 who, .int .i64 t, .int .i64 gg, .slice a1 n1 c1, .slice a2 n2 c2, .bool yes] 46 rfl
  obtain ⟨q0, q1, q2, q3, q4, q5, q6⟩ := hm.cells7
  have h1 := h.later hb0
  have c3 : (w.alloc (.cells #[.int .i64 k, .int .i64 who, .int .i64 t, .int .i64 gg, .slice a1 n1 c1, .slice a2 n2 c2, .bool yes] 46)).cell? ⟨g.b, 3, none⟩ = some (.iface 140 (.int .i64 n)) := h1.box.cell rfl
  have c3d : (w.alloc (.cells #[.int .i64 k, .int .i64 who, .int .i64 t, .int .i64 gg, .slice a1 n1 c1, .slice a2 n2 c2, .bool yes] 46)).drew.cell? ⟨g.b, 3, none⟩ = some (.iface 140 (.int .i64 n)) := c3
  have m1 := fun W => mth_v_ends (.int .i64 n) W
  have m2 := fun W => nil_v_ends n W
  have m3 := fun W => mth_v_state (.int .i64 n) W
  have m4 := fun W => nil_v_state n W
  rw [hd] at hk
  obtain ⟨E, hE⟩ : ∃ E, (if n = 5 then 10 else 6) = E := ⟨_, rfl⟩
  have hE2 : ((if n = 5 then 10 else 6 : Int)) = (E : Int) := by rw [← hE]; split <;> rfl
  have ke := fun W => v_ends_any n W
  rw [hE2] at ke
  simp only [Ph.ends, hE] at hk
  have kp := poll_no g.b n _ c3d
  have hbe := beq_yes k E hk
  have kc0 := kc _ hb0.drew
  clear h h1 hm hk
  go_enter Tryz.func44, Tryz.ntmps44
  go_wp2
  go_region_with (go_at_call 261; refine (ke _).mono ?_; rintro e w1 ⟨rfl, rfl⟩)
  all_goals
    go_wp2_with (go_at_call 92; refine kc0.mono ?_; rintro e w2 ⟨v2, rfl, hP⟩)
    go_ret
    exact ⟨v2, rfl, hP⟩

set_option maxRecDepth 100000 in
set_option maxHeartbeats 2000000 in
theorem hear_none_p (h : GA w C Q R id g pa pc wv v) (ho : g.ph.open = true) (k : Nat) (t gg : Int) (who : Nat) (a1 a2 : Option Addr) (n1 c1 n2 c2 : Nat) (yes : Bool) (hk : k ≠ g.ph.ends) :
    Calls Tryz.prog 44 #[ptr g.b, .agg #[.int .i64 k, .int .i64 who, .int .i64 t, .int .i64 gg, .slice a1 n1 c1, .slice a2 n2 c2, .bool yes]] w fun e w' => e = .returned (.slice none 0 0) ∧ Below w.heap.size w w' := by
  obtain ⟨P, rfl, x0, x1⟩ := h.pcells ho
  have hb0 := up (Below.refl w.heap.size w) (.cells #[.int .i64 k, .int .i64 who, .int .i64 t, .int .i64 gg, .slice a1 n1 c1, .slice a2 n2 c2, .bool yes] 46)
  have hm := Box.new w #[.int .i64 k, .int .i64 who, .int .i64 t, .int .i64 gg, .slice a1 n1 c1, .slice a2 n2 c2, .bool yes] 46 rfl
  obtain ⟨q0, q1, q2, q3, q4, q5, q6⟩ := hm.cells7
  have h1 := h.later hb0
  have c3 : (w.alloc (.cells #[.int .i64 k, .int .i64 who, .int .i64 t, .int .i64 gg, .slice a1 n1 c1, .slice a2 n2 c2, .bool yes] 46)).cell? ⟨g.b, 3, none⟩ = some (.iface 92 (ptr P)) := h1.box.cell rfl
  have c3d : (w.alloc (.cells #[.int .i64 k, .int .i64 who, .int .i64 t, .int .i64 gg, .slice a1 n1 c1, .slice a2 n2 c2, .bool yes] 46)).drew.cell? ⟨g.b, 3, none⟩ = some (.iface 92 (ptr P)) := c3
  have m1 := fun W => mth_p_ends ⟨P, 0, none⟩ W
  have m2 := fun W => nil_p_ends ⟨P, 0, none⟩ W
  obtain ⟨E, hE⟩ : ∃ E, g.ph.ends = E := ⟨_, rfl⟩
  rw [hE] at x1 hk
  have x1a := cell_alloc x1 (.cells #[.int .i64 k, .int .i64 who, .int .i64 t, .int .i64 gg, .slice a1 n1 c1, .slice a2 n2 c2, .bool yes] 46)
  have x1d : (w.alloc (.cells #[.int .i64 k, .int .i64 who, .int .i64 t, .int .i64 gg, .slice a1 n1 c1, .slice a2 n2 c2, .bool yes] 46)).drew.cell? ⟨P, 1, none⟩ = some (.int .i64 E) := x1a
  have ke := p_ends_any P E (w.alloc (.cells #[.int .i64 k, .int .i64 who, .int .i64 t, .int .i64 gg, .slice a1 n1 c1, .slice a2 n2 c2, .bool yes] 46)).drew x1d
  have kp := poll_yes g.b P _ c3d
  have hbe := beq_no k E hk
  clear h h1 hm hk
  go_enter Tryz.func44, Tryz.ntmps44
  go_wp2
  go_region_with (go_at_call 258; refine ke.mono ?_; rintro e w1 ⟨rfl, rfl⟩)
  all_goals
    go_wp2_with (go_at_call 40; refine kp.mono ?_; rintro e w2 ⟨rfl, rfl⟩)
    go_ret
    exact ⟨rfl, hb0.drew⟩

end

end Go.Proofs.YtlehlbgaboifoabGreatDoor

/- A coordinator: State, Waits; Contains of the library. -/
namespace Go.Proofs.YtlehlbgaboifoabGreatDoor
open Go.RowKit Go.Maps Go.Shelf
set_option linter.unusedSimpArgs false
set_option linter.unusedVariables false

/-- Where in a row a number is first. -/
def atN (z : Nat) : List Nat → Nat → Int
  | [], _ => -1
  | y :: t, k => if y = z then k else atN z t (k + 1)
theorem atN_mem (z : Nat) : ∀ (l : List Nat) (k : Nat), decide (0 ≤ atN z l k) = decide (z ∈ l)
  | [], k => by simp [atN]
  | y :: t, k => by
    unfold atN
    by_cases h : y = z
    · subst h; simp
    · rw [if_neg h, atN_mem z t (k + 1)]
      simp [show ¬ z = y from fun e => h e.symm]

set_option maxRecDepth 100000 in
set_option maxHeartbeats 2000000 in
theorem index_any (z : Nat) (a : Option Addr) (n c : Nat) (ps : List Nat) (w : World) (h : Nats w a ps) (hl : ps.length = n) (hn : n ≤ 1000) :
    Calls Tryz.prog 91 #[.slice a n c, .int .i64 z] w fun e w' => e = .returned (.int .i64 (atN z ps 0)) ∧ w' = w := by
  obtain ⟨A, hA⟩ : ∃ A, atN z ps 0 = A := ⟨_, rfl⟩
  rw [hA]
  go_enter Tryz.func91, Tryz.ntmps91
  go_wp2
  go_loop [8] (fun i => ∃ k : Nat, k ≤ n ∧ i = .int .i64 k ∧ Hid (atN z (ps.drop k) k = A)) (fun i => n - (intOf i).toNat)
  case atStart => exact ⟨0, Nat.zero_le _, rfl, hA⟩
  case round =>
    obtain ⟨k, hk, rfl, hd⟩ := hrel
    by_cases hlt : k < n
    · obtain ⟨x, rfl, hx⟩ := h k (by omega)
      have hdr := drop_n ps k (by omega)
      obtain ⟨y, hy⟩ : ∃ y, ps.getD k 0 = y := ⟨_, rfl⟩
      rw [hy] at hx hdr
      have hd2 : Hid ((if y = z then (k : Int) else atN z (ps.drop (k + 1)) (k + 1)) = A) := by
        show _ = _
        have := hd.out
        rw [hdr] at this
        exact this
      clear hd hdr hy h hA hl
      by_cases hyz : y = z
      · subst hyz
        have e : A = k := by have := hd2.out; simpa using this.symm
        subst e
        go_wp2
        go_ret
        exact ⟨rfl, rfl⟩
      · have hne : ((z : Int) == (y : Int)) = false := by simp; omega
        have hd3 : Hid (atN z (ps.drop (k + 1)) (k + 1) = A) := by
          show _ = _
          have := hd2.out
          rwa [if_neg hyz] at this
        clear hd2
        go_wp2
        go_round
        case rel => exact ⟨k + 1, hlt, by go_num, hd3⟩
        case measure => simp [intOf]; omega
    · have : k = n := by omega
      subst this
      have e : ps.drop k = [] := List.drop_eq_nil_of_le (by omega)
      have e2 : A = -1 := by have := hd.out; rw [e] at this; exact this.symm
      subst e2
      go_wp2
      go_ret
      exact ⟨rfl, rfl⟩

set_option maxRecDepth 100000 in
theorem contains_any (z : Nat) (a : Option Addr) (n c : Nat) (ps : List Nat) (w : World) (h : Nats w a ps) (hl : ps.length = n) (hn : n ≤ 1000) :
    Calls Tryz.prog 43 #[.slice a n c, .int .i64 z] w fun e w' => e = .returned (.bool (decide (z ∈ ps))) ∧ w' = w := by
  have k := index_any z a n c ps w h hl hn
  obtain ⟨A, hA⟩ : ∃ A, atN z ps 0 = A := ⟨_, rfl⟩
  have h1 := atN_mem z ps 0
  rw [hA] at k h1
  rw [← h1]
  clear h h1 hA
  by_cases h0 : 0 ≤ A
  · go_enter Tryz.func43, Tryz.ntmps43
    go_wp2_with (go_at_call 91; refine k.mono ?_; rintro e w1 ⟨rfl, rfl⟩)
    go_ret
    exact ⟨by simp [h0], rfl⟩
  · go_enter Tryz.func43, Tryz.ntmps43
    go_wp2_with (go_at_call 91; refine k.mono ?_; rintro e w1 ⟨rfl, rfl⟩)
    go_ret
    exact ⟨by simp [h0], rfl⟩

section
variable {w : World} {C T m : Nat} {v : Value} {col : Nat → Int} {x : CoS}
set_option maxRecDepth 100000 in
set_option maxHeartbeats 1000000 in
theorem c_state_none (h : CoP w C T m v col x) (i : Int) (hi : (Lit.int .i64 i).wf = true) (hl : look x.M i = none) : Calls Tryz.prog 21 #[ptr C, .int .i64 i] w fun e w' => e = .returned (.int .i64 0) ∧ w' = w := by
  have c2 := h.c2
  have l1 := h.mp.look1 (.pointer none) Tryz.underlying76 (zero_pg w) i hi
  rw [hl] at l1
  simp only [Option.map_none, Option.getD_none] at l1
  clear h hl
  go_enter Tryz.func21, Tryz.ntmps21
  go_wp2
  go_ret
  exact ⟨rfl, rfl⟩
set_option maxRecDepth 100000 in
set_option maxHeartbeats 1000000 in
theorem c_state_some (h : CoP w C T m v col x) (i : Int) (hi : (Lit.int .i64 i).wf = true) {g : GS} (hl : look x.M i = some g) (h0 : g.ph ≠ .nul) : Calls Tryz.prog 21 #[ptr C, .int .i64 i] w fun e w' => e = .returned (.int .i64 g.ph.state) ∧ w' = w := by
  have c2 := h.c2
  have l1 := h.mp.look1 (.pointer none) Tryz.underlying76 (zero_pg w) i hi
  obtain ⟨⟨R, pa, pc, wv, vv, hG⟩, _⟩ := h.at_ hl
  rw [hl] at l1
  simp only [Option.map_some, Option.getD_some, GS.val] at l1
  have c3 : w.cell? ⟨g.b, 3, none⟩ = some vv := hG.box.cell rfl
  clear h hl
  cases ho : g.ph.open with
  | true =>
    obtain ⟨P, rfl, x0, _⟩ := hG.pcells ho
    have ks := p_state_any P _ w x0
    have m1 := fun W => mth_p_state ⟨P, 0, none⟩ W
    have m2 := fun W => nil_p_state ⟨P, 0, none⟩ W
    clear hG
    go_enter Tryz.func21, Tryz.ntmps21
    go_wp2_with (go_at_call 259; refine ks.mono ?_; rintro e w1 ⟨rfl, rfl⟩)
    go_ret
    exact ⟨rfl, rfl⟩
  | false =>
    have hd : ∃ n, g.ph = .dec n := by
      cases hp : g.ph with
      | nul => exact absurd hp h0
      | hold a p => rw [hp] at ho; cases ho
      | prep a => rw [hp] at ho; cases ho
      | dec n => exact ⟨n, rfl⟩
    obtain ⟨n, hd⟩ := hd
    obtain ⟨rfl, _, _⟩ := hG.verdict hd
    have ks := v_state_any n w
    have m1 := fun W => mth_v_state (.int .i64 n) W
    have m2 := fun W => nil_v_state n W
    rw [hd]
    clear hG hd ho h0
    go_enter Tryz.func21, Tryz.ntmps21
    go_wp2_with (go_at_call 262; refine ks.mono ?_; rintro e w1 ⟨rfl, rfl⟩)
    go_ret
    exact ⟨rfl, rfl⟩

set_option maxRecDepth 100000 in
set_option maxHeartbeats 1000000 in
theorem c_waits_some (h : CoP w C T m v col x) (i : Int) (hi : (Lit.int .i64 i).wf = true) {g : GS} (hl : look x.M i = some g) : Calls Tryz.prog 23 #[ptr C, .int .i64 i] w fun e w' => ∃ a c, e = .returned (.slice a g.ws.length c) ∧ Nats w' a g.ws ∧ Below w.heap.size w w' := by
  have c2 := h.c2
  have l1 := h.mp.look1 (.pointer none) Tryz.underlying76 (zero_pg w) i hi
  obtain ⟨⟨R, pa, pc, wv, vv, hG⟩, _⟩ := h.at_ hl
  rw [hl] at l1
  simp only [Option.map_some, Option.getD_some, GS.val] at l1
  have c3 : w.cell? ⟨g.b, 2, none⟩ = some wv := hG.box.cell rfl
  obtain ⟨wa, wc, rfl, _, hS, _, _⟩ := own_cut hG.ws
  have kc := clone_own wa g.ws.length wc g.ws w (nats_own hG.ws) rfl (by have := hG.lw; omega) hS
  obtain ⟨n, hn⟩ : ∃ n, g.ws.length = n := ⟨_, rfl⟩
  rw [hn] at kc c3 ⊢
  clear h hl hG
  go_enter Tryz.func23, Tryz.ntmps23
  go_wp2_with (go_at_call 63; refine kc.mono ?_; rintro e w1 ⟨v1, rfl, hown, hb⟩; obtain ⟨a, c, rfl, _⟩ := own_cut hown)
  go_ret
  exact ⟨a, c, rfl, nats_own hown, hb⟩
end

end Go.Proofs.YtlehlbgaboifoabGreatDoor

/- A coordinator: Cancel, Release. -/
namespace Go.Proofs.YtlehlbgaboifoabGreatDoor
open Go.RowKit Go.Maps Go.Shelf
set_option linter.unusedSimpArgs false
set_option linter.unusedVariables false

section
variable {w : World} {C T m : Nat} {v : Value} {col : Nat → Int} {x : CoS}

set_option maxRecDepth 100000 in
set_option maxHeartbeats 1000000 in
theorem c_cancel_none (h : CoP w C T m v col x) (i : Int) (hi : (Lit.int .i64 i).wf = true) (hl : look x.M i = none) : Calls Tryz.prog 16 #[ptr C, .int .i64 i] w fun e w' => e = .returned (.tuple #[.slice none 0 0, .int .i64 5]) ∧ w' = w := by
  have c2 := h.c2
  have l1 := h.mp.look1 (.pointer none) Tryz.underlying76 (zero_pg w) i hi
  rw [hl] at l1
  simp only [Option.map_none, Option.getD_none] at l1
  clear h hl
  go_enter Tryz.func16, Tryz.ntmps16
  go_wp2
  go_ret2
  exact ⟨rfl, rfl⟩
set_option maxRecDepth 100000 in
set_option maxHeartbeats 1000000 in
theorem c_cancel_open (h : CoP w C T m v col x) (i : Nat) (hi : (Lit.int .i64 (i : Int)).wf = true) {g : GS} (hl : look x.M (i : Int) = some g) (ho : g.ph.open = true) :
    Calls Tryz.prog 16 #[ptr C, .int .i64 i] w fun e w' => ∃ v2 v' col', e = .returned (.tuple #[v2, .int .i64 0]) ∧ MsgsN w w' v2 (toAll i g.ps (.dec 4)) ∧ CoP w' C T m v' col' { x with M := upd x.M (i : Int) (g.at (.dec 4)) } ∧ Turn w w' (inC col) (inC col') := by
  have c2 := h.c2
  have l1 := h.mp.look1 (.pointer none) Tryz.underlying76 (zero_pg w) i hi
  obtain ⟨⟨R, pa, pc, wv, vv, hG⟩, _⟩ := h.at_ hl
  have hl' := hl
  rw [hl] at l1
  simp only [Option.map_some, Option.getD_some, GS.val] at l1
  have c3 : w.cell? ⟨g.b, 3, none⟩ = some vv := hG.box.cell rfl
  obtain ⟨P, rfl, _⟩ := hG.pcells ho
  have kp := poll_yes g.b P w c3
  have kd := drop_any hG
  clear hl hG
  go_enter Tryz.func16, Tryz.ntmps16
  go_wp2_with (first
    | (go_at_call 40; refine kp.mono ?_; rintro e w1 ⟨rfl, rfl⟩)
    | (go_at_call 41; refine kd.mono ?_; rintro e w2 ⟨v2, Q2, rfl, hM, hG2, hT⟩))
  go_ret2
  obtain ⟨col5, h5, hT5⟩ := h.gang (i := (i : Int)) (g := g) (g' := g.at (.dec 4)) hl' rfl hG2 hT
  exact ⟨v2, v, col5, rfl, hM, h5, hT5⟩
set_option maxRecDepth 100000 in
set_option maxHeartbeats 1000000 in
theorem c_cancel_dec (h : CoP w C T m v col x) (i : Int) (hi : (Lit.int .i64 i).wf = true) {g : GS} (hl : look x.M i = some g) {n : Nat} (hd : g.ph = .dec n) :
    Calls Tryz.prog 16 #[ptr C, .int .i64 i] w fun e w' => e = .returned (.tuple #[.slice none 0 0, .int .i64 7]) ∧ w' = w := by
  have c2 := h.c2
  have l1 := h.mp.look1 (.pointer none) Tryz.underlying76 (zero_pg w) i hi
  obtain ⟨⟨R, pa, pc, wv, vv, hG⟩, _⟩ := h.at_ hl
  rw [hl] at l1
  simp only [Option.map_some, Option.getD_some, GS.val] at l1
  have c3 : w.cell? ⟨g.b, 3, none⟩ = some vv := hG.box.cell rfl
  obtain ⟨rfl, _, _⟩ := hG.verdict hd
  have kp := poll_no g.b n w c3
  clear hl hG h
  go_enter Tryz.func16, Tryz.ntmps16
  go_wp2_with (go_at_call 40; refine kp.mono ?_; rintro e w1 ⟨rfl, rfl⟩)
  go_ret2
  exact ⟨rfl, rfl⟩

set_option maxRecDepth 100000 in
set_option maxHeartbeats 1000000 in
theorem c_release_none (h : CoP w C T m v col x) (i : Int) (hi : (Lit.int .i64 i).wf = true) (hl : look x.M i = none) : Calls Tryz.prog 20 #[ptr C, .int .i64 i] w fun e w' => e = .returned (.tuple #[.slice none 0 0, .int .i64 5]) ∧ w' = w := by
  have c2 := h.c2
  have l1 := h.mp.look1 (.pointer none) Tryz.underlying76 (zero_pg w) i hi
  rw [hl] at l1
  simp only [Option.map_none, Option.getD_none] at l1
  clear h hl
  go_enter Tryz.func20, Tryz.ntmps20
  go_wp2
  go_ret2
  exact ⟨rfl, rfl⟩
set_option maxRecDepth 100000 in
set_option maxHeartbeats 1000000 in
theorem c_release_open (h : CoP w C T m v col x) (i : Int) (hi : (Lit.int .i64 i).wf = true) {g : GS} (hl : look x.M i = some g) (ho : g.ph.open = true) :
    Calls Tryz.prog 20 #[ptr C, .int .i64 i] w fun e w' => e = .returned (.tuple #[.slice none 0 0, .int .i64 7]) ∧ w' = w := by
  have c2 := h.c2
  have l1 := h.mp.look1 (.pointer none) Tryz.underlying76 (zero_pg w) i hi
  obtain ⟨⟨R, pa, pc, wv, vv, hG⟩, _⟩ := h.at_ hl
  rw [hl] at l1
  simp only [Option.map_some, Option.getD_some, GS.val] at l1
  have c3 : w.cell? ⟨g.b, 3, none⟩ = some vv := hG.box.cell rfl
  obtain ⟨P, rfl, x0, _⟩ := hG.pcells ho
  have ks := p_state_any P _ w x0
  have m1 := fun W => mth_p_state ⟨P, 0, none⟩ W
  have m2 := fun W => nil_p_state ⟨P, 0, none⟩ W
  have h3 : ((g.ph.state : Int) != 3) = true := by
    cases hp : g.ph <;> rw [hp] at ho <;> first | rfl | cases ho
  obtain ⟨S, hS⟩ : ∃ S, g.ph.state = S := ⟨_, rfl⟩
  rw [hS] at ks h3
  clear hl hG h x0
  go_enter Tryz.func20, Tryz.ntmps20
  go_wp2_with (go_at_call 259; refine ks.mono ?_; rintro e w1 ⟨rfl, rfl⟩)
  go_ret2
  exact ⟨rfl, rfl⟩
set_option maxRecDepth 100000 in
set_option maxHeartbeats 1000000 in
theorem c_release_not (h : CoP w C T m v col x) (i : Int) (hi : (Lit.int .i64 i).wf = true) {g : GS} (hl : look x.M i = some g) {n : Nat} (hd : g.ph = .dec n) (hn : n ≠ 3) :
    Calls Tryz.prog 20 #[ptr C, .int .i64 i] w fun e w' => e = .returned (.tuple #[.slice none 0 0, .int .i64 7]) ∧ w' = w := by
  have c2 := h.c2
  have l1 := h.mp.look1 (.pointer none) Tryz.underlying76 (zero_pg w) i hi
  obtain ⟨⟨R, pa, pc, wv, vv, hG⟩, _⟩ := h.at_ hl
  rw [hl] at l1
  simp only [Option.map_some, Option.getD_some, GS.val] at l1
  have c3 : w.cell? ⟨g.b, 3, none⟩ = some vv := hG.box.cell rfl
  obtain ⟨rfl, _, _⟩ := hG.verdict hd
  have ks := v_state_any n w
  have m1 := fun W => mth_v_state (.int .i64 n) W
  have m2 := fun W => nil_v_state n W
  have h3 : ((n : Int) != 3) = true := by simp; omega
  clear hl hG h hd hn
  go_enter Tryz.func20, Tryz.ntmps20
  go_wp2_with (go_at_call 262; refine ks.mono ?_; rintro e w1 ⟨rfl, rfl⟩)
  go_ret2
  exact ⟨rfl, rfl⟩
set_option maxRecDepth 100000 in
set_option maxHeartbeats 1000000 in
theorem c_release_yes (h : CoP w C T m v col x) (hB : TabB w.heap.size w) (hlen : x.A.length + x.L.length < 999980) (i : Nat) (hi : (Lit.int .i64 (i : Int)).wf = true) {g : GS} (hl : look x.M (i : Int) = some g) (hd : g.ph = .dec 3) :
    Calls Tryz.prog 20 #[ptr C, .int .i64 i] w fun e w' => ∃ v2 v' col', e = .returned (.tuple #[v2, .int .i64 0]) ∧ MsgsN w w' v2 (toAll i g.ps (.dec 5)) ∧ CoP w' C T m v' col' { recC x (decT 6 i) with M := upd x.M (i : Int) (g.at (.dec 5)) } ∧ Turn w w' (inC col) (inC col') := by
  have c2 := h.c2
  have l1 := h.mp.look1 (.pointer none) Tryz.underlying76 (zero_pg w) i hi
  obtain ⟨⟨R, pa, pc, wv, vv, hG⟩, _⟩ := h.at_ hl
  have kd := decide_co h hB hlen hl 6 (.inr rfl)
  rw [hl] at l1
  simp only [Option.map_some, Option.getD_some, GS.val] at l1
  have c3 : w.cell? ⟨g.b, 3, none⟩ = some vv := hG.box.cell rfl
  obtain ⟨rfl, _, _⟩ := hG.verdict hd
  have e3 : ((3 : Nat) : Int) = 3 := rfl
  have e6 : ((6 : Nat) : Int) = 6 := rfl
  rw [e3] at c3
  rw [e6] at kd
  have ks := v_state_any 3 w
  have m1 := fun W => mth_v_state (.int .i64 3) W
  have m2 := fun W => nil_v_state 3 W
  clear hl hG h hd e3 e6 hB
  go_enter Tryz.func20, Tryz.ntmps20
  go_wp2_with (first
    | (go_at_call 262; refine ks.mono ?_; rintro e w1 ⟨rfl, rfl⟩)
    | (go_at_call 61; refine kd.mono ?_; rintro e w2 ⟨v2, v', col', rfl, hM, h2, hT⟩))
  go_ret2
  exact ⟨v2, v', col', rfl, hM, h2, hT⟩
end

end Go.Proofs.YtlehlbgaboifoabGreatDoor

/- A coordinator: the last yes; Get. -/
namespace Go.Proofs.YtlehlbgaboifoabGreatDoor
open Go.RowKit Go.Maps Go.Shelf
set_option linter.unusedSimpArgs false
set_option linter.unusedVariables false

theorem upd_upd (M : List (Int × GS)) (i : Int) (g g' : GS) : upd (upd M i g) i g' = upd M i g' := by
  unfold upd
  rw [List.map_map]
  refine List.map_congr_left fun e _ => ?_
  simp only [Function.comp_apply]
  by_cases h : e.1 = i <;> simp [h]

set_option maxRecDepth 100000 in
theorem prep2_any (GP : Value → World → Prop) (C b cb xb : Nat) (w : World) (h0 : w.cell? ⟨cb, 0, none⟩ = some (ptr C)) (h1 : w.cell? ⟨xb, 0, none⟩ = some (ptr b))
    (kd : Calls Tryz.prog 61 #[ptr C, ptr b, .int .i64 4] w fun e w' => ∃ v, e = .returned v ∧ GP v w') : Calls Tryz.prog 125 #[ptr cb, ptr xb] w fun e w' => ∃ v, e = .returned v ∧ GP v w' := by
  go_enter Tryz.func125, Tryz.ntmps125
  go_wp2_with (go_at_call 61; refine kd.mono ?_; rintro e w2 ⟨v, rfl, hP⟩)
  go_ret
  exact ⟨v, rfl, hP⟩

/-- What is committed. -/
def comS (x : CoS) (i : Nat) (g : GS) : CoS := { recC x (decT 4 i) with M := upd x.M (i : Int) (g.at (.dec 3)) }

section
variable {w : World} {C T m : Nat} {v : Value} {col : Nat → Int} {x : CoS}

set_option maxRecDepth 100000 in
set_option maxHeartbeats 2000000 in
theorem count_prep (h : CoP w C T m v col x) (B : Nat) (hB : TabB B w) (hBw : B ≤ w.heap.size) (low : ∀ b, inC col b → B ≤ b) (hlen : x.A.length + x.L.length < 999980) {i : Nat} {g : GS} (hl : look x.M (i : Int) = some g) {age : Nat} (hph : g.ph = .prep age) (hp : g.ps ≠ []) (k t gg : Int) (who : Nat) (a1 a2 : Option Addr) (n1 e1 n2 e2 : Nat) (hr : butW g.ws who = []) :
    Calls Tryz.prog 92 #[ptr g.b, .agg #[.int .i64 k, .int .i64 who, .int .i64 t, .int .i64 gg, .slice a1 n1 e1, .slice a2 n2 e2, .bool true]] w fun e w' => ∃ v2, e = .returned v2 ∧ MsgsN w w' v2 (toAll i g.ps (.dec 3)) ∧ ∃ v' col', CoP w' C T m v' col' (comS x i g) ∧ Turn w w' (inC col) (inC col') := by
  have hC1 := h.later (up (Below.refl w.heap.size w) (.cells #[.int .i64 k, .int .i64 who, .int .i64 t, .int .i64 gg, .slice a1 n1 e1, .slice a2 n2 e2, .bool true] 46))
  obtain ⟨⟨R, pa, pc, wv, vv, hG0⟩, _⟩ := h.at_ hl
  have ho : g.ph.open = true := by rw [hph]; rfl
  obtain ⟨P, cs, rfl, hbP, _⟩ := hG0.poll ho
  obtain ⟨g0, cap, rfl⟩ := hG0.waits (by intro e; rw [e] at ho; cases ho) hp
  have hb0 := up (Below.refl w.heap.size w) (.cells #[.int .i64 k, .int .i64 who, .int .i64 t, .int .i64 gg, .slice a1 n1 e1, .slice a2 n2 e2, .bool true] 46)
  have h1 := hG0.later hb0
  have hm := Box.new w #[.int .i64 k, .int .i64 who, .int .i64 t, .int .i64 gg, .slice a1 n1 e1, .slice a2 n2 e2, .bool true] 46 rfl
  have hm1 : (w.alloc (.cells #[.int .i64 k, .int .i64 who, .int .i64 t, .int .i64 gg, .slice a1 n1 e1, .slice a2 n2 e2, .bool true] 46)).cell? ⟨w.heap.size, 1, none⟩ = some (.int .i64 who) := hm.cell rfl
  have hg0 : w.heap.size ≠ g0 := fun e => by have := (own_low hG0.ws g0 rfl).2; omega
  have c3 : (w.alloc (.cells #[.int .i64 k, .int .i64 who, .int .i64 t, .int .i64 gg, .slice a1 n1 e1, .slice a2 n2 e2, .bool true] 46)).cell? ⟨g.b, 3, none⟩ = some (.iface 92 (ptr P)) := h1.box.cell rfl
  have c2' : (w.alloc (.cells #[.int .i64 k, .int .i64 who, .int .i64 t, .int .i64 gg, .slice a1 n1 e1, .slice a2 n2 e2, .bool true] 46)).cell? ⟨g.b, 2, none⟩ = some (.slice (some ⟨g0, 0, none⟩) g.ws.length cap) := h1.box.cell rfl
  have kp := poll_yes g.b P _ c3
  have kD := delF_own g0 cap g.ws _ h1.ws w.heap.size who hm.lt hg0 hm1
  have hL := fun w1 hg hown => h1.less (w1 := w1) (cap' := cap) who hg hown
  have hbx := fun w1 (hg : World.grownBy _ w1 (some g0)) => (h1.box.frame (hg.block g.b h1.box.lt (fun e => h1.wne (by cases e; rfl))))
  obtain ⟨M, hM⟩ : ∃ M, g.ws.length = M := ⟨_, rfl⟩
  rw [hM] at kD c2'
  have hN : (butW g.ws who).length = 0 := by rw [hr]; rfl
  rw [hN] at kD
  simp only [hN] at hL
  clear h1 c3 hm hp ho hM hbP hG0
  go_enter Tryz.func92, Tryz.ntmps92
  go_upto_region 6 with (first
    | (go_at_call 40; refine kp.mono ?_; rintro e w1 ⟨rfl, rfl⟩)
    | (go_at_call 126; refine kD.mono ?_; rintro e w2 ⟨rfl, hown, hgr⟩; have b2 := hbx _ hgr; have f2 := b2.frozen; obtain ⟨d0, d1, d2, d3⟩ := b2.cells4))
  obtain ⟨hG, hT⟩ := hL _ hgr hown
  clear hL kp kD hbx d0 d1 d2 d3 f2 b2 hown hgr
  generalize (w2.setCell ⟨g.b, 2, none⟩ (.slice (some ⟨g0, 0, none⟩) 0 cap)) = W at *
  obtain ⟨hage, P', xb, cb, e, hH⟩ := hG.prep (age := age) hph
  cases e
  obtain ⟨col2, hC2, hT2⟩ := hC1.gang (i := (i : Int)) (g := g) (g' := g.less who) hl rfl ⟨_, _, _, _, _, hG⟩ hT
  have hT3 := Turn.trans (.of_below hb0) hT2
  have hB2 : TabB B W := hB.on (hT3.kept.below hBw low)
  have hz2 := hT3.kept.size
  have kd := decide_co hC2 (hB2.up (Nat.le_trans hBw hz2)) hlen (i := i) (g := g.less who) (by rw [upd_look _ _ _ _ (by rw [hl]; rfl)]; simp) 4 (.inl rfl)
  have e4 : ((4 : Nat) : Int) = 4 := rfl
  rw [e4] at kd
  have kh := prep2_any (fun v2 w' => MsgsN W w' v2 (toAll i g.ps (.dec 3)) ∧ ∃ v' col', CoP w' C T m v' col' { recC { x with M := upd x.M (i : Int) (g.less who) } (decT 4 i) with M := upd (upd x.M (i : Int) (g.less who)) (i : Int) ((g.less who).at (.dec (outS 4))) } ∧ Turn W w' (inC col2) (inC col')) C g.b cb xb W (hH.bc.cell rfl) (hH.bx.cell rfl) (kd.mono fun e w' ⟨v2, v', col', h1, h2, h3, h4⟩ => ⟨v2, h1, h2, v', col', h3, h4⟩)
  have x4 := hH.bP.cell (i := 4) rfl
  clear hH hG kd e4
  go_wp2_with (go_at_call 125; refine kh.mono ?_; rintro e w5 ⟨v5, rfl, hM5, v', col', hC5, hT5⟩)
  go_ret
  refine ⟨v5, rfl, hM5.low hz2, v', col', ?_, hT3.trans hT5⟩
  have e : (comS x i g) = { recC { x with M := upd x.M (i : Int) (g.less who) } (decT 4 i) with M := upd (upd x.M (i : Int) (g.less who)) (i : Int) ((g.less who).at (.dec (outS 4))) } := by
    unfold comS recC
    simp only [upd_upd]
    rfl
  rw [e]
  exact hC5

set_option maxRecDepth 100000 in
set_option maxHeartbeats 4000000 in
theorem c_get_hear (GP : Value → World → Prop) (h : CoP w C T m v col x) (i : Nat) (hi : (Lit.int .i64 (i : Int)).wf = true) {g : GS} (hl : look x.M (i : Int) = some g) (k who : Nat) (hk : k ≠ 7) (hw1 : 1 ≤ who) (hw4 : who ≤ 4) (hp : who ∈ g.ps) (a1 a2 : Option Addr) (n1 e1 n2 e2 : Nat) (yes : Bool)
    (kh : ∀ W, Below w.heap.size w W → Calls Tryz.prog 44 #[ptr g.b, .agg #[.int .i64 k, .int .i64 who, .int .i64 0, .int .i64 i, .slice a1 n1 e1, .slice a2 n2 e2, .bool yes]] W fun e w' => ∃ v, e = .returned v ∧ GP v w') :
    Calls Tryz.prog 17 #[ptr C, .agg #[.int .i64 k, .int .i64 who, .int .i64 0, .int .i64 i, .slice a1 n1 e1, .slice a2 n2 e2, .bool yes]] w fun e w' => ∃ v, e = .returned v ∧ GP v w' := by
  have hb0 := up (Below.refl w.heap.size w) (.cells #[.int .i64 k, .int .i64 who, .int .i64 0, .int .i64 i, .slice a1 n1 e1, .slice a2 n2 e2, .bool yes] 46)
  have hm := Box.new w #[.int .i64 k, .int .i64 who, .int .i64 0, .int .i64 i, .slice a1 n1 e1, .slice a2 n2 e2, .bool yes] 46 rfl
  obtain ⟨q0, q1, q2, q3, q4, q5, q6⟩ := hm.cells7
  obtain ⟨q0d, q1d, q2d, q3d, q4d, q5d, q6d⟩ := hm.drew.cells7
  have h1 := h.later hb0
  have cc2 := h1.c2
  have c2d : (w.alloc (.cells #[.int .i64 k, .int .i64 who, .int .i64 0, .int .i64 i, .slice a1 n1 e1, .slice a2 n2 e2, .bool yes] 46)).drew.cell? ⟨C, 2, none⟩ = some (.map (some m)) := cc2
  have l1 := h1.mp.look1 (.pointer none) Tryz.underlying76 (zero_pg _) i hi
  have l2 := (h.later hb0.drew).mp.look1 (.pointer none) Tryz.underlying76 (zero_pg _) i hi
  simp only [hl, Option.map_some, Option.getD_some, GS.val] at l1 l2
  obtain ⟨⟨R, pa, pc, wv, vv, hG⟩, _⟩ := h1.at_ hl
  have p0 : (w.alloc (.cells #[.int .i64 k, .int .i64 who, .int .i64 0, .int .i64 i, .slice a1 n1 e1, .slice a2 n2 e2, .bool yes] 46)).cell? ⟨g.b, 1, none⟩ = some (.slice pa g.ps.length pc) := hG.box.cell rfl
  have p1 : (w.alloc (.cells #[.int .i64 k, .int .i64 who, .int .i64 0, .int .i64 i, .slice a1 n1 e1, .slice a2 n2 e2, .bool yes] 46)).drew.cell? ⟨g.b, 1, none⟩ = some (.slice pa g.ps.length pc) := p0
  have p2 : (w.alloc (.cells #[.int .i64 k, .int .i64 who, .int .i64 0, .int .i64 i, .slice a1 n1 e1, .slice a2 n2 e2, .bool yes] 46)).drew.drew.cell? ⟨g.b, 1, none⟩ = some (.slice pa g.ps.length pc) := p1
  have kc := fun W (hW : Below (w.alloc (.cells #[.int .i64 k, .int .i64 who, .int .i64 0, .int .i64 i, .slice a1 n1 e1, .slice a2 n2 e2, .bool yes] 46)).heap.size (w.alloc (.cells #[.int .i64 k, .int .i64 who, .int .i64 0, .int .i64 i, .slice a1 n1 e1, .slice a2 n2 e2, .bool yes] 46)) W) => contains_any who pa g.ps.length pc g.ps W (hG.ps.later hW) rfl (by have := hG.lp; omega)
  simp only [hp, decide_true] at kc
  have kh1 := kh (w.alloc (.cells #[.int .i64 k, .int .i64 who, .int .i64 0, .int .i64 i, .slice a1 n1 e1, .slice a2 n2 e2, .bool yes] 46)).drew.drew hb0.drew.drew
  obtain ⟨n, hn⟩ : ∃ n, g.ps.length = n := ⟨_, rfl⟩
  rw [hn] at p0 p1 p2 kc
  have hk7 : ((k : Int) == 7) = false := by simp; omega
  clear h h1 hm hG hp hl hk kh
  go_enter Tryz.func17, Tryz.ntmps17
  go_upto_region 5 with fail
  go_cut [5] (fun v5 wx => v5 = ptr g.b ∧ wx = (w.alloc (.cells #[.int .i64 k, .int .i64 who, .int .i64 0, .int .i64 i, .slice a1 n1 e1, .slice a2 n2 e2, .bool yes] 46)).drew)
  case first =>
    clear kc kh1
    go_region_with (fail)
    all_goals
      go_wp2
      go_meet
      case rel => exact ⟨rfl, rfl⟩
  case rest =>
    obtain ⟨rfl, rfl⟩ := hcut
    go_upto_region 6 with fail
    go_cut [43] (fun v43 wx => v43 = .bool false ∧ wx = (w.alloc (.cells #[.int .i64 k, .int .i64 who, .int .i64 0, .int .i64 i, .slice a1 n1 e1, .slice a2 n2 e2, .bool yes] 46)).drew.drew)
    case first =>
      clear kh1
      go_region_with (go_at_call 43; refine (kc _ (by first | exact (Below.refl _ _).drew | exact (Below.refl _ _).drew.drew)).mono ?_; rintro e w1 ⟨rfl, rfl⟩)
      all_goals
        go_wp2
        go_meet
        case rel => exact ⟨rfl, rfl⟩
    case rest =>
      obtain ⟨rfl, rfl⟩ := hcut
      go_wp2_with (go_at_call 44; refine kh1.mono ?_; rintro e w5 ⟨v5, rfl, hP⟩)
      go_ret
      exact ⟨v5, rfl, hP⟩
end

end Go.Proofs.YtlehlbgaboifoabGreatDoor
