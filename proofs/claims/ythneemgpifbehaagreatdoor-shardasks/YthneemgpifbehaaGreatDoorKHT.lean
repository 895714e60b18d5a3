/- A shard: what is decided is heard, told, done. -/
import Derived.Test.YthneemgpifbehaaGreatDoorMg38
namespace Go.Proofs.YthneemgpifbehaaGreatDoor
open Go.RowKit Go.Maps
set_option linter.unusedSimpArgs false
set_option linter.unusedVariables false

/-- What each of them does, at each state; what it answers. -/
def commitS (x : ShS) (g : Nat) (s : Int) : ShS := if s = 2 then recS (actS 4 x g) (bs (oneT 4 g)) true else x
def commitK (s : Int) : Int := if s = 2 ∨ s = 3 ∨ s = 5 then 6 else 0
def abortS (x : ShS) (g : Nat) (s : Int) : ShS := if s = 1 ∨ s = 2 then recS (actS 5 x g) (bs (oneT 5 g)) false else x
def abortK (s : Int) : Int := if s = 3 ∨ s = 5 then 0 else 6
def tellS (x : ShS) (g : Nat) (s : Int) : ShS := if s = 0 ∨ s = 1 then recS (actS 5 x g) (bs (oneT 5 g)) true else x
def tellK (s : Int) : Int := if s = 2 then 0 else 8
def tellY (s : Int) : Bool := decide (s = 3 ∨ s = 5)
def freeS (x : ShS) (g : Nat) (s : Int) : ShS :=
  if s = 2 then recS (actS 6 (recS (actS 4 x g) (bs (oneT 4 g)) true) g) (bs (oneT 6 g)) true
  else if s = 3 then recS (actS 6 x g) (bs (oneT 6 g)) true else x
def freeK (s : Int) : Int := if s = 2 ∨ s = 3 ∨ s = 5 then 10 else 0

/-- One of the six states. -/
abbrev Six (s : Int) : Prop := s = 0 ∨ s = 1 ∨ s = 2 ∨ s = 3 ∨ s = 4 ∨ s = 5

section
variable {w : World} {S T : Nat} {fp : Nat → Prop} {x : ShS}

set_option maxRecDepth 100000 in
set_option maxHeartbeats 4000000 in
theorem qcommit_any (B : Nat) (hB : Base B w) (h : IsS w S T fp x) (g : Nat) (g1 : 1 ≤ g) (g2 : g ≤ 999999) (hl : x.A.length + x.L.length < 999980) (hD : x.D.length ≤ 100000) (hG : x.G.length ≤ 1000) (s : Int) (hs : stateS x g = s) (h6 : Six s) :
    Calls Tryz.prog 147 #[.pointer (some ⟨S, 0, none⟩), .int .i64 g] w fun e w' => e = .returned (.tuple #[.int .i64 (commitK s), .bool false]) ∧ ∃ fp', IsS w' S T fp' (commitS x g s) ∧ Turn w w' fp fp' := by
  have ks := qstate_any h g (wfN g g2)
  rw [hs] at ks
  have kd : Calls Tryz.prog 149 #[.pointer (some ⟨S, 0, none⟩), .int .i64 4, .int .i64 g, .bool true] w fun e w' => e = .returned (.tuple #[]) ∧ ∃ fp', IsS w' S T fp' (recS (actS 4 x g) (bs (oneT 4 g)) true) ∧ Turn w w' fp fp' :=
    qdo_any B hB h 4 (.inl rfl) g g1 g2 true hl hD hG
  have h0 : IsS w S T fp x ∧ Turn w w fp fp := ⟨h, .of_below (Below.refl _ _)⟩
  clear h hB hs
  rcases h6 with rfl | rfl | rfl | rfl | rfl | rfl
  all_goals
    go_enter Tryz.func147, Tryz.ntmps147
    go_wp2_with (first
      | (go_at_call 16; refine ks.mono ?_; rintro e w2 ⟨rfl, rfl⟩)
      | (go_at_call 149; refine kd.mono ?_; rintro e w3 ⟨rfl, fp3, h3, hT3⟩))
    go_ret2
    first
    | exact ⟨rfl, fp3, h3, hT3⟩
    | exact ⟨rfl, fp, h0.1, h0.2⟩

set_option maxRecDepth 100000 in
set_option maxHeartbeats 4000000 in
theorem qabort_any (B : Nat) (hB : Base B w) (h : IsS w S T fp x) (g : Nat) (g1 : 1 ≤ g) (g2 : g ≤ 999999) (hl : x.A.length + x.L.length < 999980) (hD : x.D.length ≤ 100000) (hG : x.G.length ≤ 1000) (s : Int) (hs : stateS x g = s) (h6 : Six s) :
    Calls Tryz.prog 148 #[.pointer (some ⟨S, 0, none⟩), .int .i64 g] w fun e w' => e = .returned (.tuple #[.int .i64 (abortK s), .bool false]) ∧ ∃ fp', IsS w' S T fp' (abortS x g s) ∧ Turn w w' fp fp' := by
  have ks := qstate_any h g (wfN g g2)
  rw [hs] at ks
  have kd : Calls Tryz.prog 149 #[.pointer (some ⟨S, 0, none⟩), .int .i64 5, .int .i64 g, .bool false] w fun e w' => e = .returned (.tuple #[]) ∧ ∃ fp', IsS w' S T fp' (recS (actS 5 x g) (bs (oneT 5 g)) false) ∧ Turn w w' fp fp' :=
    qdo_any B hB h 5 (.inr (.inl rfl)) g g1 g2 false hl hD hG
  have h0 : IsS w S T fp x ∧ Turn w w fp fp := ⟨h, .of_below (Below.refl _ _)⟩
  clear h hB hs
  rcases h6 with rfl | rfl | rfl | rfl | rfl | rfl
  all_goals
    go_enter Tryz.func148, Tryz.ntmps148
    go_wp2_with (first
      | (go_at_call 16; refine ks.mono ?_; rintro e w2 ⟨rfl, rfl⟩)
      | (go_at_call 149; refine kd.mono ?_; rintro e w3 ⟨rfl, fp3, h3, hT3⟩))
    go_ret2
    first
    | exact ⟨rfl, fp3, h3, hT3⟩
    | exact ⟨rfl, fp, h0.1, h0.2⟩

set_option maxRecDepth 100000 in
set_option maxHeartbeats 4000000 in
theorem qtell_any (B : Nat) (hB : Base B w) (h : IsS w S T fp x) (g : Nat) (g1 : 1 ≤ g) (g2 : g ≤ 999999) (hl : x.A.length + x.L.length < 999980) (hD : x.D.length ≤ 100000) (hG : x.G.length ≤ 1000) (s : Int) (hs : stateS x g = s) (h6 : Six s) :
    Calls Tryz.prog 107 #[.pointer (some ⟨S, 0, none⟩), .int .i64 g] w fun e w' => e = .returned (.tuple #[.int .i64 (tellK s), .bool (tellY s)]) ∧ ∃ fp', IsS w' S T fp' (tellS x g s) ∧ Turn w w' fp fp' := by
  have ks := qstate_any h g (wfN g g2)
  rw [hs] at ks
  have kd : Calls Tryz.prog 149 #[.pointer (some ⟨S, 0, none⟩), .int .i64 5, .int .i64 g, .bool true] w fun e w' => e = .returned (.tuple #[]) ∧ ∃ fp', IsS w' S T fp' (recS (actS 5 x g) (bs (oneT 5 g)) true) ∧ Turn w w' fp fp' :=
    qdo_any B hB h 5 (.inr (.inl rfl)) g g1 g2 true hl hD hG
  have h0 : IsS w S T fp x ∧ Turn w w fp fp := ⟨h, .of_below (Below.refl _ _)⟩
  clear h hB hs
  rcases h6 with rfl | rfl | rfl | rfl | rfl | rfl
  all_goals
    go_enter Tryz.func107, Tryz.ntmps107
    go_wp2_with (first
      | (go_at_call 16; refine ks.mono ?_; rintro e w2 ⟨rfl, rfl⟩)
      | (go_at_call 149; refine kd.mono ?_; rintro e w3 ⟨rfl, fp3, h3, hT3⟩))
    go_ret2
    first
    | exact ⟨rfl, fp3, h3, hT3⟩
    | exact ⟨rfl, fp, h0.1, h0.2⟩

set_option maxRecDepth 100000 in
set_option maxHeartbeats 4000000 in
theorem qfree_any (B : Nat) (hB : Base B w) (h : IsS w S T fp x) (hlow : ∀ b, fp b → B ≤ b) (g : Nat) (g1 : 1 ≤ g) (g2 : g ≤ 999999) (hl : x.A.length + x.L.length < 999970) (hD : x.D.length ≤ 99990) (hG : x.G.length ≤ 1000) (s : Int) (hs : stateS x g = s) (h6 : Six s) :
    Calls Tryz.prog 108 #[.pointer (some ⟨S, 0, none⟩), .int .i64 g] w fun e w' => e = .returned (.tuple #[.int .i64 (freeK s), .bool false]) ∧ ∃ fp', IsS w' S T fp' (freeS x g s) ∧ Turn w w' fp fp' := by
  have ks := qstate_any h g (wfN g g2)
  rw [hs] at ks
  have h0 : IsS w S T fp x ∧ Turn w w fp fp := ⟨h, .of_below (Below.refl _ _)⟩
  have kd : Calls Tryz.prog 149 #[.pointer (some ⟨S, 0, none⟩), .int .i64 4, .int .i64 g, .bool true] w fun e w' => e = .returned (.tuple #[]) ∧ ∃ fp', IsS w' S T fp' (recS (actS 4 x g) (bs (oneT 4 g)) true) ∧ Turn w w' fp fp' :=
    qdo_any B hB h 4 (.inl rfl) g g1 g2 true (by omega) (by omega) hG
  have k6 : ∀ (W : World) (fp' : Nat → Prop) (x' : ShS), Base B W → IsS W S T fp' x' → x'.A.length + x'.L.length < 999980 → x'.D.length ≤ 100000 → x'.G.length ≤ 1000 → Calls Tryz.prog 149 #[.pointer (some ⟨S, 0, none⟩), .int .i64 6, .int .i64 g, .bool true] W fun e w' => e = .returned (.tuple #[]) ∧ ∃ fp'', IsS w' S T fp'' (recS (actS 6 x' g) (bs (oneT 6 g)) true) ∧ Turn W w' fp' fp'' :=
    fun W fp' x' hB' h' a1 a2 a3 => qdo_any B hB' h' 6 (.inr (.inr rfl)) g g1 g2 true a1 a2 a3
  have hx4 : (recS (actS 4 x g) (bs (oneT 4 g)) true).A.length + (recS (actS 4 x g) (bs (oneT 4 g)) true).L.length < 999980 ∧ (recS (actS 4 x g) (bs (oneT 4 g)) true).D.length ≤ 100000 ∧ (recS (actS 4 x g) (bs (oneT 4 g)) true).G.length ≤ 1000 := by
    refine ⟨by simp [recS, actS, decS]; omega, ?_, hG⟩
    simp only [recS, actS, decS]
    have : (put iK x.D (g : Int) 3).length ≤ x.D.length + 1 := by
      unfold put
      rw [length_ins]
      have : (del x.D (g : Int)).length ≤ x.D.length := List.length_filter_le _ _
      omega
    omega
  have kc := k6 w fp x hB h (by omega) (by omega) hG
  have kB : ∀ (W : World) (fp' : Nat → Prop), Turn w W fp fp' → Base B W := fun W fp' hT => hB.on (hT.on hlow hB.le)
  clear h hs
  rcases h6 with rfl | rfl | rfl | rfl | rfl | rfl
  case inr.inr.inl =>
    go_enter Tryz.func108, Tryz.ntmps108
    go_wp2_with (first
      | (go_at_call 16; refine ks.mono ?_; rintro e w2 ⟨rfl, rfl⟩)
      | (go_at_call 149; refine k63.mono ?_; rintro e w4 ⟨rfl, fp4, h4, hT4⟩)
      | (go_at_call 149; refine kd.mono ?_; rintro e w3 ⟨rfl, fp3, h3, hT3⟩; have k63 := k6 _ _ _ (kB _ _ hT3) h3 hx4.1 hx4.2.1 hx4.2.2))
    go_ret2
    exact ⟨rfl, fp4, h4, hT3.trans hT4⟩
  all_goals
    clear kd
    go_enter Tryz.func108, Tryz.ntmps108
    go_wp2_with (first
      | (go_at_call 16; refine ks.mono ?_; rintro e w2 ⟨rfl, rfl⟩)
      | (go_at_call 149; refine kc.mono ?_; rintro e w3 ⟨rfl, fp3, h3, hT3⟩))
    go_ret2
    first
    | exact ⟨rfl, fp3, h3, hT3⟩
    | exact ⟨rfl, fp, h0.1, h0.2⟩

/-- What is heard. -/
def hearS (x : ShS) (g : Nat) (s : Int) (yes : Bool) : ShS := if yes then commitS x g s else abortS x g s
def hearK (s : Int) (yes : Bool) : Int := if yes then commitK s else abortK s

set_option maxRecDepth 100000 in
set_option maxHeartbeats 4000000 in
theorem qhear_any (B : Nat) (hB : Base B w) (h : IsS w S T fp x) (kind fr tt : Int) (g : Nat) (g1 : 1 ≤ g) (g2 : g ≤ 999999) (hl : x.A.length + x.L.length < 999980) (hD : x.D.length ≤ 100000) (hG : x.G.length ≤ 1000) (s : Int) (hs : stateS x g = s) (h6 : Six s) (pa : Option Addr) (m pc : Nat) (ea : Option Addr) (en ec : Nat) (yes : Bool) :
    Calls Tryz.prog 106 #[.pointer (some ⟨S, 0, none⟩), msgV kind fr tt g pa m pc ea en ec yes] w fun e w' => e = .returned (.tuple #[.int .i64 (hearK s yes), .bool false]) ∧ ∃ fp', IsS w' S T fp' (hearS x g s yes) ∧ Turn w w' fp fp' := by
  have hb0 := up (Below.refl w.heap.size w) (msgO kind fr tt g pa m pc ea en ec yes)
  have kc := qcommit_any B (hB.later hb0) (h.later hb0) g g1 g2 hl hD hG s hs h6
  have ka := qabort_any B (hB.later hb0) (h.later hb0) g g1 g2 hl hD hG s hs h6
  have hT0 : Turn w _ fp fp := .of_below hb0
  clear h hB hs h6
  unfold hearK hearS
  cases yes
  · simp only [Bool.false_eq_true, if_false]
    clear kc
    go_enter Tryz.func106, Tryz.ntmps106
    go_wp2_with (go_at_call 148; refine ka.mono ?_; rintro e w3 ⟨rfl, fp3, h3, hT3⟩)
    go_ret2
    exact ⟨rfl, fp3, h3, hT0.trans hT3⟩
  · simp only [if_true]
    clear ka
    go_enter Tryz.func106, Tryz.ntmps106
    go_wp2_with (go_at_call 147; refine kc.mono ?_; rintro e w3 ⟨rfl, fp3, h3, hT3⟩)
    go_ret2
    exact ⟨rfl, fp3, h3, hT0.trans hT3⟩
end

end Go.Proofs.YthneemgpifbehaaGreatDoor
