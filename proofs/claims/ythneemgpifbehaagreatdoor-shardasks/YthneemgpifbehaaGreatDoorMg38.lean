/- A shard: pods are packed in its ledger; goes. -/
import Derived.Test.YthneemgpifbehaaGreatDoorMg30
import Derived.Test.YthneemgpifbehaaGreatDoorMg36
import Derived.Test.YthneemgpifbehaaGreatDoorMg37
namespace Go.Proofs.YthneemgpifbehaaGreatDoor
open Go.RowKit Go.Maps
set_option linter.unusedSimpArgs false
set_option linter.unusedVariables false

/-- Where the pods go. -/
def layC (x : ShS) (ps : List PodT) : Option (List Pl) := layR x.G x.mode (x.C.map recOf) [] ps
/-- A gang has these places. -/
def heldS (x : ShS) (g : Int) (a : Option Addr) (c : Nat) (l : List Pl) : ShS := { x with G := put iK x.G g ⟨a, c, l⟩ }

section
variable {w : World} {S T Lg u d : Nat} {v : Value} {col : Nat → Nat} {x : ShS}
theorem lay_of (E : List (ByteArray × Rec)) (C : List Core) (hC : E.map (fun e => e.2.core) = C) (G : List (Int × Grp)) (mode : Int) (ps : List PodT) : layR G mode (E.map (·.2)) [] ps = layR G mode (C.map recOf) [] ps := by
  refine lay_core ?_ _ _
  rw [List.map_map, List.map_map]
  have e1 : (Rec.core ∘ recOf) = id := by funext c; rfl
  rw [e1, List.map_id]
  exact hC

theorem pack_yes (h : ShP w S T Lg u d v col x) (hT : Tab w) (hG : x.G.length ≤ 100) (g : Int) (hg : (Lit.int .i64 g).wf = true) (hgn : look x.G g = none) (pa : Option Addr) (m pc : Nat) (ps : List PodT) (hP : Pods w pa ps) (hpl : ps.length = m) (hm0 : 1 ≤ m) (hm8 : m ≤ 8) (l : List Pl) (hl : layC x ps = some l) :
    Calls Tryz.prog 193 #[.pointer (some ⟨Lg, 0, none⟩), .int .i64 g, .slice pa m pc, .int .i64 x.mode] w fun e w' => ∃ a n c, e = .returned (.tuple #[.slice a n c, .int .i64 0]) ∧ ∃ col' a' c', ShP w' S T Lg u d v col' (heldS x g a' c' l.reverse) ∧ Turn w w' (inC col) (inC col') := by
  obtain ⟨E, hE, hC⟩ := h.led
  have hne : ps ≠ [] := by rintro rfl; simp at hpl; omega
  have hlay : layR x.G x.mode (E.map (·.2)) [] ps = some l := by rw [lay_of E x.C hC]; exact hl
  have e0 : packE E x.G g x.mode ps = 0 := by
    unfold packE
    rw [hlay, hgn]
    simp [zgrp, hne]
  refine (pack_any w Lg _ E x.G hG hE hT g hg (fun r hr => by rw [hgn] at hr; cases hr) pa m pc ps hP hpl hm8 x.mode).mono ?_
  rw [e0]
  rintro e w' (⟨h0, _⟩ | ⟨_, a, c, fp', E', a', c', he, hPl, hsp, hn, hL, hk, hco, hT'⟩)
  · exact absurd rfl h0
  · have hpk : packL E x.G x.mode ps = l.reverse := by unfold packL; rw [hlay]; rfl
    rw [hpk] at hL
    obtain ⟨col', h5, h6⟩ := h.ledger ⟨E', hL, hco.trans hC⟩ hT'
    exact ⟨a, _, c, he, col', a', c', h5, h6⟩
theorem pack_no (h : ShP w S T Lg u d v col x) (hT : Tab w) (hG : x.G.length ≤ 100) (g : Int) (hg : (Lit.int .i64 g).wf = true) (hgn : look x.G g = none) (pa : Option Addr) (m pc : Nat) (ps : List PodT) (hP : Pods w pa ps) (hpl : ps.length = m) (hm0 : 1 ≤ m) (hm8 : m ≤ 8) (hl : layC x ps = none) :
    Calls Tryz.prog 193 #[.pointer (some ⟨Lg, 0, none⟩), .int .i64 g, .slice pa m pc, .int .i64 x.mode] w fun e w' => e = .returned (.tuple #[.slice none 0 0, .int .i64 6]) ∧ ShP w' S T Lg u d v col x ∧ Turn w w' (inC col) (inC col) := by
  obtain ⟨E, hE, hC⟩ := h.led
  have hne : ps ≠ [] := by rintro rfl; simp at hpl; omega
  have hlay : layR x.G x.mode (E.map (·.2)) [] ps = none := by rw [lay_of E x.C hC]; exact hl
  have e0 : packE E x.G g x.mode ps = 6 := by
    unfold packE
    rw [hlay, hgn]
    simp [zgrp, hne]
  refine (pack_any w Lg _ E x.G hG hE hT g hg (fun r hr => by rw [hgn] at hr; cases hr) pa m pc ps hP hpl hm8 x.mode).mono ?_
  rw [e0]
  rintro e w' (⟨_, he, hb⟩ | ⟨h0, _⟩)
  · exact ⟨he, h.later hb, .of_below hb⟩
  · cases h0
end

/-- A message. -/
abbrev msgV (kind fr tt : Int) (g : Nat) (pa : Option Addr) (m pc : Nat) (ea : Option Addr) (en ec : Nat) (yes : Bool) : Value := .agg #[.int .i64 kind, .int .i64 fr, .int .i64 tt, .int .i64 g, .slice pa m pc, .slice ea en ec, .bool yes]

section
variable {w : World} {S T : Nat} {fp : Nat → Prop} {x : ShS}

set_option maxRecDepth 100000 in
set_option maxHeartbeats 4000000 in
theorem qgoes_yes (h : IsS w S T fp x) (hT : Tab w) (hG : x.G.length ≤ 100) (kind fr tt : Int) (g : Nat) (hg : g ≤ 999999) (hgn : look x.G g = none) (pa : Option Addr) (m pc : Nat) (ps : List PodT) (hP : Pods w pa ps) (hpl : ps.length = m) (hm0 : 1 ≤ m) (hm8 : m ≤ 8) (hmc : m ≤ pc) (ea : Option Addr) (en ec : Nat) (yes : Bool)
    (he : sgangE g ps 4 = 0) (l : List Pl) (hl : layC x ps = some l) :
    Calls Tryz.prog 146 #[.pointer (some ⟨S, 0, none⟩), msgV kind fr tt g pa m pc ea en ec yes] w fun e w' => e = .returned (.bool true) ∧ ∃ fp' a c, IsS w' S T fp' (heldS x g a c l.reverse) ∧ Turn w w' fp fp' := by
  obtain ⟨Lg, u, d, v, col, rfl, h⟩ := h
  have hb0 := up (Below.refl w.heap.size w) (.cells #[.int .i64 kind, .int .i64 fr, .int .i64 tt, .int .i64 g, .slice pa m pc, .slice ea en ec, .bool yes] 40)
  have bM := Box.new w #[.int .i64 kind, .int .i64 fr, .int .i64 tt, .int .i64 g, .slice pa m pc, .slice ea en ec, .bool yes] 40 rfl
  have kg := sgang_any g 4 pa pc m ps _ hpl hmc ((hP.later hb0).weak (by omega))
  rw [he] at kg
  have kp := fun W (hW : Below w.heap.size w W) => pack_yes (h.later hW) (hT.later hW) hG g (wfN g hg) hgn pa m pc ps (hP.later hW) hpl hm0 hm8 l hl
  have c13 := fun W (hW : Below w.heap.size w W) => (h.later hW).c3
  have c11 := fun W (hW : Below w.heap.size w W) => (h.later hW).c1
  clear h hP hT he hl hgn
  go_enter Tryz.func146, Tryz.ntmps146
  go_upto_region 3 with (go_at_call 192; refine kg.mono ?_
                         rintro e w2 ⟨rfl, hb2⟩
                         have hW := fin hb2 hb0
                         have hWd := hW.drew
                         have b2 := bM.later hb2
                         obtain ⟨r0, r1, r2, r3, r4, r5, r6⟩ := b2.cells7
                         have d3 := c13 _ hW
                         have d1 := c11 _ hW
                         have kp2 := kp _ hWd)
  clear kg kp c13 c11
  go_region_with (go_at_call 193; refine kp2.mono ?_; rintro e w3 ⟨a, n, c, rfl, col3, a3, c3, h3, hT3⟩)
  all_goals
    go_wp2
    go_ret
    exact ⟨rfl, _, a3, c3, ⟨Lg, u, d, v, col3, rfl, h3⟩, (Turn.of_below hWd).trans hT3⟩

set_option maxRecDepth 100000 in
set_option maxHeartbeats 4000000 in
theorem qgoes_no (h : IsS w S T fp x) (hT : Tab w) (hG : x.G.length ≤ 100) (kind fr tt : Int) (g : Nat) (hg : g ≤ 999999) (hgn : look x.G g = none) (pa : Option Addr) (m pc : Nat) (ps : List PodT) (hP : Pods w pa ps) (hpl : ps.length = m) (hm0 : 1 ≤ m) (hm8 : m ≤ 8) (hmc : m ≤ pc) (ea : Option Addr) (en ec : Nat) (yes : Bool)
    (he : sgangE g ps 4 = 0) (hl : layC x ps = none) :
    Calls Tryz.prog 146 #[.pointer (some ⟨S, 0, none⟩), msgV kind fr tt g pa m pc ea en ec yes] w fun e w' => e = .returned (.bool false) ∧ IsS w' S T fp x ∧ Turn w w' fp fp := by
  obtain ⟨Lg, u, d, v, col, rfl, h⟩ := h
  have hb0 := up (Below.refl w.heap.size w) (.cells #[.int .i64 kind, .int .i64 fr, .int .i64 tt, .int .i64 g, .slice pa m pc, .slice ea en ec, .bool yes] 40)
  have bM := Box.new w #[.int .i64 kind, .int .i64 fr, .int .i64 tt, .int .i64 g, .slice pa m pc, .slice ea en ec, .bool yes] 40 rfl
  have kg := sgang_any g 4 pa pc m ps _ hpl hmc ((hP.later hb0).weak (by omega))
  rw [he] at kg
  have kp := fun W (hW : Below w.heap.size w W) => pack_no (h.later hW) (hT.later hW) hG g (wfN g hg) hgn pa m pc ps (hP.later hW) hpl hm0 hm8 hl
  have c13 := fun W (hW : Below w.heap.size w W) => (h.later hW).c3
  have c11 := fun W (hW : Below w.heap.size w W) => (h.later hW).c1
  clear h hP hT he hl hgn
  go_enter Tryz.func146, Tryz.ntmps146
  go_upto_region 3 with (go_at_call 192; refine kg.mono ?_
                         rintro e w2 ⟨rfl, hb2⟩
                         have hW := fin hb2 hb0
                         have hWd := hW.drew
                         have b2 := bM.later hb2
                         obtain ⟨r0, r1, r2, r3, r4, r5, r6⟩ := b2.cells7
                         have d3 := c13 _ hW
                         have d1 := c11 _ hW
                         have kp2 := kp _ hWd)
  clear kg kp c13 c11
  go_region_with (go_at_call 193; refine kp2.mono ?_; rintro e w3 ⟨rfl, h3, hT3⟩)
  all_goals
    go_wp2
    go_ret
    exact ⟨rfl, ⟨Lg, u, d, v, col, rfl, h3⟩, (Turn.of_below hWd).trans hT3⟩
end

end Go.Proofs.YthneemgpifbehaaGreatDoor

/- A shard: hold. -/
namespace Go.Proofs.YthneemgpifbehaaGreatDoor
open Go.RowKit Go.Maps
set_option linter.unusedSimpArgs false
set_option linter.unusedVariables false

/-- A gang is undecided so. -/
def setU (x : ShS) (g : Int) (z : Und) : ShS := { x with U := put iK x.U g z }

theorem updU {w : World} {S T Lg u d : Nat} {v : Value} {col : Nat → Nat} {x : ShS} (h : ShP w S T Lg u d v col x) (g : Int) (hg : (Lit.int .i64 g).wf = true) (hU : x.U.length ≤ 100000) (z : Und) (hz : z.Ok w (fun b => col b = 6)) :
    ∃ w', (Instr.mapUpdate 88 (.map (some u)) (.int .i64 g) z.val).run Tryz.prog w = .ok () w' ∧ ShP w' S T Lg u d v col (setU x g z) ∧ Turn w w' (inC col) (inC col) := by
  obtain ⟨w', hrun, hown, hg'⟩ := MOwn.update h.und Tryz.underlying88 g hg (by omega) z
  obtain ⟨h1, h2⟩ := h.mapU hown hg' (fun e he => by
    rcases (mem_put iK).1 he with rfl | ⟨he, _⟩
    · exact hz
    · exact h.ok e he)
  exact ⟨w', hrun, h1, h2⟩

section
variable {w : World} {S T : Nat} {fp : Nat → Prop} {x : ShS}

set_option maxRecDepth 100000 in
set_option maxHeartbeats 4000000 in
/-- A message to hold where nothing is held: it goes. -/
theorem qhold_yes (h : IsS w S T fp x) (hT : Tab w) (hG : x.G.length ≤ 100) (hU : x.U.length ≤ 100000) (kind fr tt : Int) (g : Nat) (hg : g ≤ 999999) (hs : stateS x g = 0) (hgn : look x.G g = none) (pa : Option Addr) (m pc : Nat) (ps : List PodT) (hP : Pods w pa ps) (hpl : ps.length = m) (hm0 : 1 ≤ m) (hm8 : m ≤ 8) (hmc : m ≤ pc) (ea : Option Addr) (en ec : Nat) (yes : Bool)
    (he : sgangE g ps 4 = 0) (l : List Pl) (hl : layC x ps = some l) :
    Calls Tryz.prog 104 #[.pointer (some ⟨S, 0, none⟩), msgV kind fr tt g pa m pc ea en ec yes] w fun e w' => e = .returned (.tuple #[.int .i64 2, .bool true]) ∧ ∃ fp' a c, IsS w' S T fp' (setU (heldS x g a c l.reverse) g (.held 6)) ∧ Turn w w' fp fp' := by
  have hb0 := up (Below.refl w.heap.size w) (.cells #[.int .i64 kind, .int .i64 fr, .int .i64 tt, .int .i64 g, .slice pa m pc, .slice ea en ec, .bool yes] 40)
  have bM := Box.new w #[.int .i64 kind, .int .i64 fr, .int .i64 tt, .int .i64 g, .slice pa m pc, .slice ea en ec, .bool yes] 40 rfl
  have hn : ¬ fp w.heap.size := fun hc => by have := h.lt _ hc; omega
  have ks := qstate_any (h.later hb0) g (wfN g hg)
  rw [hs] at ks
  have kg := qgoes_yes (h.later hb0) (hT.later hb0) hG kind fr tt g hg hgn pa m pc ps (hP.later hb0) hpl hm0 hm8 hmc ea en ec yes he l hl
  clear h hT hP he hl hgn hs
  go_enter Tryz.func104, Tryz.ntmps104
  go_upto_region 8 with (first
    | (go_at_call 16; refine ks.mono ?_; rintro e w2 ⟨rfl, rfl⟩)
    | (go_at_call 146; refine kg.mono ?_
       rintro e w3 ⟨rfl, fp3, a3, c3, h3, hT3⟩
       have b3 := hT3.kept.box bM hn
       have r3 : w3.cell? ⟨w.heap.size, 3, none⟩ = some (.int .i64 g) := b3.cell rfl
       obtain ⟨Lg, u, d, v, col, e3, h3⟩ := h3
       have c4 := h3.c4
       have hbd : Below w3.heap.size w3 w3.drew := (Below.refl _ _).drew
       obtain ⟨w4, hrun, h4, hT4⟩ := updU (h3.later hbd) g (wfN g hg) hU (.held 6) trivial
       simp only [Und.val] at hrun))
  subst e3
  clear ks kg
  go_region_with (fail)
  all_goals
    go_wp2
    go_ret2
    exact ⟨rfl, _, a3, c3, ⟨Lg, u, d, v, col, rfl, h4⟩, (((Turn.of_below hb0).trans hT3).trans (Turn.of_below hbd)).trans hT4⟩

set_option maxRecDepth 100000 in
set_option maxHeartbeats 4000000 in
/-- It does not go. -/
theorem qhold_no (h : IsS w S T fp x) (hT : Tab w) (hG : x.G.length ≤ 100) (kind fr tt : Int) (g : Nat) (hg : g ≤ 999999) (hs : stateS x g = 0) (hgn : look x.G g = none) (pa : Option Addr) (m pc : Nat) (ps : List PodT) (hP : Pods w pa ps) (hpl : ps.length = m) (hm0 : 1 ≤ m) (hm8 : m ≤ 8) (hmc : m ≤ pc) (ea : Option Addr) (en ec : Nat) (yes : Bool)
    (he : sgangE g ps 4 = 0) (hl : layC x ps = none) :
    Calls Tryz.prog 104 #[.pointer (some ⟨S, 0, none⟩), msgV kind fr tt g pa m pc ea en ec yes] w fun e w' => e = .returned (.tuple #[.int .i64 2, .bool false]) ∧ IsS w' S T fp x ∧ Turn w w' fp fp := by
  have hb0 := up (Below.refl w.heap.size w) (.cells #[.int .i64 kind, .int .i64 fr, .int .i64 tt, .int .i64 g, .slice pa m pc, .slice ea en ec, .bool yes] 40)
  have ks := qstate_any (h.later hb0) g (wfN g hg)
  rw [hs] at ks
  have kg := qgoes_no (h.later hb0) (hT.later hb0) hG kind fr tt g hg hgn pa m pc ps (hP.later hb0) hpl hm0 hm8 hmc ea en ec yes he hl
  have hT0 : Turn w _ fp fp := .of_below hb0
  clear h hT hP he hl hgn hs
  go_enter Tryz.func104, Tryz.ntmps104
  go_wp2_with (first
    | (go_at_call 16; refine ks.mono ?_; rintro e w2 ⟨rfl, rfl⟩)
    | (go_at_call 146; refine kg.mono ?_; rintro e w3 ⟨rfl, h3, hT3⟩))
  go_ret2
  exact ⟨rfl, h3, hT0.trans hT3⟩

set_option maxRecDepth 100000 in
set_option maxHeartbeats 4000000 in
/-- It is held: for longer. -/
theorem qhold_held (h : IsS w S T fp x) (hU : x.U.length ≤ 100000) (kind fr tt : Int) (g : Nat) (hg : g ≤ 999999) (hs : stateS x g = 1) (pa : Option Addr) (m pc : Nat) (ea : Option Addr) (en ec : Nat) (yes : Bool) :
    Calls Tryz.prog 104 #[.pointer (some ⟨S, 0, none⟩), msgV kind fr tt g pa m pc ea en ec yes] w fun e w' => e = .returned (.tuple #[.int .i64 2, .bool true]) ∧ ∃ fp', IsS w' S T fp' (setU x g (.held 6)) ∧ Turn w w' fp fp' := by
  have hb0 := up (Below.refl w.heap.size w) (.cells #[.int .i64 kind, .int .i64 fr, .int .i64 tt, .int .i64 g, .slice pa m pc, .slice ea en ec, .bool yes] 40)
  have bM := Box.new w #[.int .i64 kind, .int .i64 fr, .int .i64 tt, .int .i64 g, .slice pa m pc, .slice ea en ec, .bool yes] 40 rfl
  have ks := qstate_any (h.later hb0) g (wfN g hg)
  rw [hs] at ks
  obtain ⟨Lg, u, d, v, col, rfl, h⟩ := h
  have c4 := (h.later hb0).c4
  have hbd := hb0.drew
  obtain ⟨w4, hrun, h4, hT4⟩ := updU (h.later hbd) g (wfN g hg) hU (.held 6) trivial
  simp only [Und.val] at hrun
  have hT0 : Turn w _ (inC col) (inC col) := .of_below hbd
  have r3 := bM.cell (i := 3) (v := .int .i64 g) rfl
  clear h hs
  go_enter Tryz.func104, Tryz.ntmps104
  go_upto_region 8 with (go_at_call 16; refine ks.mono ?_; rintro e w2 ⟨rfl, rfl⟩)
  go_region_with (fail)
  all_goals
    go_wp2
    go_ret2
    exact ⟨rfl, _, ⟨Lg, u, d, v, col, rfl, h4⟩, hT0.trans hT4⟩
end

end Go.Proofs.YthneemgpifbehaaGreatDoor

/- A shard: answer, Get. -/
namespace Go.Proofs.YthneemgpifbehaaGreatDoor
open Go.RowKit Go.Maps
set_option linter.unusedSimpArgs false
set_option linter.unusedVariables false

/-- A message in memory, as a box. -/
abbrev msgO (kind fr tt : Int) (g : Nat) (pa : Option Addr) (m pc : Nat) (ea : Option Addr) (en ec : Nat) (yes : Bool) : Obj := .cells #[.int .i64 kind, .int .i64 fr, .int .i64 tt, .int .i64 g, .slice pa m pc, .slice ea en ec, .bool yes] 40

section
variable {w : World} {S T : Nat} {fp : Nat → Prop} {x : ShS}

set_option maxRecDepth 100000 in
set_option maxHeartbeats 2000000 in
theorem qanswer_one (Q : World → Prop) (k : Int) (y : Bool) (fr tt : Int) (g : Nat) (pa : Option Addr) (m pc : Nat) (ea : Option Addr) (en ec : Nat) (yes : Bool)
    (ka : Calls Tryz.prog 104 #[.pointer (some ⟨S, 0, none⟩), msgV 1 fr tt g pa m pc ea en ec yes] (w.alloc (msgO 1 fr tt g pa m pc ea en ec yes)) fun e w' => e = .returned (.tuple #[.int .i64 k, .bool y]) ∧ Q w') :
    Calls Tryz.prog 51 #[.pointer (some ⟨S, 0, none⟩), msgV 1 fr tt g pa m pc ea en ec yes] w fun e w' => e = .returned (.tuple #[.int .i64 k, .bool y]) ∧ Q w' := by
  go_enter Tryz.func51, Tryz.ntmps51
  go_wp2_with (go_at_call 104; refine ka.mono ?_; rintro e w2 ⟨rfl, h2⟩)
  go_ret2
  exact ⟨rfl, h2⟩
set_option maxRecDepth 100000 in
set_option maxHeartbeats 2000000 in
theorem qanswer_three (Q : World → Prop) (k : Int) (y : Bool) (fr tt : Int) (g : Nat) (pa : Option Addr) (m pc : Nat) (ea : Option Addr) (en ec : Nat) (yes : Bool)
    (ka : Calls Tryz.prog 105 #[.pointer (some ⟨S, 0, none⟩), msgV 3 fr tt g pa m pc ea en ec yes] (w.alloc (msgO 3 fr tt g pa m pc ea en ec yes)) fun e w' => e = .returned (.tuple #[.int .i64 k, .bool y]) ∧ Q w') :
    Calls Tryz.prog 51 #[.pointer (some ⟨S, 0, none⟩), msgV 3 fr tt g pa m pc ea en ec yes] w fun e w' => e = .returned (.tuple #[.int .i64 k, .bool y]) ∧ Q w' := by
  go_enter Tryz.func51, Tryz.ntmps51
  go_wp2_with (go_at_call 105; refine ka.mono ?_; rintro e w2 ⟨rfl, h2⟩)
  go_ret2
  exact ⟨rfl, h2⟩
set_option maxRecDepth 100000 in
set_option maxHeartbeats 2000000 in
theorem qanswer_five (Q : World → Prop) (k : Int) (y : Bool) (fr tt : Int) (g : Nat) (pa : Option Addr) (m pc : Nat) (ea : Option Addr) (en ec : Nat) (yes : Bool)
    (ka : Calls Tryz.prog 106 #[.pointer (some ⟨S, 0, none⟩), msgV 5 fr tt g pa m pc ea en ec yes] (w.alloc (msgO 5 fr tt g pa m pc ea en ec yes)) fun e w' => e = .returned (.tuple #[.int .i64 k, .bool y]) ∧ Q w') :
    Calls Tryz.prog 51 #[.pointer (some ⟨S, 0, none⟩), msgV 5 fr tt g pa m pc ea en ec yes] w fun e w' => e = .returned (.tuple #[.int .i64 k, .bool y]) ∧ Q w' := by
  go_enter Tryz.func51, Tryz.ntmps51
  go_wp2_with (go_at_call 106; refine ka.mono ?_; rintro e w2 ⟨rfl, h2⟩)
  go_ret2
  exact ⟨rfl, h2⟩
set_option maxRecDepth 100000 in
set_option maxHeartbeats 2000000 in
theorem qanswer_seven (Q : World → Prop) (k : Int) (y : Bool) (fr tt : Int) (g : Nat) (pa : Option Addr) (m pc : Nat) (ea : Option Addr) (en ec : Nat) (yes : Bool)
    (ka : Calls Tryz.prog 107 #[.pointer (some ⟨S, 0, none⟩), .int .i64 g] (w.alloc (msgO 7 fr tt g pa m pc ea en ec yes)) fun e w' => e = .returned (.tuple #[.int .i64 k, .bool y]) ∧ Q w') :
    Calls Tryz.prog 51 #[.pointer (some ⟨S, 0, none⟩), msgV 7 fr tt g pa m pc ea en ec yes] w fun e w' => e = .returned (.tuple #[.int .i64 k, .bool y]) ∧ Q w' := by
  go_enter Tryz.func51, Tryz.ntmps51
  go_wp2_with (go_at_call 107; refine ka.mono ?_; rintro e w2 ⟨rfl, h2⟩)
  go_ret2
  exact ⟨rfl, h2⟩
set_option maxRecDepth 100000 in
set_option maxHeartbeats 2000000 in
theorem qanswer_nine (Q : World → Prop) (k : Int) (y : Bool) (fr tt : Int) (g : Nat) (pa : Option Addr) (m pc : Nat) (ea : Option Addr) (en ec : Nat) (yes : Bool)
    (ka : Calls Tryz.prog 108 #[.pointer (some ⟨S, 0, none⟩), .int .i64 g] (w.alloc (msgO 9 fr tt g pa m pc ea en ec yes)) fun e w' => e = .returned (.tuple #[.int .i64 k, .bool y]) ∧ Q w') :
    Calls Tryz.prog 51 #[.pointer (some ⟨S, 0, none⟩), msgV 9 fr tt g pa m pc ea en ec yes] w fun e w' => e = .returned (.tuple #[.int .i64 k, .bool y]) ∧ Q w' := by
  go_enter Tryz.func51, Tryz.ntmps51
  go_wp2_with (go_at_call 108; refine ka.mono ?_; rintro e w2 ⟨rfl, h2⟩)
  go_ret2
  exact ⟨rfl, h2⟩
set_option maxRecDepth 100000 in
set_option maxHeartbeats 2000000 in
/-- What a peer tells, where it is not prepared. -/
theorem qanswer_eight_no (h : IsS w S T fp x) (fr tt : Int) (g : Nat) (hg : g ≤ 999999) (hs : stateS x g ≠ 2) (pa : Option Addr) (m pc : Nat) (ea : Option Addr) (en ec : Nat) (yes : Bool) :
    Calls Tryz.prog 51 #[.pointer (some ⟨S, 0, none⟩), msgV 8 fr tt g pa m pc ea en ec yes] w fun e w' => e = .returned (.tuple #[.int .i64 0, .bool false]) ∧ Below w.heap.size w w' := by
  have hb0 := up (Below.refl w.heap.size w) (msgO 8 fr tt g pa m pc ea en ec yes)
  have ks := qstate_any (h.later hb0) g (wfN g hg)
  obtain ⟨s, hss⟩ : ∃ s, stateS x g = s := ⟨_, rfl⟩
  rw [hss] at ks hs
  have hs' : ((s : Int) == 2) = false := by simpa using hs
  clear h hss
  go_enter Tryz.func51, Tryz.ntmps51
  go_wp2_with (go_at_call 16; refine ks.mono ?_; rintro e w2 ⟨rfl, rfl⟩)
  go_ret2
  exact ⟨rfl, hb0⟩
set_option maxRecDepth 100000 in
set_option maxHeartbeats 2000000 in
/-- What a peer tells, where it is prepared. -/
theorem qanswer_eight_yes (Q : World → Prop) (k : Int) (y : Bool) (h : IsS w S T fp x) (fr tt : Int) (g : Nat) (hg : g ≤ 999999) (hs : stateS x g = 2) (pa : Option Addr) (m pc : Nat) (ea : Option Addr) (en ec : Nat) (yes : Bool)
    (ka : Calls Tryz.prog 106 #[.pointer (some ⟨S, 0, none⟩), msgV 8 fr tt g pa m pc ea en ec yes] (w.alloc (msgO 8 fr tt g pa m pc ea en ec yes)) fun e w' => e = .returned (.tuple #[.int .i64 k, .bool y]) ∧ Q w') :
    Calls Tryz.prog 51 #[.pointer (some ⟨S, 0, none⟩), msgV 8 fr tt g pa m pc ea en ec yes] w fun e w' => e = .returned (.tuple #[.int .i64 0, .bool false]) ∧ Q w' := by
  have hb0 := up (Below.refl w.heap.size w) (msgO 8 fr tt g pa m pc ea en ec yes)
  have ks := qstate_any (h.later hb0) g (wfN g hg)
  rw [hs] at ks
  clear h hs
  go_enter Tryz.func51, Tryz.ntmps51
  go_wp2_with (first
    | (go_at_call 16; refine ks.mono ?_; rintro e w2 ⟨rfl, rfl⟩)
    | (go_at_call 106; refine ka.mono ?_; rintro e w3 ⟨rfl, h3⟩))
  go_ret2
  exact ⟨rfl, h3⟩

set_option maxRecDepth 100000 in
set_option maxHeartbeats 4000000 in
/-- It is answered. -/
theorem qget_yes (h : IsS w S T fp x) (R : ShS → Prop) (hR : ∀ x', R x' → x'.me = x.me) (k : Int) (hk : k ≠ 0) (y : Bool) (kind fr : Int) (me : Int) (hme : x.me = me) (g : Nat) (g1 : 1 ≤ g) (g2 : g ≤ 999999) (pa : Option Addr) (m pc : Nat) (ea : Option Addr) (en ec : Nat) (yes : Bool)
    (ka : ∀ W, Below w.heap.size w W → Calls Tryz.prog 51 #[.pointer (some ⟨S, 0, none⟩), msgV kind fr me g pa m pc ea en ec yes] W fun e w' => e = .returned (.tuple #[.int .i64 k, .bool y]) ∧ ∃ fp' x', R x' ∧ IsS w' S T fp' x' ∧ Turn W w' fp fp') :
    Calls Tryz.prog 14 #[.pointer (some ⟨S, 0, none⟩), msgV kind fr me g pa m pc ea en ec yes] w fun e w' => ∃ B, e = .returned (.slice (some ⟨B, 0, none⟩) 1 1) ∧ Box w' B #[.int .i64 k, .int .i64 me, .int .i64 fr, .int .i64 g, .slice none 0 0, .slice none 0 0, .bool y] 40 ∧ w.heap.size ≤ B ∧
      ∃ fp' x', R x' ∧ IsS w' S T fp' x' ∧ ¬ fp' B ∧ Turn w w' fp fp' := by
  have hb0 := up (Below.refl w.heap.size w) (msgO kind fr me g pa m pc ea en ec yes)
  have bM := Box.new w #[.int .i64 kind, .int .i64 fr, .int .i64 me, .int .i64 g, .slice pa m pc, .slice ea en ec, .bool yes] 40 rfl
  have hn : ¬ fp w.heap.size := fun hc => by have := h.lt _ hc; omega
  have ko := qopen_any (h.later hb0)
  have c0 : ∀ W, Below w.heap.size w W → W.cell? ⟨S, 0, none⟩ = some (.int .i64 me) := fun W hW => by
    obtain ⟨Lg, u, d, v, col, e, h⟩ := h.later hW
    rw [← hme]
    exact h.c0
  have kc := fun W => check_five g W
  rw [gangE_ok g g1 g2] at kc
  have d0 := c0 _ hb0
  have d0' := c0 _ hb0.drew
  have hk' : ((k : Int) == 0) = false := by simpa using hk
  subst hme
  clear h
  go_enter Tryz.func14, Tryz.ntmps14
  go_upto_region 2 with (go_at_call 49; refine ko.mono ?_; rintro e w2 ⟨rfl, rfl⟩)
  go_cut [22] (fun v22 wx => v22 = .bool false ∧ Below w.heap.size w wx ∧ Box wx w.heap.size #[.int .i64 kind, .int .i64 fr, .int .i64 x.me, .int .i64 g, .slice pa m pc, .slice ea en ec, .bool yes] 40)
  case first =>
    go_region_with (go_at_call 50; refine (kc _).mono ?_; rintro e w2 ⟨rfl, hb2⟩; have hW := fin hb2 hb0.drew; have b2 := (Box.drew bM).later hb2)
    all_goals
      go_wp2
      go_meet
      case rel => exact ⟨rfl, hW, b2⟩
  case rest =>
    obtain ⟨rfl, hW, b2⟩ := hcut
    have ka2 := ka _ hW
    obtain ⟨r0, r1, r2, r3, r4, r5, r6⟩ := b2.cells7
    clear ka c0 kc ko d0 d0' bM hb0
    go_upto_region 7 with (go_at_call 51; refine ka2.mono ?_
                           rintro e w3 ⟨rfl, fp3, x3, hR3, h3, hT3⟩
                           have b3 := hT3.kept.box b2 hn
                           obtain ⟨s0, s1, s2, s3, s4, s5, s6⟩ := b3.cells7
                           have hm3 := hR x3 hR3
                           obtain ⟨Lg, u, d, v, col, e3, h3⟩ := h3
                           have c30 := h3.c0
                           rw [hm3] at c30)
    clear ka2 r0 r1 r2 r3 r4 r5 r6
    go_region_with (fail)
    all_goals
      go_wp2
      go_ret
      have hd3 : Below w3.heap.size w3 w3.drew := (Below.refl _ _).drew
      have hd4 := up hd3 (.cells #[.int .i64 k, .int .i64 x.me, .int .i64 fr, .int .i64 g, .slice none 0 0, .slice none 0 0, .bool y] 40)
      refine ⟨_, rfl, Box.new w3.drew _ _ rfl, Nat.le_trans hW.size hT3.kept.size, fp3, x3, hR3, ⟨Lg, u, d, v, col, e3, h3.later hd4⟩, ?_, ((Turn.of_below hW).trans hT3).trans (Turn.of_below hd4)⟩
      rw [e3]
      intro hc
      have := h3.lt _ hc
      simp [World.drew] at this

set_option maxRecDepth 100000 in
set_option maxHeartbeats 4000000 in
/-- It is not answered. -/
theorem qget_no (h : IsS w S T fp x) (R : ShS → Prop) (y : Bool) (kind fr : Int) (me : Int) (hme : x.me = me) (g : Nat) (g1 : 1 ≤ g) (g2 : g ≤ 999999) (pa : Option Addr) (m pc : Nat) (ea : Option Addr) (en ec : Nat) (yes : Bool)
    (ka : ∀ W, Below w.heap.size w W → Calls Tryz.prog 51 #[.pointer (some ⟨S, 0, none⟩), msgV kind fr me g pa m pc ea en ec yes] W fun e w' => e = .returned (.tuple #[.int .i64 0, .bool y]) ∧ ∃ fp' x', R x' ∧ IsS w' S T fp' x' ∧ Turn W w' fp fp') :
    Calls Tryz.prog 14 #[.pointer (some ⟨S, 0, none⟩), msgV kind fr me g pa m pc ea en ec yes] w fun e w' => e = .returned (.slice none 0 0) ∧ ∃ fp' x', R x' ∧ IsS w' S T fp' x' ∧ Turn w w' fp fp' := by
  have hb0 := up (Below.refl w.heap.size w) (msgO kind fr me g pa m pc ea en ec yes)
  have bM := Box.new w #[.int .i64 kind, .int .i64 fr, .int .i64 me, .int .i64 g, .slice pa m pc, .slice ea en ec, .bool yes] 40 rfl
  have ko := qopen_any (h.later hb0)
  have c0 : ∀ W, Below w.heap.size w W → W.cell? ⟨S, 0, none⟩ = some (.int .i64 me) := fun W hW => by
    obtain ⟨Lg, u, d, v, col, e, h⟩ := h.later hW
    rw [← hme]
    exact h.c0
  have kc := fun W => check_five g W
  rw [gangE_ok g g1 g2] at kc
  have d0 := c0 _ hb0
  have d0' := c0 _ hb0.drew
  subst hme
  clear h
  go_enter Tryz.func14, Tryz.ntmps14
  go_upto_region 2 with (go_at_call 49; refine ko.mono ?_; rintro e w2 ⟨rfl, rfl⟩)
  go_cut [22] (fun v22 wx => v22 = .bool false ∧ Below w.heap.size w wx ∧ Box wx w.heap.size #[.int .i64 kind, .int .i64 fr, .int .i64 x.me, .int .i64 g, .slice pa m pc, .slice ea en ec, .bool yes] 40)
  case first =>
    go_region_with (go_at_call 50; refine (kc _).mono ?_; rintro e w2 ⟨rfl, hb2⟩; have hW := fin hb2 hb0.drew; have b2 := (Box.drew bM).later hb2)
    all_goals
      go_wp2
      go_meet
      case rel => exact ⟨rfl, hW, b2⟩
  case rest =>
    obtain ⟨rfl, hW, b2⟩ := hcut
    have ka2 := ka _ hW
    obtain ⟨r0, r1, r2, r3, r4, r5, r6⟩ := b2.cells7
    clear ka c0 kc ko d0 d0' bM hb0
    go_wp2_with (go_at_call 51; refine ka2.mono ?_; rintro e w3 ⟨rfl, fp3, x3, hR3, h3, hT3⟩)
    go_ret
    exact ⟨rfl, fp3, x3, hR3, h3, (Turn.of_below hW).trans hT3⟩
end

end Go.Proofs.YthneemgpifbehaaGreatDoor

/- A shard: messages to hold; a row of one pod. -/
namespace Go.Proofs.YthneemgpifbehaaGreatDoor
open Go.RowKit Go.Maps
set_option linter.unusedSimpArgs false
set_option linter.unusedVariables false

/-- A pod without marks. -/
def podV (s : ByteArray) (shard cpu mem : Int) : PodT := ⟨s, shard, cpu, mem, none, 0, [], none, 0, [], false⟩
theorem pods_one {w : World} {P : Nat} {s : ByteArray} {shard cpu mem : Int} (h : Box w P #[.string s, .int .i64 shard, .int .i64 cpu, .int .i64 mem, .slice none 0 0, .slice none 0 0, .bool false] 63) (hc : 0 ≤ cpu ∧ 0 ≤ mem) : Pods w (some ⟨P, 0, none⟩) [podV s shard cpu mem] := fun i p hp => by
  cases i with
  | zero =>
    obtain rfl : podV s shard cpu mem = p := by simpa using hp
    refine ⟨P, 0, rfl, ?_, strs_nil w, strs_nil w, fun s hs => by simp [podV] at hs, fun s hs => by simp [podV] at hs, hc⟩
    simp only [Nat.zero_mul, Nat.add_zero, Nat.zero_add]
    exact ⟨h.cell rfl, h.cell rfl, h.cell rfl, h.cell rfl, h.cell rfl, h.cell rfl, h.cell rfl⟩
  | succ i => simp at hp

section
variable {w : World} {S T : Nat} {fp : Nat → Prop} {x : ShS}

/-- Nothing is held, and it goes. -/
theorem qget_hold_yes (h : IsS w S T fp x) (hT : Tab w) (hG : x.G.length ≤ 100) (hU : x.U.length ≤ 100000) (fr : Int) (me : Int) (hme : x.me = me) (g : Nat) (g1 : 1 ≤ g) (g2 : g ≤ 999999) (hs : stateS x g = 0) (hgn : look x.G g = none) (pa : Option Addr) (m pc : Nat) (ps : List PodT) (hP : Pods w pa ps) (hpl : ps.length = m) (hm0 : 1 ≤ m) (hm8 : m ≤ 8) (hmc : m ≤ pc) (ea : Option Addr) (en ec : Nat) (yes : Bool)
    (he : sgangE g ps 4 = 0) (l : List Pl) (hl : layC x ps = some l) :
    Calls Tryz.prog 14 #[.pointer (some ⟨S, 0, none⟩), msgV 1 fr me g pa m pc ea en ec yes] w fun e w' => ∃ B, e = .returned (.slice (some ⟨B, 0, none⟩) 1 1) ∧ Box w' B #[.int .i64 2, .int .i64 me, .int .i64 fr, .int .i64 g, .slice none 0 0, .slice none 0 0, .bool true] 40 ∧ w.heap.size ≤ B ∧
      ∃ fp' x', (∃ a c, x' = setU (heldS x g a c l.reverse) g (.held 6)) ∧ IsS w' S T fp' x' ∧ ¬ fp' B ∧ Turn w w' fp fp' :=
  qget_yes h (fun x' => ∃ a c, x' = setU (heldS x g a c l.reverse) g (.held 6)) (fun x' ⟨a, c, e⟩ => by rw [e]; rfl) 2 (by decide) true 1 fr me hme g g1 g2 pa m pc ea en ec yes fun W hW =>
    qanswer_one (fun w' => ∃ fp' x', (∃ a c, x' = setU (heldS x g a c l.reverse) g (.held 6)) ∧ IsS w' S T fp' x' ∧ Turn W w' fp fp') 2 true fr me g pa m pc ea en ec yes <| by
      have hb0 := up (Below.refl W.heap.size W) (msgO 1 fr me g pa m pc ea en ec yes)
      have hWb := fin hb0 hW
      refine (qhold_yes (h.later hWb) (hT.later hWb) hG hU 1 fr me g g2 hs hgn pa m pc ps (hP.later hWb) hpl hm0 hm8 hmc ea en ec yes he l hl).mono ?_
      rintro e w' ⟨h1, fp', a, c, h2, h3⟩
      exact ⟨h1, fp', _, ⟨a, c, rfl⟩, h2, (Turn.of_below hb0).trans h3⟩
/-- Nothing is held, and it does not go. -/
theorem qget_hold_no (h : IsS w S T fp x) (hT : Tab w) (hG : x.G.length ≤ 100) (fr : Int) (me : Int) (hme : x.me = me) (g : Nat) (g1 : 1 ≤ g) (g2 : g ≤ 999999) (hs : stateS x g = 0) (hgn : look x.G g = none) (pa : Option Addr) (m pc : Nat) (ps : List PodT) (hP : Pods w pa ps) (hpl : ps.length = m) (hm0 : 1 ≤ m) (hm8 : m ≤ 8) (hmc : m ≤ pc) (ea : Option Addr) (en ec : Nat) (yes : Bool)
    (he : sgangE g ps 4 = 0) (hl : layC x ps = none) :
    Calls Tryz.prog 14 #[.pointer (some ⟨S, 0, none⟩), msgV 1 fr me g pa m pc ea en ec yes] w fun e w' => ∃ B, e = .returned (.slice (some ⟨B, 0, none⟩) 1 1) ∧ Box w' B #[.int .i64 2, .int .i64 me, .int .i64 fr, .int .i64 g, .slice none 0 0, .slice none 0 0, .bool false] 40 ∧ w.heap.size ≤ B ∧
      ∃ fp' x', x' = x ∧ IsS w' S T fp' x' ∧ ¬ fp' B ∧ Turn w w' fp fp' :=
  qget_yes h (fun x' => x' = x) (fun x' e => by rw [e]) 2 (by decide) false 1 fr me hme g g1 g2 pa m pc ea en ec yes fun W hW =>
    qanswer_one (fun w' => ∃ fp' x', x' = x ∧ IsS w' S T fp' x' ∧ Turn W w' fp fp') 2 false fr me g pa m pc ea en ec yes <| by
      have hb0 := up (Below.refl W.heap.size W) (msgO 1 fr me g pa m pc ea en ec yes)
      have hWb := fin hb0 hW
      refine (qhold_no (h.later hWb) (hT.later hWb) hG 1 fr me g g2 hs hgn pa m pc ps (hP.later hWb) hpl hm0 hm8 hmc ea en ec yes he hl).mono ?_
      rintro e w' ⟨h1, h2, h3⟩
      exact ⟨h1, fp, _, rfl, h2, (Turn.of_below hb0).trans h3⟩
/-- It is held: for longer. -/
theorem qget_hold_held (h : IsS w S T fp x) (hU : x.U.length ≤ 100000) (fr : Int) (me : Int) (hme : x.me = me) (g : Nat) (g1 : 1 ≤ g) (g2 : g ≤ 999999) (hs : stateS x g = 1) (pa : Option Addr) (m pc : Nat) (ea : Option Addr) (en ec : Nat) (yes : Bool) :
    Calls Tryz.prog 14 #[.pointer (some ⟨S, 0, none⟩), msgV 1 fr me g pa m pc ea en ec yes] w fun e w' => ∃ B, e = .returned (.slice (some ⟨B, 0, none⟩) 1 1) ∧ Box w' B #[.int .i64 2, .int .i64 me, .int .i64 fr, .int .i64 g, .slice none 0 0, .slice none 0 0, .bool true] 40 ∧ w.heap.size ≤ B ∧
      ∃ fp' x', x' = setU x g (.held 6) ∧ IsS w' S T fp' x' ∧ ¬ fp' B ∧ Turn w w' fp fp' :=
  qget_yes h (fun x' => x' = setU x g (.held 6)) (fun x' e => by rw [e]; rfl) 2 (by decide) true 1 fr me hme g g1 g2 pa m pc ea en ec yes fun W hW =>
    qanswer_one (fun w' => ∃ fp' x', x' = setU x g (.held 6) ∧ IsS w' S T fp' x' ∧ Turn W w' fp fp') 2 true fr me g pa m pc ea en ec yes <| by
      have hb0 := up (Below.refl W.heap.size W) (msgO 1 fr me g pa m pc ea en ec yes)
      have hWb := fin hb0 hW
      refine (qhold_held (h.later hWb) hU 1 fr me g g2 hs pa m pc ea en ec yes).mono ?_
      rintro e w' ⟨h1, fp', h2, h3⟩
      exact ⟨h1, fp', _, rfl, h2, (Turn.of_below hb0).trans h3⟩
end

end Go.Proofs.YthneemgpifbehaaGreatDoor
