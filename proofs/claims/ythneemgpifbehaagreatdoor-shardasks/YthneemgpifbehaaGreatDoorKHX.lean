/- A shard of one node: held, prepared, told. -/
import Derived.Test.YthneemgpifbehaaGreatDoorMg40
import Derived.Test.YthneemgpifbehaaGreatDoorKHT
import Derived.Test.YthneemgpifbehaaGreatDoorKHU
import Derived.Test.YthneemgpifbehaaGreatDoorKHW
namespace Go.Proofs.YthneemgpifbehaaGreatDoor
open Go.RowKit Go.Maps
set_option linter.unusedSimpArgs false
set_option linter.unusedVariables false

/-- The one place. -/
abbrev plA : Pl := ⟨pB, nB, 0, 0, false⟩
/-- What stays as it is: the numbers, the node, few lines. -/
structure AS (k : Nat) (x : ShS) : Prop where
  me : x.me = 1
  mode : x.mode = 0
  C : x.C = [nC 0 0]
  len : x.A.length + x.L.length ≤ k
/-- Held. -/
structure AH (x : ShS) : Prop where
  s : AS 1 x
  D : x.D = []
  U : x.U = [(3, .held 6)]
  G : ∃ a c, x.G = [(3, ⟨a, c, [plA]⟩)]
/-- Prepared. -/
structure AP (age : Int) (ea : Option Addr) (ec : Nat) (ps : List Nat) (x : ShS) : Prop where
  s : AS 2 x
  D : x.D = []
  U : x.U = [(3, .prep age ea ec ps)]
  G : ∃ a c, x.G = [(3, ⟨a, c, [plA]⟩)]
/-- Told. -/
structure AD (yes : Bool) (x : ShS) : Prop where
  s : AS 3 x
  D : x.D = [(3, if yes then 3 else 4)]
  U : x.U = []
  G : if yes then ∃ a c, x.G = [(3, ⟨a, c, [plA]⟩)] else x.G = []

theorem plA_apart : pApart (([plA] : List Pl).map plB) := fun i j p q hj hi _ => by
  have : i < 1 := (List.getElem?_eq_some_iff.1 hi).1
  omega
theorem plA_place : ∀ p ∈ ([plA] : List Pl).map plB, placeE p = 0 := by decide
theorem plA_few : ∀ p ∈ ([plA] : List Pl).map plB, FewP p := fun p hp => by
  obtain rfl := List.mem_singleton.1 hp
  exact ⟨by decide, by decide, by decide, by decide⟩
theorem AH.state {x : ShS} (h : AH x) : stateS x 3 = 1 := by
  unfold stateS; rw [h.U, h.D]; rfl
theorem AP.state {age : Int} {ea : Option Addr} {ec : Nat} {ps : List Nat} {x : ShS} (h : AP age ea ec ps x) : stateS x 3 = 2 := by
  unfold stateS; rw [h.U, h.D]; rfl
theorem AD.state {yes : Bool} {x : ShS} (h : AD yes x) : stateS x 3 = if yes then 3 else 4 := by
  unfold stateS; rw [h.U, h.D]; cases yes <;> rfl

section
variable {B : Nat} {w0 w : World} {S T : Nat} {l : List (Nat × Array Value × TypeId)} {x : ShS} {fp : Nat → Prop}

set_option maxRecDepth 100000 in
set_option maxHeartbeats 4000000 in
theorem ask_hold {P : Nat} (h : Site B w0 S T l (oneS 1 0 0 0) fp w) (hP : Box w P #[.string pB, .int .i64 1, .int .i64 0, .int .i64 0, .slice none 0 0, .slice none 0 0, .bool false] 63) :
    Calls Tryz.prog 14 #[.pointer (some ⟨S, 0, none⟩), .agg #[.int .i64 1, .int .i64 0, .int .i64 1, .int .i64 3, .slice (some ⟨P, 0, none⟩) 1 1, .slice none 0 0, .bool false]] w fun e w' => ∃ R, e = .returned (.slice (some ⟨R, 0, none⟩) 1 1) ∧ ∃ fp' x', Site B w0 S T l x' fp' w' ∧ AH x' := by
  have e3 : ((3 : Nat) : Int) = 3 := rfl
  have kg := qget_hold_yes h.s h.base.t (by decide) (by decide) 0 1 rfl 3 (by decide) (by decide) (by decide) (by decide) (some ⟨P, 0, none⟩) 1 1 [podV pB 1 0 0] (pods_one hP (by decide)) rfl (by decide) (by decide) (by decide) none 0 0 false (gang_one 3 (by decide) (by decide) 0 0 (by decide) (by decide)) [plA] (lay_one rfl pB 0 0 (by decide) (by decide))
  simp only [e3] at kg
  refine kg.mono ?_
  rintro e w' ⟨R, he, bR, _, fp', x', ⟨a, c, hx⟩, hs, _, hT⟩
  refine ⟨R, he, fp', x', h.turn hs hT, ?_⟩
  rw [hx]
  exact ⟨⟨rfl, rfl, rfl, by simp [setU, heldS, oneS]⟩, rfl, rfl, a, c, rfl⟩

set_option maxRecDepth 100000 in
set_option maxHeartbeats 4000000 in
theorem ask_prep (h : Site B w0 S T l x fp w) (hA : AH x) (ea : Option Addr) (en ec : Nat) (ps : List Nat) (hN : Nats w ea ps) (en' : ps.length = en) (hn0 : 0 < en) (hn4 : en ≤ 4) (hr : riseB 0 ps = true) (hp4 : ∀ p ∈ ps, p ≤ 4) (hsp : SP ea) (hfe : ∀ y, ea = some y → y.block < w.heap.size ∧ ¬ fp y.block) :
    Calls Tryz.prog 14 #[.pointer (some ⟨S, 0, none⟩), .agg #[.int .i64 3, .int .i64 0, .int .i64 1, .int .i64 3, .slice none 0 0, .slice ea en ec, .bool false]] w fun e w' => ∃ R, e = .returned (.slice (some ⟨R, 0, none⟩) 1 1) ∧ Box w' R #[.int .i64 4, .int .i64 1, .int .i64 0, .int .i64 3, .slice none 0 0, .slice none 0 0, .bool true] 40 ∧ ∃ fp' x', Site B w0 S T l x' fp' w' ∧ ¬ fp' R ∧ (∃ a c, AP 0 a c ps x') ∧ Turn w w' fp fp' := by
  have e3 : ((3 : Nat) : Int) = 3 := rfl
  have hst := hA.state
  obtain ⟨⟨h1, h2, h3, h4⟩, h5, h6, a, c, h7⟩ := hA
  have kg := qget_yes h.s (fun x' => ∃ a c, x' = prepS x 3 a c ps [plA]) (fun x' ⟨a, c, e⟩ => by rw [e]; rfl) 4 (by decide) true 3 0 1 h1 3 (by decide) (by decide) none 0 0 ea en ec false fun W hW =>
    qanswer_three (fun w' => ∃ fp' x', (∃ a c, x' = prepS x 3 a c ps [plA]) ∧ IsS w' S T fp' x' ∧ Turn W w' fp fp') 4 true 0 1 3 none 0 0 ea en ec false <| by
      have hb0 := up (Below.refl W.heap.size W) (msgO 3 0 1 3 none 0 0 ea en ec false)
      have hWb := fin hb0 hW
      refine (qprepare_held B ((h.base.later hW).later hb0) (h.s.later hWb) h.low 3 0 1 3 (by decide) (by decide) hst (by rw [h6]; decide) (by rw [h7]; simp) (by omega) none 0 0 ea en ec false ps
        ((hN.frame fun y hy _ => hW.block _ (hfe y hy).1).frame fun y hy _ => hb0.block _ (Nat.lt_of_lt_of_le (hfe y hy).1 hW.size)) en' hn0 hn4 hr hp4 hsp (fun y hy => ⟨Nat.lt_of_lt_of_le (hfe y hy).1 hWb.size, (hfe y hy).2⟩) [plA] ⟨a, c, [plA]⟩ (by rw [h7]; rfl) rfl (by decide) (by decide) (by decide) plA_apart plA_place plA_few).mono ?_
      rintro e w' ⟨he, fp', a', c', h8, h9⟩
      exact ⟨he, fp', _, ⟨a', c', rfl⟩, h8, (Turn.of_below hb0).trans h9⟩
  simp only [e3] at kg
  refine kg.mono ?_
  rintro e w' ⟨R, he, bR, _, fp', x', ⟨a', c', hx⟩, hs, hn, hT⟩
  refine ⟨R, he, bR, fp', x', h.turn hs hT, hn, ⟨a', c', ?_⟩, hT⟩
  rw [hx]
  exact ⟨⟨h1, h2, h3, by simp [prepS, setU, recS]; omega⟩, h5, by simp only [prepS, setU, recS, h6]; rfl, a, c, h7⟩

theorem AP.set {age : Int} {ea : Option Addr} {ec : Nat} {ps : List Nat} {x : ShS} (h : AP age ea ec ps x) (n : Int) : AP n ea ec ps (setU x 3 (.prep n ea ec ps)) :=
  ⟨⟨h.s.me, h.s.mode, h.s.C, h.s.len⟩, h.D, by simp only [setU, h.U]; rfl, h.G⟩

theorem ask_tick_few {age : Int} {ea : Option Addr} {ec : Nat} {ps : List Nat} (h : Site B w0 S T l x fp w) (hA : AP age ea ec ps x) (h0 : 0 ≤ age) (h3 : age < 3) :
    Calls Tryz.prog 27 #[.pointer (some ⟨S, 0, none⟩)] w fun e w' => e = .returned (.slice none 0 0) ∧ ∃ fp' x', Site B w0 S T l x' fp' w' ∧ AP (age + 1) ea ec ps x' := by
  refine (qtick_prep_few h.s 3 age (wfN 3 (by decide)) h0 h3 ea ec ps hA.U).mono ?_
  rintro e w' ⟨he, fp', hs, hT⟩
  exact ⟨he, fp', _, h.turn hs hT, hA.set _⟩

theorem ask_tick_many {age : Int} {ea : Option Addr} {ec : Nat} {ps : List Nat} (h : Site B w0 S T l x fp w) (hA : AP age ea ec ps x) (h0 : age ≤ 100000) (h3 : 3 ≤ age) :
    Calls Tryz.prog 27 #[.pointer (some ⟨S, 0, none⟩)] w fun e w' => ∃ v, e = .returned v ∧ w'.ownsRow w.heap.size 40 7 v ((askTo 1 ps).length + 1) (asksC 1 3 ps) ∧ ∃ fp' x', Site B w0 S T l x' fp' w' ∧ AP (age + 1) ea ec ps x' := by
  refine (qtick_prep_asks h.s 1 hA.s.me 3 age (wfN 3 (by decide)) h0 h3 ea ec ps hA.U).mono ?_
  rintro e w' ⟨v, he, hv, fp', hs, hT⟩
  exact ⟨v, he, hv, fp', _, h.turn hs hT, hA.set _⟩

set_option maxRecDepth 100000 in
set_option maxHeartbeats 4000000 in
theorem ask_tell {age : Int} {ea : Option Addr} {ec : Nat} {ps : List Nat} (h : Site B w0 S T l x fp w) (hA : AP age ea ec ps x) (yes : Bool) :
    Calls Tryz.prog 14 #[.pointer (some ⟨S, 0, none⟩), .agg #[.int .i64 8, .int .i64 2, .int .i64 1, .int .i64 3, .slice none 0 0, .slice none 0 0, .bool yes]] w fun e w' => e = .returned (.slice none 0 0) ∧ ∃ fp' x', Site B w0 S T l x' fp' w' ∧ AD yes x' := by
  have e3 : ((3 : Nat) : Int) = 3 := rfl
  have hst := hA.state
  obtain ⟨⟨h1, h2, h3, h4⟩, h5, h6, a, c, h7⟩ := hA
  have kg := qget_no h.s (fun x' => x' = hearS x 3 2 yes) false 8 2 1 h1 3 (by decide) (by decide) none 0 0 none 0 0 yes fun W hW =>
    qanswer_eight_yes (fun w' => ∃ fp' x', x' = hearS x 3 2 yes ∧ IsS w' S T fp' x' ∧ Turn W w' fp fp') (hearK 2 yes) false (h.s.later hW) 2 1 3 (by decide) hst none 0 0 none 0 0 yes <| by
      have hb0 := up (Below.refl W.heap.size W) (msgO 8 2 1 3 none 0 0 none 0 0 yes)
      have hWb := fin hb0 hW
      refine (qhear_any B ((h.base.later hW).later hb0) (h.s.later hWb) 8 2 1 3 (by decide) (by decide) (by omega) (by rw [h5]; decide) (by rw [h7]; simp) 2 hst (.inr (.inr (.inl rfl))) none 0 0 none 0 0 yes).mono ?_
      rintro e w' ⟨he, fp', h8, h9⟩
      exact ⟨he, fp', _, rfl, h8, (Turn.of_below hb0).trans h9⟩
  try simp only [e3] at kg
  refine kg.mono ?_
  rintro e w' ⟨he, fp', x', hx, hs, hT⟩
  refine ⟨he, fp', x', h.turn hs hT, ?_⟩
  rw [hx]
  cases yes
  · refine ⟨⟨h1, h2, h3, ?_⟩, ?_, ?_, ?_⟩
    · simp [hearS, abortS, actS, recS, decS, giveS]; omega
    · simp only [hearS, abortS, actS, recS, decS, giveS, h5]; rfl
    · simp only [hearS, abortS, actS, recS, decS, giveS, h6]; rfl
    · simp only [hearS, abortS, actS, recS, decS, giveS, h7]; rfl
  · refine ⟨⟨h1, h2, h3, ?_⟩, ?_, ?_, ?_⟩
    · simp [hearS, commitS, actS, recS, decS]; omega
    · simp only [hearS, commitS, actS, recS, decS, h5]; rfl
    · simp only [hearS, commitS, actS, recS, decS, h6]; rfl
    · exact ⟨a, c, h7⟩
end

end Go.Proofs.YthneemgpifbehaaGreatDoor
