/- A shard: prepare. -/
import Derived.Test.YthneemgpifbehaaGreatDoorKHS
namespace Go.Proofs.YthneemgpifbehaaGreatDoor
open Go.RowKit Go.Maps
set_option linter.unusedSimpArgs false
set_option linter.unusedVariables false

theorem far_set {W : World} {B o b : Nat} {v : Value} (h : W.cell? ⟨B, o, none⟩ = some v) (hne : B ≠ b) (i : Nat) (z : Value) : (W.setCell ⟨b, i, none⟩ z).cell? ⟨B, o, none⟩ = some v := by
  rw [World.cell?_of_block (show (W.setCell ⟨b, i, none⟩ z).heap[B]? = W.heap[B]? from Below.heap_setCell _ _ _ _ hne)]
  exact h

/-- The record of what is prepared. -/
def recP (g : Nat) (ps : List Nat) (qs : List Pl) : ByteArray := ⟨(vb 3 ++ (numT 32 g ++ (peersT 32 ps ++ placesT (qs.map plB)))).toArray⟩
/-- It is prepared. -/
def prepS (x : ShS) (g : Nat) (a : Option Addr) (c : Nat) (ps : List Nat) (qs : List Pl) : ShS := setU (recS x (recP g ps qs) true) g (.prep 0 a c ps)

section
variable {w : World} {S T : Nat} {fp : Nat → Prop} {x : ShS}

set_option maxRecDepth 100000 in
set_option maxHeartbeats 4000000 in
/-- Nothing is held, or it is aborted. -/
theorem qprepare_no (h : IsS w S T fp x) (kind fr tt : Int) (g : Nat) (g2 : g ≤ 999999) (s : Int) (hs : stateS x g = s) (h6 : s = 0 ∨ s = 4) (pa : Option Addr) (m pc : Nat) (ea : Option Addr) (en ec : Nat) (yes : Bool) :
    Calls Tryz.prog 105 #[.pointer (some ⟨S, 0, none⟩), msgV kind fr tt g pa m pc ea en ec yes] w fun e w' => e = .returned (.tuple #[.int .i64 4, .bool false]) ∧ Below w.heap.size w w' := by
  have hb0 := up (Below.refl w.heap.size w) (msgO kind fr tt g pa m pc ea en ec yes)
  have ks := qstate_any (h.later hb0) g (wfN g g2)
  rw [hs] at ks
  clear h hs
  rcases h6 with rfl | rfl
  all_goals
    go_enter Tryz.func105, Tryz.ntmps105
    go_wp2_with (go_at_call 16; refine ks.mono ?_; rintro e w2 ⟨rfl, rfl⟩)
    go_ret2
    exact ⟨rfl, hb0⟩

set_option maxRecDepth 100000 in
set_option maxHeartbeats 4000000 in
/-- It is prepared, bound, or freed by now. -/
theorem qprepare_yes (h : IsS w S T fp x) (kind fr tt : Int) (g : Nat) (g2 : g ≤ 999999) (s : Int) (hs : stateS x g = s) (h6 : s = 2 ∨ s = 3 ∨ s = 5) (pa : Option Addr) (m pc : Nat) (ea : Option Addr) (en ec : Nat) (yes : Bool) :
    Calls Tryz.prog 105 #[.pointer (some ⟨S, 0, none⟩), msgV kind fr tt g pa m pc ea en ec yes] w fun e w' => e = .returned (.tuple #[.int .i64 4, .bool true]) ∧ Below w.heap.size w w' := by
  have hb0 := up (Below.refl w.heap.size w) (msgO kind fr tt g pa m pc ea en ec yes)
  have ks := qstate_any (h.later hb0) g (wfN g g2)
  rw [hs] at ks
  clear h hs
  rcases h6 with rfl | rfl | rfl
  all_goals
    go_enter Tryz.func105, Tryz.ntmps105
    go_wp2_with (go_at_call 16; refine ks.mono ?_; rintro e w2 ⟨rfl, rfl⟩)
    go_ret2
    exact ⟨rfl, hb0⟩

set_option maxRecDepth 100000 in
/-- Ten stores fill a record anew. -/
theorem rec_ten {w W : World} {N n0 : Nat} {t : TypeId} {a0 a1 a2 a3 a4 a5 a6 a7 a8 a9 : Value} (b : Box W N #[a0, a1, a2, a3, a4, a5, a6, a7, a8, a9] t) (hN : n0 ≤ N) (hW : Below n0 w W) {qa : Option Addr} {qs : List Pl} (hP : Pls W qa qs) (hn : ∀ y, qa = some y → N < y.block ∧ y.block < W.heap.size) (v0 v1 v2 v3 v4 v5 v6 v7 v8 v9 : Value) :
    Box ((((((((((W.setCell ⟨N, 0, none⟩ v0).setCell ⟨N, 1, none⟩ v1).setCell ⟨N, 2, none⟩ v2).setCell ⟨N, 3, none⟩ v3).setCell ⟨N, 4, none⟩ v4).setCell ⟨N, 5, none⟩ v5).setCell ⟨N, 6, none⟩ v6).setCell ⟨N, 7, none⟩ v7).setCell ⟨N, 8, none⟩ v8).setCell ⟨N, 9, none⟩ v9) N #[v0, v1, v2, v3, v4, v5, v6, v7, v8, v9] t
    ∧ Pls ((((((((((W.setCell ⟨N, 0, none⟩ v0).setCell ⟨N, 1, none⟩ v1).setCell ⟨N, 2, none⟩ v2).setCell ⟨N, 3, none⟩ v3).setCell ⟨N, 4, none⟩ v4).setCell ⟨N, 5, none⟩ v5).setCell ⟨N, 6, none⟩ v6).setCell ⟨N, 7, none⟩ v7).setCell ⟨N, 8, none⟩ v8).setCell ⟨N, 9, none⟩ v9) qa qs
    ∧ (∀ y, qa = some y → n0 ≤ y.block ∧ y.block < ((((((((((W.setCell ⟨N, 0, none⟩ v0).setCell ⟨N, 1, none⟩ v1).setCell ⟨N, 2, none⟩ v2).setCell ⟨N, 3, none⟩ v3).setCell ⟨N, 4, none⟩ v4).setCell ⟨N, 5, none⟩ v5).setCell ⟨N, 6, none⟩ v6).setCell ⟨N, 7, none⟩ v7).setCell ⟨N, 8, none⟩ v8).setCell ⟨N, 9, none⟩ v9).heap.size)
    ∧ Below n0 w ((((((((((W.setCell ⟨N, 0, none⟩ v0).setCell ⟨N, 1, none⟩ v1).setCell ⟨N, 2, none⟩ v2).setCell ⟨N, 3, none⟩ v3).setCell ⟨N, 4, none⟩ v4).setCell ⟨N, 5, none⟩ v5).setCell ⟨N, 6, none⟩ v6).setCell ⟨N, 7, none⟩ v7).setCell ⟨N, 8, none⟩ v8).setCell ⟨N, 9, none⟩ v9) := by
  have c0 : Box _ N #[v0, a1, a2, a3, a4, a5, a6, a7, a8, a9] t := b.set 0 v0
  have c1 : Box _ N #[v0, v1, a2, a3, a4, a5, a6, a7, a8, a9] t := c0.set 1 v1
  have c2 : Box _ N #[v0, v1, v2, a3, a4, a5, a6, a7, a8, a9] t := c1.set 2 v2
  have c3 : Box _ N #[v0, v1, v2, v3, a4, a5, a6, a7, a8, a9] t := c2.set 3 v3
  have c4 : Box _ N #[v0, v1, v2, v3, v4, a5, a6, a7, a8, a9] t := c3.set 4 v4
  have c5 : Box _ N #[v0, v1, v2, v3, v4, v5, a6, a7, a8, a9] t := c4.set 5 v5
  have c6 : Box _ N #[v0, v1, v2, v3, v4, v5, v6, a7, a8, a9] t := c5.set 6 v6
  have c7 : Box _ N #[v0, v1, v2, v3, v4, v5, v6, v7, a8, a9] t := c6.set 7 v7
  have c8 : Box _ N #[v0, v1, v2, v3, v4, v5, v6, v7, v8, a9] t := c7.set 8 v8
  have c9 : Box _ N #[v0, v1, v2, v3, v4, v5, v6, v7, v8, v9] t := c8.set 9 v9
  refine ⟨c9, hP.frame fun y hy _ => ?_, fun y hy => ⟨by have := (hn y hy).1; omega, by simpa using (hn y hy).2⟩, ?_⟩
  · have hne : y.block ≠ N := by have := (hn y hy).1; omega
    rw [RowKit.Below.heap_setCell _ _ _ _ hne, RowKit.Below.heap_setCell _ _ _ _ hne, RowKit.Below.heap_setCell _ _ _ _ hne, RowKit.Below.heap_setCell _ _ _ _ hne, RowKit.Below.heap_setCell _ _ _ _ hne, RowKit.Below.heap_setCell _ _ _ _ hne, RowKit.Below.heap_setCell _ _ _ _ hne, RowKit.Below.heap_setCell _ _ _ _ hne, RowKit.Below.heap_setCell _ _ _ _ hne, RowKit.Below.heap_setCell _ _ _ _ hne]
  · have k : ∀ (V : World) (j : Nat) (v : Value), Below n0 w V → Below n0 w (V.setCell ⟨N, j, none⟩ v) := fun V j v h => h.setCell (p := ⟨N, j, none⟩) hN v
    exact k _ _ _ (k _ _ _ (k _ _ _ (k _ _ _ (k _ _ _ (k _ _ _ (k _ _ _ (k _ _ _ (k _ _ _ (k _ _ _ hW)))))))))
set_option maxHeartbeats 40000000 in
/-- It is held. -/
theorem qprepare_held (B : Nat) (hB : Base B w) (h : IsS w S T fp x) (hlow : ∀ b, fp b → B ≤ b) (kind fr tt : Int) (g : Nat) (g1 : 1 ≤ g) (g2 : g ≤ 999999) (hs : stateS x g = 1) (hU : x.U.length ≤ 100000) (hG : x.G.length ≤ 1000) (hl : x.A.length + x.L.length < 999980)
    (pa : Option Addr) (m pc : Nat) (ea : Option Addr) (en ec : Nat) (yes : Bool) (ps : List Nat) (hN : Nats w ea ps) (en' : ps.length = en) (hn0 : 0 < en) (hn4 : en ≤ 4) (hr : riseB 0 ps = true) (hp4 : ∀ p ∈ ps, p ≤ 4) (hsp : SP ea) (hfe : ∀ y, ea = some y → y.block < w.heap.size ∧ ¬ fp y.block)
    (qs : List Pl) (r0 : Grp) (hgs : look x.G g = some r0) (hqs : r0.ps = qs) (q1 : 1 ≤ qs.length) (q8 : qs.length ≤ 8) (hq : ∀ q ∈ qs, 0 ≤ q.cpu ∧ 0 ≤ q.mem) (hqa : pApart (qs.map plB)) (hqe : ∀ p ∈ qs.map plB, placeE p = 0) (hqf : ∀ p ∈ qs.map plB, FewP p) :
    Calls Tryz.prog 105 #[.pointer (some ⟨S, 0, none⟩), msgV kind fr tt g pa m pc ea en ec yes] w fun e w' => e = .returned (.tuple #[.int .i64 4, .bool true]) ∧ ∃ fp' a' c', IsS w' S T fp' (prepS x g a' c' ps qs) ∧ Turn w w' fp fp' := by
  have hb0 := up (Below.refl w.heap.size w) (msgO kind fr tt g pa m pc ea en ec yes)
  have bM := Box.new w #[.int .i64 kind, .int .i64 fr, .int .i64 tt, .int .i64 g, .slice pa m pc, .slice ea en ec, .bool yes] 40 rfl
  have ks := qstate_any (h.later hb0) g (wfN g g2)
  rw [hs] at ks
  obtain ⟨qn, hqn⟩ : ∃ n, qs.length = n := ⟨_, rfl⟩
  have hgn : look x.G g ≠ none := by rw [hgs]; simp
  have hqz : ∀ p ∈ qs, p.node.size ≤ maxLen := fun p hp => by
    have := (hqf _ (List.mem_map.2 ⟨p, hp, rfl⟩)).2.1
    have e : (plB p).node = p.node := rfl
    rw [e] at this
    unfold maxLen; omega
  have hpk : ((look x.G g).getD zgrp).ps = qs := by rw [hgs]; exact hqs
  -- what is written, wherever the rows are
  have kc : ∀ (W : World) (qa : Option Addr) (qc : Nat), Nats W ea ps → Pls W qa qs → qn ≤ qc → Calls Tryz.prog 50 #[.agg #[.int .i64 3, .int .i64 g, .slice ea en ec, .slice qa qn qc, .string ⟨#[]⟩, .int .i64 0, .int .i64 0, .slice none 0 0, .slice none 0 0, .bool false]] W fun e W' => e = .returned (.int .i64 0) ∧ Below W.heap.size W W' := fun W qa qc hN hP hqc =>
    check_three g ea qa en ec qn qc ps (qs.map plB) W g1 g2 hN en' hn0 (by omega) hr (pls_b hP hq) (by simp [hqn]) (by omega) (by omega) hqc hqa hqe
  have kt : ∀ (W : World) (qa : Option Addr) (qc : Nat), Nats W ea ps → Pls W qa qs → Low W.heap.size ea → Low W.heap.size qa → TabB W.heap.size W → Calls Tryz.prog 59 #[.agg #[.int .i64 3, .int .i64 g, .slice ea en ec, .slice qa qn qc, .string ⟨#[]⟩, .int .i64 0, .int .i64 0, .slice none 0 0, .slice none 0 0, .bool false]] W fun e W' => e = .returned (.string (recP g ps qs)) ∧ Below W.heap.size W W' := fun W qa qc hN hP la lq hT =>
    text_three g ea qa en ec qn qc ps (qs.map plB) W g2 hN en' (by omega) la (fun p hp => by have := hp4 p hp; omega) (pls_b hP hq) (by simp [hqn]) (by omega) lq hqf hT
  obtain ⟨Lg, u, d, v, col, rfl, h⟩ := h
  have hP1 := h.later hb0.drew
  have c3 := hP1.c3
  have c3' := (h.later hb0).c3
  have kpl : ∀ W, Below w.heap.size w W → Calls Tryz.prog 68 #[.pointer (some ⟨Lg, 0, none⟩), .int .i64 g] W fun e w' => ∃ a c, e = .returned (.slice a qn c) ∧ Pls w' a qs ∧ SP a ∧ (∀ x, a = some x → W.heap.size ≤ x.block ∧ x.block < w'.heap.size) ∧ qn ≤ c ∧ Below w.heap.size w w' ∧ Below W.heap.size W w' := fun W hW => by
    obtain ⟨E, hE, _⟩ := (h.later hW).led
    refine (placesL _ Lg _ E x.G hE g (wfN g g2) qs qn hpk hqn).mono ?_
    rintro e w' ⟨a, c, h1, h2, h3, h4, h5, h6⟩
    exact ⟨a, c, h1, h2, h3, h4, h5, fin h6 hW, h6⟩
  have hz0 : (w.alloc (msgO kind fr tt g pa m pc ea en ec yes)).drew.heap.size = w.heap.size + 1 := by simp [World.drew]
  obtain ⟨m0, m1, m2, m3, m4, m5, m6⟩ := bM.cells7
  have m3d : (w.alloc (msgO kind fr tt g pa m pc ea en ec yes)).drew.cell? ⟨w.heap.size, 3, none⟩ = some (.int .i64 g) := m3
  have m5d : (w.alloc (msgO kind fr tt g pa m pc ea en ec yes)).drew.cell? ⟨w.heap.size, 5, none⟩ = some (.slice ea en ec) := m5
  have hb0d := hb0.drew
  have hbz := up hb0 (.cells #[.int .i64 0, .int .i64 0, .slice none 0 0, .slice none 0 0, .string ⟨#[]⟩, .int .i64 0, .int .i64 0, .slice none 0 0, .slice none 0 0, .bool false] 57)
  have bZ := Box.new (w.alloc (msgO kind fr tt g pa m pc ea en ec yes)) #[.int .i64 0, .int .i64 0, .slice none 0 0, .slice none 0 0, .string ⟨#[]⟩, .int .i64 0, .int .i64 0, .slice none 0 0, .slice none 0 0, .bool false] 57 (B := w.heap.size + 1) (by simp)
  have hbzd := hbz.drew
  have hSl := block_lt c3'
  have nw0 := World.new_ne _ _ c3'
  have nw1 := World.new_ne _ _ m3
  have nw2 := World.new_ne _ _ m5
  have hneS : S ≠ w.heap.size + 1 := by simp at hSl; omega
  have hneM : w.heap.size ≠ w.heap.size + 1 := by omega
  have cW := fun W (hW : Below w.heap.size w W) => (h.later hW).c3
  clear hP1 hgs hqs hpk hs
  go_enter Tryz.func105, Tryz.ntmps105
  go_upto_region 6 with (go_at_call 16; refine ks.mono ?_; rintro e w2 ⟨rfl, rfl⟩)
  go_cut [6] (fun v6 wx => ∃ (R : Nat) (qa : Option Addr) (qc : Nat), v6 = .pointer (some ⟨R, 0, none⟩) ∧ Box wx R #[.int .i64 3, .int .i64 g, .slice ea en ec, .slice qa qn qc, .string ⟨#[]⟩, .int .i64 0, .int .i64 0, .slice none 0 0, .slice none 0 0, .bool false] 57 ∧ Pls wx qa qs ∧ SP qa ∧ (∀ y, qa = some y → w.heap.size ≤ y.block ∧ y.block < wx.heap.size) ∧ qn ≤ qc ∧ Below w.heap.size w wx ∧ w.heap.size ≤ R)
  case first =>
    go_region_held3 (fun w' => w'.cell? ⟨S, 3, none⟩ = some (.pointer (some ⟨Lg, 0, none⟩)) ∧ w'.cell? ⟨w.heap.size, 3, none⟩ = some (.int .i64 g) ∧ w'.cell? ⟨w.heap.size, 5, none⟩ = some (.slice ea en ec))
      (refine ⟨?_, ?_, ?_⟩ <;> (first | with_reducible assumption | (with_reducible (iterate 10 (refine far_set ?_ (by assumption) _ _)); with_reducible assumption) | go_keep))
      (first
        | (go_at_call 68; with_reducible refine (kpl _ hb0d).mono ?_; rintro e w3 ⟨qa, qc, rfl, hP3, hsp3, hn3, hc3, hW3, hb3⟩; have hz33 := hb3.size; rw [hz0] at hz33; have hneS3' := hz33; have hneS3 : S ≠ w3.heap.size := (by simp at hSl; omega); have hneM3 : w.heap.size ≠ w3.heap.size := (by omega); have g3 := cell_below hb3 (by with_reducible assumption : _ = some (.pointer (some ⟨Lg, 0, none⟩))) (block_lt (by with_reducible assumption : _ = some (.pointer (some ⟨Lg, 0, none⟩)))); have n3 := cell_below hb3 (by with_reducible assumption : _ = some (.int .i64 g)) (block_lt (by with_reducible assumption : _ = some (.int .i64 g))); have n5 := cell_below hb3 (by with_reducible assumption : _ = some (.slice ea en ec)) (block_lt (by with_reducible assumption : _ = some (.slice ea en ec))); have nx0 := World.new_ne _ _ g3; have nx1 := World.new_ne _ _ n3; have nx2 := World.new_ne _ _ n5)
        | (go_at_call 68; with_reducible refine (kpl _ hbz.drew).mono ?_; rintro e w3 ⟨qa, qc, rfl, hP3, hsp3, hn3, hc3, hW3, hb3⟩; have g3 : w3.cell? ⟨S, 3, none⟩ = some (.pointer (some ⟨Lg, 0, none⟩)) := cW _ hW3; have n3 := ((Box.drew (bM.up _)).later hb3).cell (i := 3) (v := .int .i64 g) rfl; have n5 := ((Box.drew (bM.up _)).later hb3).cell (i := 5) (v := .slice ea en ec) rfl; have bZ3 := (Box.drew bZ).later hb3; obtain ⟨z0, z1, z2, z3, z4, z5, z6, z7, z8, z9⟩ := RecBox.cells bZ3; have zf := bZ3.frozen)
        | fail)
    · go_wp2
      go_meet
      case rel =>
        have hba := up (Below.refl w3.heap.size w3) (.cells #[.int .i64 3, .int .i64 g, .slice ea en ec, .slice qa qn qc, .string ⟨#[]⟩, .int .i64 0, .int .i64 0, .slice none 0 0, .slice none 0 0, .bool false] 57)
        exact ⟨w3.heap.size, qa, qc, rfl, Box.new w3 _ 57 rfl, hP3.later hba, hsp3, fun y hy => ⟨Nat.le_trans (by rw [hz0]; omega) (hn3 y hy).1, Nat.lt_of_lt_of_le (hn3 y hy).2 hba.size⟩, hc3, fin hba hW3, hW3.size⟩
    · go_wp2
      go_meet
      case rel =>
        have z := rec_ten (n0 := w.heap.size) bZ3 (by omega) hW3 hP3 (fun y hy => ⟨by have := (hn3 y hy).1; simp [World.drew] at this; omega, (hn3 y hy).2⟩) (.int .i64 3) (.int .i64 g) (.slice ea en ec) (.slice qa qn qc) (.string ⟨#[]⟩) (.int .i64 0) (.int .i64 0) (.slice none 0 0) (.slice none 0 0) (.bool false)
        exact ⟨w.heap.size + 1, qa, qc, rfl, z.1, z.2.1, hsp3, z.2.2.1, hc3, z.2.2.2, by omega⟩
  case rest =>
    obtain ⟨R, qa, qc, rfl, bR, hPq, hspq, hnq, hcq, hbw, hRz⟩ := hcut
    have hN3 : Nats wc ea ps := hN.frame fun y hy _ => hbw.block _ (hfe y hy).1
    have hS3 := h.later hbw
    have hB3 := hB.later hbw
    have hnR : ¬ inC col R := fun hc => by have := h.lt _ hc; omega
    have hnq' : ∀ y, qa = some y → ¬ inC col y.block := fun y hy hc => by have := h.lt _ hc; have := (hnq y hy).1; omega
    have la : Low wc.heap.size ea := fun y hy => Nat.lt_of_lt_of_le (hfe y hy).1 hbw.size
    have lq : Low wc.heap.size qa := fun y hy => (hnq y hy).2
    have kc3 := kc wc qa qc hN3 hPq hcq
    have kr : ∀ W, Below wc.heap.size wc W → Calls Tryz.prog 61 #[.pointer (some ⟨S, 0, none⟩), .agg #[.int .i64 3, .int .i64 g, .slice ea en ec, .slice qa qn qc, .string ⟨#[]⟩, .int .i64 0, .int .i64 0, .slice none 0 0, .slice none 0 0, .bool false], .bool true] W fun e w' => e = .returned (.tuple #[]) ∧ ∃ fp', IsS w' S T fp' (recS x (recP g ps qs) true) ∧ Turn W w' (inC col) fp' := fun W hW =>
      qrecord_any ⟨Lg, u, d, v, col, rfl, hS3.later hW⟩ hl _ _ _ _ _ _ _ _ _ _ (recP g ps qs) true
        (fun W' hW' => kc W' qa qc ((hN3.frame fun y hy _ => hW.block _ (la y hy)).frame fun y hy _ => hW'.block _ (Nat.lt_of_lt_of_le (la y hy) hW.size)) ((hPq.later hW).later hW') hcq)
        (fun W' hW' => kt W' qa qc ((hN3.frame fun y hy _ => hW.block _ (la y hy)).frame fun y hy _ => hW'.block _ (Nat.lt_of_lt_of_le (la y hy) hW.size)) ((hPq.later hW).later hW') (fun y hy => Nat.lt_of_lt_of_le (la y hy) (Nat.le_trans hW.size hW'.size)) (fun y hy => Nat.lt_of_lt_of_le (lq y hy) (Nat.le_trans hW.size hW'.size)) ((hB3.later hW).later hW').top)
    have kf : ∀ (W W2 : World) (fp2 : Nat → Prop), Below wc.heap.size wc W → IsS W2 S T fp2 (recS x (recP g ps qs) true) → Turn W W2 (inC col) fp2 → Calls Tryz.prog 55 #[.pointer (some ⟨S, 0, none⟩), .agg #[.int .i64 3, .int .i64 g, .slice ea en ec, .slice qa qn qc, .string ⟨#[]⟩, .int .i64 0, .int .i64 0, .slice none 0 0, .slice none 0 0, .bool false]] W2 fun e w' => e = .returned (.tuple #[]) ∧ ∃ fp' a' c', IsS w' S T fp' (prepS x g a' c' ps qs) ∧ Turn W2 w' fp2 fp' := fun W W2 fp2 hW h2 hT => by
      have hz := Nat.le_trans hW.size hT.kept.size
      have off : ∀ b, b < wc.heap.size → ¬ inC col b → ¬ fp2 b := fun b hb hn hc => by
        rcases hT.new b hc with e | e
        · exact hn e
        · have := hW.size; omega
      exact qfollow_three h2 g g2 hgn hU hG ea en ec ps ((hN3.frame fun y hy _ => hW.block _ (la y hy)).frame fun y hy _ => hT.kept.block _ (Nat.lt_of_lt_of_le (la y hy) hW.size) (hfe y hy).2) en' hn4 hsp (fun y hy _ => ⟨Nat.lt_of_lt_of_le (la y hy) hz, off _ (la y hy) (hfe y hy).2⟩) qa qn qc qs ((hPq.later hW).frame fun y hy _ => hT.kept.block _ (Nat.lt_of_lt_of_le (lq y hy) hW.size) (hnq' y hy)) hqn (by omega) hspq hqz (fun y hy _ => off _ (lq y hy) (hnq' y hy))
    obtain ⟨x0, x1, x2, x3, x4, x5, x6, x7, x8, x9⟩ := RecBox.cells bR
    clear kc kt kpl c3 c3' ks m0 m1 m2 m3 m4 m5 m6
    go_wp2_with (first
      | (go_at_call 50; refine kc3.mono ?_
         rintro e w4 ⟨rfl, hb4⟩
         have b4 := bR.later hb4
         obtain ⟨y0, y1, y2, y3, y4, y5, y6, y7, y8, y9⟩ := RecBox.cells b4
         have kr4 := kr _ hb4)
      | (go_at_call 61; refine kr4.mono ?_
         rintro e w5 ⟨rfl, fp5, h5, hT5⟩
         have b5 := hT5.kept.box b4 hnR
         obtain ⟨z0, z1, z2, z3, z4, z5, z6, z7, z8, z9⟩ := RecBox.cells b5
         have kf5 := kf _ _ _ hb4 h5 hT5)
      | (go_at_call 55; refine kf5.mono ?_; rintro e w6 ⟨rfl, fp6, a6, c6, h6, hT6⟩))
    go_ret2
    exact ⟨rfl, fp6, a6, c6, h6, ((Turn.of_below (hbw.trans (hb4.mono hbw.size))).trans hT5).trans hT6⟩
end

end Go.Proofs.YthneemgpifbehaaGreatDoor
