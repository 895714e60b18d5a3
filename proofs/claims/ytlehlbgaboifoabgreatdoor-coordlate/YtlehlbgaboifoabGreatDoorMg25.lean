/- What is said to a shard: word of each phase. -/
import Derived.Test.YtlehlbgaboifoabGreatDoorMg24
import Derived.Test.YtlehlbgaboifoabGreatDoorMg02
import Derived.Test.YtlehlbgaboifoabGreatDoorMg17
namespace Go.Proofs.YtlehlbgaboifoabGreatDoor
open Go.RowKit Go.Maps Go.Shelf
set_option linter.unusedSimpArgs false
set_option linter.unusedVariables false

/-- The library's Clone at numbers: a row of the call's own. -/
theorem clone_own (a : Option Addr) (n c : Nat) (ps : List Nat) (w : World) (h : Nats w a ps) (hl : ps.length = n) (hn : n ≤ 1000) (hsp : SP a) :
    Calls Tryz.prog 63 #[.slice a n c] w fun e w' => ∃ v, e = .returned v ∧ w'.ownsRow w.heap.size 3 1 v n (ps.map natV) ∧ Below w.heap.size w w' := by
  cases a with
  | none =>
    have : ps = [] := by
      cases ps with
      | nil => rfl
      | cons y t => obtain ⟨x, hx, _⟩ := h 0 (by simp); cases hx
    subst this
    subst hl
    refine (AnyE.slices_Clone_nil Tryz.cloneI 0 c w).mono ?_
    rintro e w' ⟨rfl, rfl⟩
    exact ⟨_, rfl, World.ownsRow_nil _ _ _ _, Below.refl _ _⟩
  | some x =>
    obtain ⟨i0, hi, hz0, hz1, hz2⟩ := info_parts tinfo3
    have hx := hsp x rfl
    obtain ⟨B, o, sp⟩ := x
    simp at hx
    subst hx
    refine (AnyE.slices_Clone Tryz.cloneI i0 _ 1 8 hi hz0 hz1 hz2 rfl (by decide) (by intro w; kernel_rfl) B o n c (ps.map natV) w (by simp [hl]) (by unfold maxLen; omega) (by omega) ?_ ?_).mono ?_
    · intro j u hj
      rw [List.getElem?_map] at hj
      cases hp : ps[j]? with
      | none => rw [hp] at hj; cases hj
      | some z =>
        rw [hp] at hj
        simp only [Option.map_some, Option.some.injEq] at hj
        subst hj
        have hjl : j < ps.length := (List.getElem?_eq_some_iff.1 hp).1
        obtain ⟨y, hy, hc⟩ := h j hjl
        cases hy
        have e : ps.getD j 0 = z := by simp [List.getD, hp]
        rw [e] at hc
        have ea : (⟨B, o, .none⟩ : Addr).add j = ⟨B, o + j, .none⟩ := by
          unfold Addr.add
          split
          · rename_i e0; subst e0; rfl
          · rfl
        rw [ea] at hc
        exact hc
    · intro u hu
      obtain ⟨p, _, rfl⟩ := List.mem_map.1 hu
      rfl
    · rintro e w' ⟨v', rfl, hown, hne, hb⟩
      exact ⟨v', rfl, hown, hb⟩

/-- The blocks of a row that a call made are new. -/
theorem new_row {w w' : World} {e size n : Nat} {v : Value} {xs : List Value} (h : w'.ownsRow w.heap.size e size v n xs) : ∀ k, v.ownBlock = some k → New w w' k := fun k hk => own_low h k hk

/-- What a word's call answers. -/
def WordP (w : World) (d : MD) (e : Ending) (w' : World) : Prop :=
  ∃ m : MG, e = .returned (.agg #[.int .i64 m.k, .int .i64 0, .int .i64 0, .int .i64 0, .slice m.pa m.pods.length m.pc, .slice m.ra m.rs.length m.rc, .bool m.yes]) ∧ m.data = d ∧ m.Ok w' (New w w') ∧ Below w.heap.size w w'

theorem word_dec (n s : Nat) (ps : List Nat) (id : Nat) (w : World) (h1 : 3 ≤ n) (h2 : n ≤ 5) : Calls Tryz.prog 263 #[.int .i64 n, .int .i64 s] w (WordP w (wordS ps id s (.dec n))) := by
  refine (v_word_any n s w h1 h2).mono ?_
  rintro e w' ⟨rfl, hb⟩
  refine ⟨⟨if n = 5 then 9 else 5, s, id, none, 0, [], none, 0, [], decide (n = 3)⟩, ?_, ?_, MG.plain _ _ _ _ _ _, hb⟩
  · by_cases h : n = 5
    · subst h; rfl
    · simp [h]
  · by_cases h : n = 5
    · subst h; rfl
    · simp [MG.data, wordS, h]

/-- A message that is stored whole. -/
theorem put7 {w : World} {R : Nat} {c0 c1 c2 c3 c4 c5 c6 : Value} {t : TypeId} (h : Box w R #[c0, c1, c2, c3, c4, c5, c6] t) (x0 x1 x2 x3 x4 x5 x6 : Value) :
    ∃ W, W = ((((((w.setCell ⟨R, 0, none⟩ x0).setCell ⟨R, 1, none⟩ x1).setCell ⟨R, 2, none⟩ x2).setCell ⟨R, 3, none⟩ x3).setCell ⟨R, 4, none⟩ x4).setCell ⟨R, 5, none⟩ x5).setCell ⟨R, 6, none⟩ x6 ∧
      Box W R #[x0, x1, x2, x3, x4, x5, x6] t ∧ (∀ (B : Nat) (w0 : World), Below B w0 w → B ≤ R → Below B w0 W) ∧ (∀ k, k ≠ R → W.heap[k]? = w.heap[k]?) ∧ W.heap.size = w.heap.size := by
  have h0 : Box (w.setCell ⟨R, 0, none⟩ x0) R #[x0, c1, c2, c3, c4, c5, c6] t := h.set 0 x0
  have h1 : Box ((w.setCell ⟨R, 0, none⟩ x0).setCell ⟨R, 1, none⟩ x1) R #[x0, x1, c2, c3, c4, c5, c6] t := h0.set 1 x1
  generalize hw1 : (w.setCell ⟨R, 0, none⟩ x0).setCell ⟨R, 1, none⟩ x1 = w1 at *
  have h2 : Box (w1.setCell ⟨R, 2, none⟩ x2) R #[x0, x1, x2, c3, c4, c5, c6] t := h1.set 2 x2
  have h3 : Box ((w1.setCell ⟨R, 2, none⟩ x2).setCell ⟨R, 3, none⟩ x3) R #[x0, x1, x2, x3, c4, c5, c6] t := h2.set 3 x3
  generalize hw3 : (w1.setCell ⟨R, 2, none⟩ x2).setCell ⟨R, 3, none⟩ x3 = w3 at *
  have h4 : Box (w3.setCell ⟨R, 4, none⟩ x4) R #[x0, x1, x2, x3, x4, c5, c6] t := h3.set 4 x4
  have h5 : Box ((w3.setCell ⟨R, 4, none⟩ x4).setCell ⟨R, 5, none⟩ x5) R #[x0, x1, x2, x3, x4, x5, c6] t := h4.set 5 x5
  generalize hw5 : (w3.setCell ⟨R, 4, none⟩ x4).setCell ⟨R, 5, none⟩ x5 = w5 at *
  have h6 : Box (w5.setCell ⟨R, 6, none⟩ x6) R #[x0, x1, x2, x3, x4, x5, x6] t := h5.set 6 x6
  have k1 : ∀ k, k ≠ R → w1.heap[k]? = w.heap[k]? := fun k hk => by rw [← hw1]; exact (setCell_other _ _ _ _ _ hk).trans (setCell_other _ _ _ _ _ hk)
  have k3 : ∀ k, k ≠ R → w3.heap[k]? = w1.heap[k]? := fun k hk => by rw [← hw3]; exact (setCell_other _ _ _ _ _ hk).trans (setCell_other _ _ _ _ _ hk)
  have k5 : ∀ k, k ≠ R → w5.heap[k]? = w3.heap[k]? := fun k hk => by rw [← hw5]; exact (setCell_other _ _ _ _ _ hk).trans (setCell_other _ _ _ _ _ hk)
  have z1 : w1.heap.size = w.heap.size := by rw [← hw1]; simp [World.setCell]
  have z3 : w3.heap.size = w1.heap.size := by rw [← hw3]; simp [World.setCell]
  have z5 : w5.heap.size = w3.heap.size := by rw [← hw5]; simp [World.setCell]
  refine ⟨_, rfl, h6, fun B w0 hb hR => ?_, fun k hk => (setCell_other _ _ _ _ _ hk).trans ((k5 k hk).trans ((k3 k hk).trans (k1 k hk))), by simp [World.setCell, z5, z3, z1]⟩
  have b1 : Below B w0 w1 := by rw [← hw1]; exact (hb.setCell (p := ⟨R, 0, none⟩) hR x0).setCell (p := ⟨R, 1, none⟩) hR x1
  have b3 : Below B w0 w3 := by rw [← hw3]; exact (b1.setCell (p := ⟨R, 2, none⟩) hR x2).setCell (p := ⟨R, 3, none⟩) hR x3
  have b5 : Below B w0 w5 := by rw [← hw5]; exact (b3.setCell (p := ⟨R, 4, none⟩) hR x4).setCell (p := ⟨R, 5, none⟩) hR x5
  exact b5.setCell (p := ⟨R, 6, none⟩) hR x6

set_option maxRecDepth 100000 in
set_option maxHeartbeats 4000000 in
theorem prep1_any (xb b s : Nat) (id : Nat) (ps : List Nat) (pa : Option Addr) (pc : Nat) (w : World) (hx : w.cell? ⟨xb, 0, none⟩ = some (ptr b)) (hb : w.cell? ⟨b, 1, none⟩ = some (.slice pa ps.length pc)) (hN : Nats w pa ps) (hl : ps.length ≤ 4) (hS : SP pa) (ph : Nat) :
    Calls Tryz.prog 124 #[.int .i64 s, ptr xb] w (WordP w (wordS ps id s (.prep ph))) := by
  have kc := fun W (hW : Below w.heap.size w W) => clone_own pa ps.length pc ps W (hN.later hW) rfl (by omega) hS
  obtain ⟨n, hn⟩ : ∃ n, ps.length = n := ⟨_, rfl⟩
  rw [hn] at hb kc
  have hb0 := up (Below.refl w.heap.size w) (.cells #[.int .i64 0, .int .i64 0, .int .i64 0, .int .i64 0, .slice none 0 0, .slice none 0 0, .bool false] 46)
  have hxa := fun o => cell_alloc hx o
  have hba := fun o => cell_alloc hb o
  go_enter Tryz.func124, Tryz.ntmps124
  go_wp2_with (go_at_call 63; refine (kc _ hb0).mono ?_; rintro e w2 ⟨v, rfl, hown, hb2⟩; obtain ⟨a, c, rfl, hac, hSa, _, hya⟩ := own_cut hown; have q2 := (Box.new w #[.int .i64 0, .int .i64 0, .int .i64 0, .int .i64 0, .slice none 0 0, .slice none 0 0, .bool false] 46 rfl).later hb2; obtain ⟨q0, q1, q2', q3, q4, q5, q6⟩ := q2.cells7; have qf := q2.frozen)
  obtain ⟨W, hW, bW, hbW, hkW, hzW⟩ := put7 q2 (.int .i64 3) (.int .i64 0) (.int .i64 0) (.int .i64 0) (.slice none 0 0) (.slice a n c) (.bool false)
  rw [← hW]
  clear hW
  obtain ⟨r0, r1, r2, r3, r4, r5, r6⟩ := bW.cells7
  have hz2 : w.heap.size + 1 ≤ w2.heap.size := by have := hb2.size; simpa using this
  have hne : ∀ y, a = some y → w.heap.size + 1 ≤ y.block ∧ y.block < w2.heap.size := fun y hy => by have := hya y hy; simp at this; omega
  subst hn
  refine bodyPost_ret (by simp [results, Tryz.results124, go_sem, r0, r1, r2, r3, r4, r5, r6]) rfl ⟨⟨3, s, id, none, 0, [], a, c, ps, false⟩, rfl, rfl, ⟨pods_nil _, (nats_own hown).frame fun y hy _ => hkW _ (by have := hne y hy; omega), podsIn_nil _, fun y hy _ => ?_, Nat.le_refl _, hac, SP.none, hSa⟩, hbW _ _ (fin hb2 hb0) (Nat.le_refl _)⟩
  have := hne y hy
  exact ⟨by omega, by omega⟩

end Go.Proofs.YtlehlbgaboifoabGreatDoor

/- What is said to a shard: a hold, a poll's word. -/
namespace Go.Proofs.YtlehlbgaboifoabGreatDoor
open Go.RowKit Go.Maps Go.Shelf
set_option linter.unusedSimpArgs false
set_option linter.unusedVariables false

abbrev nilMsg : Array Value := #[.int .i64 0, .int .i64 0, .int .i64 0, .int .i64 0, .slice none 0 0, .slice none 0 0, .bool false]

set_option maxRecDepth 100000 in
set_option maxHeartbeats 4000000 in
theorem hold1_any (gb s : Nat) (id : Nat) (ps : List Nat) (a : Option Addr) (c : Nat) (pods : List PodT) (w : World) (hg : Box w gb #[.int .i64 id, .slice a pods.length c] 39) (hP : Pods w a pods) (age : Nat) :
    Calls Tryz.prog 87 #[.int .i64 s, ptr gb] w (WordP w (wordS ps id s (.hold age pods))) := by
  have kc := fun W (hW : Below w.heap.size w W) => slice_any id s a c pods.length pods W rfl (hP.later hW)
  have hlen := hP.1
  obtain ⟨n, hn⟩ : ∃ n, pods.length = n := ⟨_, rfl⟩
  rw [hn] at hg kc
  have hb0 := up (Below.refl w.heap.size w) (.cells #[.int .i64 0, .int .i64 0, .int .i64 0, .int .i64 0, .slice none 0 0, .slice none 0 0, .bool false] 46)
  have g0 := fun o => cell_alloc (hg.cell (i := 0) rfl) o
  have g1 := fun o => cell_alloc (hg.cell (i := 1) rfl) o
  go_enter Tryz.func87, Tryz.ntmps87
  go_wp2_with (go_at_call 88; refine (kc _ hb0).mono ?_; rintro e w2 ⟨v, l, rfl, hown, hdat, hnew, hoff, hb2⟩; obtain ⟨x, cx, rfl, hac, hSa, _, hya⟩ := own_cut hown; have q2 := (Box.new w #[.int .i64 0, .int .i64 0, .int .i64 0, .int .i64 0, .slice none 0 0, .slice none 0 0, .bool false] 46 rfl).later hb2; obtain ⟨q0, q1, q2', q3, q4, q5, q6⟩ := q2.cells7; have qf := q2.frozen)
  obtain ⟨W, hW, bW, hbW, hkW, hzW⟩ := put7 q2 (.int .i64 1) (.int .i64 0) (.int .i64 0) (.int .i64 0) (.slice x l.length cx) (.slice none 0 0) (.bool false)
  rw [← hW]
  clear hW
  obtain ⟨r0, r1, r2, r3, r4, r5, r6⟩ := bW.cells7
  have hz2 : w.heap.size + 1 ≤ w2.heap.size := by have := hb2.size; simpa using this
  have hne : ∀ y, x = some y → w.heap.size + 1 ≤ y.block ∧ y.block < w2.heap.size := fun y hy => by have := hya y hy; simp at this; omega
  have hll : l.length ≤ 1000 := by
    have h1 : l.length = (l.map PodT.data).length := by simp
    rw [h1, hdat, List.length_map]
    exact Nat.le_trans (List.length_filter_le _ _) hlen
  have hin : PodsIn (fun k => w.heap.size + 1 ≤ k ∧ k < w2.heap.size) x l := ⟨fun y hy _ => hne y hy, fun p hp => ⟨fun y hy hnn => ?_, fun y hy hnn => ?_⟩⟩
  · have hpods : Pods w2 x l := by
      obtain ⟨x', cx', e, _, _, hp, _⟩ := pods_of_own hown (fun p hp => (hnew p hp).ok) hll
      cases e
      exact hp
    refine bodyPost_ret (by simp [results, Tryz.results87, go_sem, r0, r1, r2, r3, r4, r5, r6]) rfl ⟨⟨1, s, id, x, cx, l, none, 0, [], false⟩, rfl, ?_, ⟨hpods.frame hin (fun k hk => hkW k (by omega)), nats_nil _ _, hin.wide (fun k hk => ⟨by omega, by omega⟩), (fun y hy => by cases hy), hac, Nat.le_refl _, hSa, SP.none⟩, hbW _ _ (fin hb2 hb0) (Nat.le_refl _)⟩
    simp only [MG.data, wordS, hdat]
  · have h1 := (hnew p hp).1
    have h2 := h1.1.lt hy hnn
    have h3 := h1.2.1 y hy
    simp at h3
    omega
  · have h1 := (hnew p hp).2
    have h2 := h1.1.lt hy hnn
    have h3 := h1.2.1 y hy
    simp at h3
    omega

set_option maxRecDepth 100000 in
set_option maxHeartbeats 4000000 in
theorem p_word_hold (P gb s : Nat) (id : Nat) (ps : List Nat) (a : Option Addr) (c : Nat) (pods : List PodT) (w : World) (hp : w.cell? ⟨P, 3, none⟩ = some (.func (.func 87) #[] #[ptr gb])) (hg : Box w gb #[.int .i64 id, .slice a pods.length c] 39) (hP : Pods w a pods) (age : Nat) :
    Calls Tryz.prog 260 #[ptr P, .int .i64 s] w (WordP w (wordS ps id s (.hold age pods))) := by
  have kc := fun W (hW : Below w.heap.size w W) => hold1_any gb s id ps a c pods W (hg.later hW) (hP.later hW) age
  have hb0 := up (Below.refl w.heap.size w) (.cells #[.int .i64 0, .int .i64 0, .int .i64 0, .int .i64 0, .slice none 0 0, .slice none 0 0, .bool false] 46)
  obtain ⟨D, hD⟩ : ∃ D, wordS ps id s (.hold age pods) = D := ⟨_, rfl⟩
  rw [hD] at kc ⊢
  have g0 := fun o => cell_alloc hp o
  clear hD hg hP
  go_enter Tryz.func260, Tryz.ntmps260
  go_wp2_with (go_at_call 87; refine (kc _ hb0).mono ?_; rintro e w2 ⟨m, rfl, hd, hok, hb2⟩; have q2 := (Box.new w #[.int .i64 0, .int .i64 0, .int .i64 0, .int .i64 0, .slice none 0 0, .slice none 0 0, .bool false] 46 rfl).later hb2; obtain ⟨q0, q1, q2', q3, q4, q5, q6⟩ := q2.cells7; have qf := q2.frozen)
  obtain ⟨W, hW, bW, hbW, hkW, hzW⟩ := put7 q2 (.int .i64 m.k) (.int .i64 0) (.int .i64 0) (.int .i64 0) (.slice m.pa m.pods.length m.pc) (.slice m.ra m.rs.length m.rc) (.bool m.yes)
  rw [← hW]
  clear hW
  obtain ⟨r0, r1, r2, r3, r4, r5, r6⟩ := bW.cells7
  have hz2 : w.heap.size + 1 ≤ w2.heap.size := by have := hb2.size; simpa using this
  refine bodyPost_ret (by simp [results, Tryz.results260, go_sem, r0, r1, r2, r3, r4, r5, r6]) rfl ⟨m, rfl, hd, (hok.frame fun k hk => hkW k ?_).wide fun k hk => ?_, hbW _ _ (fin hb2 hb0) (Nat.le_refl _)⟩
  · have h1 := hk.1
    simp at h1
    omega
  · have h1 := hk.1
    have h2 := hk.2
    simp at h1
    exact ⟨by omega, by omega⟩

set_option maxRecDepth 100000 in
set_option maxHeartbeats 4000000 in
theorem p_word_prep (P xb b s : Nat) (id : Nat) (ps : List Nat) (pa : Option Addr) (pc : Nat) (w : World) (hp : w.cell? ⟨P, 3, none⟩ = some (.func (.func 124) #[] #[ptr xb])) (hx : w.cell? ⟨xb, 0, none⟩ = some (ptr b)) (hb : w.cell? ⟨b, 1, none⟩ = some (.slice pa ps.length pc)) (hN : Nats w pa ps) (hl : ps.length ≤ 4) (hS : SP pa) (age : Nat) :
    Calls Tryz.prog 260 #[ptr P, .int .i64 s] w (WordP w (wordS ps id s (.prep age))) := by
  have kc := fun W (hW : Below w.heap.size w W) => prep1_any xb b s id ps pa pc W (cell_below hW hx (block_lt hx)) (cell_below hW hb (block_lt hb)) (hN.later hW) hl hS age
  have hb0 := up (Below.refl w.heap.size w) (.cells #[.int .i64 0, .int .i64 0, .int .i64 0, .int .i64 0, .slice none 0 0, .slice none 0 0, .bool false] 46)
  obtain ⟨D, hD⟩ : ∃ D, wordS ps id s (.prep age) = D := ⟨_, rfl⟩
  rw [hD] at kc ⊢
  have g0 := fun o => cell_alloc hp o
  clear hD hx hb hN hl
  go_enter Tryz.func260, Tryz.ntmps260
  go_wp2_with (go_at_call 124; refine (kc _ hb0).mono ?_; rintro e w2 ⟨m, rfl, hd, hok, hb2⟩; have q2 := (Box.new w #[.int .i64 0, .int .i64 0, .int .i64 0, .int .i64 0, .slice none 0 0, .slice none 0 0, .bool false] 46 rfl).later hb2; obtain ⟨q0, q1, q2', q3, q4, q5, q6⟩ := q2.cells7; have qf := q2.frozen)
  obtain ⟨W, hW, bW, hbW, hkW, hzW⟩ := put7 q2 (.int .i64 m.k) (.int .i64 0) (.int .i64 0) (.int .i64 0) (.slice m.pa m.pods.length m.pc) (.slice m.ra m.rs.length m.rc) (.bool m.yes)
  rw [← hW]
  clear hW
  obtain ⟨r0, r1, r2, r3, r4, r5, r6⟩ := bW.cells7
  have hz2 : w.heap.size + 1 ≤ w2.heap.size := by have := hb2.size; simpa using this
  refine bodyPost_ret (by simp [results, Tryz.results260, go_sem, r0, r1, r2, r3, r4, r5, r6]) rfl ⟨m, rfl, hd, (hok.frame fun k hk => hkW k ?_).wide fun k hk => ?_, hbW _ _ (fin hb2 hb0) (Nat.le_refl _)⟩
  · have h1 := hk.1
    simp at h1
    omega
  · have h1 := hk.1
    have h2 := hk.2
    simp at h1
    exact ⟨by omega, by omega⟩

end Go.Proofs.YtlehlbgaboifoabGreatDoor
