/- The walk of SpecNodes. -/
import Derived.Test.YtgcicillmljglaaLN
import Derived.Test.YtgcicillmljglaaON
namespace Go.Proofs.Ytgcicillmljglaa
open Go.RowKit Go.Maps
attribute [local go_sem ↓] Go.wp_at_zero Go.wp_at_succ

theorem names_good (n : Int) : isName (nameAt n) = true ∧ (nameAt n).size ≤ 1000 := by
  have h : ∀ s ∈ names, isName s = true ∧ s.size ≤ 1000 := by decide +kernel
  exact h _ (nameAt_mem n)

theorem node_good {s : ByteArray} {cpu mem : Int} {xs ys : List ByteArray} (hn : isName s = true) (hc : 0 ≤ cpu ∧ cpu < 12 ∧ 0 ≤ mem ∧ mem < 12) (h1 : setB xs = true) (h2 : setB ys = true) : nodeE s cpu mem xs ys = 0 := by
  have : sizeB cpu mem = true := by unfold sizeB; simp; omega
  unfold nodeE
  rw [hn, this, h1, h2]
  rfl

theorem few_parts {s : ByteArray} {xs ys : List ByteArray} (h : fewP s xs ys = true) : s.size ≤ 60 ∧ xs.length ≤ 10 ∧ (∀ t ∈ xs, t.size ≤ 1000) ∧ ys.length ≤ 10 ∧ (∀ t ∈ ys, t.size ≤ 1000) := by
  unfold fewP fewB at h
  simp only [Bool.and_eq_true, decide_eq_true_eq, List.all_eq_true] at h
  exact ⟨h.1.1, h.1.2.2, fun t ht => by have := h.1.2.1 t ht; omega, h.2.2, fun t ht => by have := h.2.1 t ht; omega⟩

theorem set_len {l : List ByteArray} (h : setB l = true) : l.length ≤ 4 := by
  unfold setB at h
  simp at h
  exact h.1
theorem strs_lit1 (w : World) (t : ByteArray) : Strs (w.alloc (.cells #[.string t] 9)) (some ⟨w.heap.size, 0, none⟩) [t] :=
  ⟨by simp, fun i hi => ⟨_, rfl, by
    have : i = 0 := by simp at hi; omega
    subst this
    simp [Addr.add]⟩⟩
theorem strs_ba0 (w : World) (B : Nat) (h : w.heap.size = B) : Strs (w.alloc (.cells #[.string ⟨#[98]⟩, .string ⟨#[97]⟩] 9)) (some ⟨B, 0, none⟩) [⟨#[98]⟩, ⟨#[97]⟩] := by
  subst h
  refine ⟨by simp, fun i hi => ⟨_, rfl, ?_⟩⟩
  rcases (by simp at hi; omega : i = 0 ∨ i = 1) with rfl | rfl <;> simp [Addr.add]
theorem strs_ba1 (w : World) (B : Nat) (h : w.heap.size = B) : Strs (w.alloc (.cells #[.string ⟨#[98]⟩, .string ⟨#[97]⟩] 9)) (some ⟨B, 1, none⟩) [⟨#[97]⟩] := by
  subst h
  refine ⟨by simp, fun i hi => ⟨_, rfl, ?_⟩⟩
  have : i = 0 := by simp at hi; omega
  subst this
  simp [Addr.add]

set_option maxRecDepth 100000 in
set_option maxHeartbeats 4000000 in
theorem specNodes_walk (s : ByteArray) (cpu mem : Int) (a1 : Option Addr) (n1 c1 : Nat) (xs : List ByteArray) (a2 : Option Addr) (n2 c2 : Nat) (ys : List ByteArray) (al : Bool) (x n wh k : Int) (a5 : Option Addr) (len5 cap5 : Nat) (z5 : List Int) (w : World)
    (_hs : s.size ≤ maxLen) (e1 : xs.length = n1) (i1 : StrsIn w a1 xs) (e2 : ys.length = n2) (i2 : StrsIn w a2 ys) (w5 : IsRow .i64 w a5 len5 cap5 z5) :
    Calls Try.prog 4 #[.agg #[.string s, .int .i64 cpu, .int .i64 mem, .slice a1 n1 c1, .slice a2 n2 c2, .bool al], .int .i64 x, .int .i64 n, .int .i64 wh, .int .i64 k, .slice a5 len5 cap5] w fun e w' => e = .returned (.bool true) ∧ Below w.heap.size w w' := by
  replace w5 := w5.has
  have h0 := up (Below.refl w.heap.size w) (.cells #[.string s, .int .i64 cpu, .int .i64 mem, .slice a1 n1 c1, .slice a2 n2 c2, .bool al] 39)
  obtain ⟨few, hfew⟩ : ∃ b, fewP s xs ys = b := ⟨_, rfl⟩
  have kF := fun W (h : Below w.heap.size w W) => fewNode_any s cpu mem a1 a2 n1 n2 c1 c2 al xs ys W (i1.later h) (i2.later h) e1 e2
  rw [hfew] at kF
  cases few
  · go_enter Try.func4, Try.ntmps4
    go_wp2_with (first
      | (go_at_call 9; refine (known_on _ _ (Below.refl _ _)).mono ?_; rintro e w1 ⟨rfl, hb1⟩
         have hR1 : NBox w1 w.heap.size _ _ _ _ _ _ := NBox.later (NBox.new w _ _ _ _ _ _) hb1
         obtain ⟨r0, r1, r2, r3, r4, r5⟩ := hR1.cells
         have b1 := h0.trans (hb1.mono h0.size))
      | (go_at_call 17; refine (kF _ b1).mono ?_; rintro e w2 ⟨rfl, hb2⟩))
    go_ret
    exact ⟨rfl, b1.trans (hb2.mono b1.size)⟩
  · obtain ⟨hs60, hx10, hxs, hy10, hys⟩ := few_parts hfew
    have hsm : s.size ≤ maxLen := by unfold maxLen; omega
    have kN := fun W (h : Below w.heap.size w W) => node_any s cpu mem a1 a2 n1 n2 c1 c2 al xs ys W ((i1.later h).few hx10) ((i2.later h).few hy10) e1 e2
    have kR := fun W (h : Below w.heap.size w W) => rNode_any s cpu mem a1 a2 n1 n2 c1 c2 al xs ys W ((i1.later h).few hx10) ((i2.later h).few hy10) e1 e2 hsm hxs hys
    obtain ⟨eN, heN⟩ : ∃ e, nodeE s cpu mem xs ys = e := ⟨_, rfl⟩
    rw [heN] at kN kR
    obtain ⟨hng, hns⟩ := names_good x
    have kL := fun W => lNode_any x n W
    obtain ⟨sx, hsx⟩ : ∃ s, nameAt x = s := ⟨_, rfl⟩
    rw [hsx] at kL hng hns
    clear i1 i2 e1 e2 hfew hxs hys heN hsx
    go_enter Try.func4, Try.ntmps4
    go_wp2_with (first
      | (go_at_call 9; refine (known_on _ _ (Below.refl _ _)).mono ?_; rintro e w1 ⟨rfl, hb1⟩
         have hR1 : NBox w1 w.heap.size _ _ _ _ _ _ := NBox.later (NBox.new w _ _ _ _ _ _) hb1
         obtain ⟨r0, r1, r2, r3, r4, r5⟩ := hR1.cells
         have b1 := h0.trans (hb1.mono h0.size))
      | (go_at_call 17; refine (kF _ b1).mono ?_; rintro e w2 ⟨rfl, hb2⟩
         have hR2 := hR1.later hb2
         have b2 := b1.trans (hb2.mono b1.size))
      | (go_at_call 18; refine (kL _).mono ?_; rintro e w3 ⟨cx, mx, p1, q1, us, p2, q2, vs, ax, rfl, hcx, hg1, hg2, hb3⟩
         have hR3 := hR2.later hb3
         have b3 := b2.trans (hb3.mono b2.size)
         obtain ⟨t0, t1, t2, t3, t4, t5⟩ := hR3.cells
         have hlt3 := (Array.getElem?_eq_some_iff.1 hR3).1))
    have hX := NBox.new w3 sx cx mx (.slice p1 us.length q1) (.slice p2 vs.length q2) ax
    have b4 := up b3 (.cells #[.string sx, .int .i64 cx, .int .i64 mx, .slice p1 us.length q1, .slice p2 vs.length q2, .bool ax] 39)
    have d4 := up (Below.refl w3.heap.size w3) (.cells #[.string sx, .int .i64 cx, .int .i64 mx, .slice p1 us.length q1, .slice p2 vs.length q2, .bool ax] 39)
    have hR4 := hR3.later d4
    obtain ⟨W4, hW4⟩ : ∃ W4, W4 = w3.alloc (.cells #[.string sx, .int .i64 cx, .int .i64 mx, .slice p1 us.length q1, .slice p2 vs.length q2, .bool ax] 39) := ⟨_, rfl⟩
    rw [← hW4] at hX b4 d4 hR4 ⊢
    have hW4s : W4.heap.size = w3.heap.size + 1 := by rw [hW4]; simp
    have hlt4 : w.heap.size < W4.heap.size := by omega
    have hltX : w3.heap.size < W4.heap.size := by omega
    have hb1 : ∀ x, p1 = some x → x.block = w3.heap.size → False := fun x hx e => by have := (hg1.new.2.1 x hx).2; omega
    have hb2 : ∀ x, p2 = some x → x.block = w3.heap.size → False := fun x hx e => by have := (hg2.new.2.1 x hx).2; omega
    replace hg1 := hg1.later d4
    replace hg2 := hg2.later d4
    have b4' := b4
    have kN' := fun W (h : Below W4.heap.size W4 W) => kN W (b4.trans (h.mono b4.size))
    have kR' := fun W (h : Below W4.heap.size W4 W) => kR W (b4.trans (h.mono b4.size))
    have kX' := fun W (h : Below W4.heap.size W4 W) => node_any sx cx mx p1 p2 us.length vs.length q1 q2 ax us vs W (hg1.new.1.later h) (hg2.new.1.later h) rfl rfl
    rw [node_good hng hcx hg1.set hg2.set] at kX'
    obtain ⟨m0, m1, m2, m3, m4, m5⟩ := hR4.cells
    obtain ⟨o0, o1, o2, o3, o4, o5⟩ := hX.cells
    have D4 : Below W4.heap.size W4 W4.drew := Below.drew (Below.refl _ _)
    have hXb := hX
    clear hW4 hR4 hR3 hX r0 r1 r2 r3 r4 r5 t0 t1 t2 t3 t4 t5 d4 kN kR kF kL hb3 h0 b1 b2 b3 hR1 hR2
    have m0' : W4.drew.cell? ⟨w.heap.size, 0, none⟩ = some (.string s) := m0
    have m1' : W4.drew.cell? ⟨w.heap.size, 1, none⟩ = some (.int .i64 cpu) := m1
    have m2' : W4.drew.cell? ⟨w.heap.size, 2, none⟩ = some (.int .i64 mem) := m2
    have m3' : W4.drew.cell? ⟨w.heap.size, 3, none⟩ = some (.slice a1 n1 c1) := m3
    have m4' : W4.drew.cell? ⟨w.heap.size, 4, none⟩ = some (.slice a2 n2 c2) := m4
    have m5' : W4.drew.cell? ⟨w.heap.size, 5, none⟩ = some (.bool al) := m5
    have o0' : W4.drew.cell? ⟨w3.heap.size, 0, none⟩ = some (.string sx) := o0
    have o1' : W4.drew.cell? ⟨w3.heap.size, 1, none⟩ = some (.int .i64 cx) := o1
    have o2' : W4.drew.cell? ⟨w3.heap.size, 2, none⟩ = some (.int .i64 mx) := o2
    have o3' : W4.drew.cell? ⟨w3.heap.size, 3, none⟩ = some (.slice p1 us.length q1) := o3
    have o4' : W4.drew.cell? ⟨w3.heap.size, 4, none⟩ = some (.slice p2 vs.length q2) := o4
    have o5' : W4.drew.cell? ⟨w3.heap.size, 5, none⟩ = some (.bool ax) := o5
    rename_i Q0 hbx hby K1 hk1 K0 hk0
    have key : ∀ w7, Below W4.heap.size W4 w7 → Exit.then K0 (Exit.then K1 Q0) Exit.normal { tmps := #[Value.agg #[.string s, .int .i64 cpu, .int .i64 mem, .slice a1 n1 c1, .slice a2 n2 c2, .bool al], .int .i64 x, .int .i64 n, .int .i64 wh, .int .i64 k, .slice a5 len5 cap5, .pointer (some ⟨w.heap.size, 0, none⟩), undef, undef, undef, undef, undef, .bool false, .pointer (some ⟨w3.heap.size, 0, none⟩), .bool true, .bool false, Value.agg #[.string s, .int .i64 cpu, .int .i64 mem, .slice a1 n1 c1, .slice a2 n2 c2, .bool al], .bool true, .bool false, .int .i64 x, .int .i64 n, Value.agg #[.string sx, .int .i64 cx, .int .i64 mx, .slice p1 us.length q1, .slice p2 vs.length q2, .bool ax], Value.agg #[.string s, .int .i64 cpu, .int .i64 mem, .slice a1 n1 c1, .slice a2 n2 c2, .bool al], .int .i64 eN, Value.agg #[.string s, .int .i64 cpu, .int .i64 mem, .slice a1 n1 c1, .slice a2 n2 c2, .bool al], .int .i64 eN, .bool false, .bool false, Value.agg #[.string sx, .int .i64 cx, .int .i64 mx, .slice p1 us.length q1, .slice p2 vs.length q2, .bool ax], .int .i64 0, .bool false, .bool false, undef, undef, undef, undef, undef, undef, undef, undef, undef, undef, undef, undef, undef, undef, undef, undef, undef, undef, undef, undef, undef, undef, undef, undef, undef, undef, undef, undef, undef, undef, undef, undef, undef, undef, undef, undef, undef, undef, undef, undef, undef, undef, undef, undef, undef, undef, undef, undef, undef, undef, undef, undef], defers := [] } w7 := by
      intro w7 D7
      have hX7 := hXb.later D7
      have hG1 := hg1.later D7
      have hG2 := hg2.later D7
      have B7 := b4.trans (D7.mono b4.size)
      have l7 := D7.size
      clear m0 m1 m2 m3 m4 m5 o0 o1 o2 o3 o4 o5 m0' m1' m2' m3' m4' m5' o0' o1' o2' o3' o4' o5' D4 kN' kR' kX' hg1 hg2 b4 hXb b4'
      have hne1 : ∀ x, p1 = some x → x.block ≠ w3.heap.size := fun x hx e => hb1 x hx e
      have hne2 : ∀ x, p2 = some x → x.block ≠ w3.heap.size := fun x hx e => hb2 x hx e
      obtain ⟨q, hq⟩ : ∃ q, wh % 5 = q := ⟨_, rfl⟩
      rcases (by omega : q = 0 ∨ q = 1 ∨ q = 2 ∨ q = 3 ∨ q = 4) with rfl | rfl | rfl | rfl | rfl
      · go_wp2_with (first
          | (go_at_call 11; refine (within_any _ _ _ (by decide) (by decide) hq _).mono ?_; rintro e w7 ⟨rfl, rfl⟩)
          | (go_at_call 15; refine (text_on a5 len5 cap5 z5 w7 w7 (w5.later B7) (Below.refl _ _)).mono ?_; rintro e w8 ⟨t, rfl, ht, hb8⟩
             have hX8 := hX7.later hb8
             have x8 := hX8.cells.1
             have z8 := hX8.frozen 0))
        obtain ⟨W9, hW9⟩ : ∃ W9, W9 = w8.setCell ⟨w3.heap.size, 0, none⟩ (.string t) := ⟨_, rfl⟩
        have hN9 : NBox W9 w3.heap.size (t) (cx) (mx) (.slice (p1) (us.length) (q1)) (.slice (p2) (vs.length) (q2)) ax := by rw [hW9]; exact hX8.set0 t
        have hA9 : Strs W9 (p1) (us) := by rw [hW9]; exact strs_grown (hG1.new.1.later hb8) (grown_set _ _ _ _) (fun x hx e => hne1 x hx (Option.some.inj e))
        have hB9 : Strs W9 (p2) (vs) := by rw [hW9]; exact strs_grown (hG2.new.1.later hb8) (grown_set _ _ _ _) (fun x hx e => hne2 x hx (Option.some.inj e))
        have B9 : Below w.heap.size w W9 := by rw [hW9]; exact (B7.trans (hb8.mono B7.size)).setCell (p := ⟨w3.heap.size, 0, none⟩) (by have := B7.size; simp; omega) _
        rw [← hW9]
        obtain ⟨k0, k1, k2, k3, k4, k5⟩ := hN9.cells
        have kN9 := fun W (h : Below W9.heap.size W9 W) => node_any (t) (cx) (mx) (p1) (p2) (us.length) (vs.length) (q1) (q2) ax (us) (vs) W (hA9.later h) (hB9.later h) rfl rfl
        have kR9 := fun W (h : Below W9.heap.size W9 W) => rNode_any (t) (cx) (mx) (p1) (p2) (us.length) (vs.length) (q1) (q2) ax (us) (vs) W (hA9.later h) (hB9.later h) rfl rfl (by unfold maxLen; omega) hG1.short hG2.short
        obtain ⟨eX, heX⟩ : ∃ e, nodeE (t) (cx) (mx) (us) (vs) = e := ⟨_, rfl⟩
        rw [heX] at kN9 kR9
        have D9 : Below W9.heap.size W9 W9.drew := Below.drew (Below.refl _ _)
        have y0 : W9.drew.cell? ⟨w3.heap.size, 0, none⟩ = _ := k0
        have y1 : W9.drew.cell? ⟨w3.heap.size, 1, none⟩ = _ := k1
        have y2 : W9.drew.cell? ⟨w3.heap.size, 2, none⟩ = _ := k2
        have y3 : W9.drew.cell? ⟨w3.heap.size, 3, none⟩ = _ := k3
        have y4 : W9.drew.cell? ⟨w3.heap.size, 4, none⟩ = _ := k4
        have y5 : W9.drew.cell? ⟨w3.heap.size, 5, none⟩ = _ := k5
        clear hA9 hB9 hN9 hW9 heX
        go_region_with (first
          | (go_at_call 19; refine (kN9 _ D9).mono ?_; rintro e wa ⟨rfl, hba⟩
             have u0 := cell_below hba y0 (block_lt y0)
             have u1 := cell_below hba y1 (block_lt y1)
             have u2 := cell_below hba y2 (block_lt y2)
             have u3 := cell_below hba y3 (block_lt y3)
             have u4 := cell_below hba y4 (block_lt y4)
             have u5 := cell_below hba y5 (block_lt y5)
             have Da := D9.trans (hba.mono D9.size))
          | (go_at_call 20; refine (kR9 _ Da).mono ?_; rintro e wb ⟨rfl, hbb⟩
             have Db := Da.trans (hbb.mono Da.size)))
        all_goals
          simp only [Act.put, List.getElem_toArray, List.getElem_cons_succ, List.getElem_cons_zero, List.setIfInBounds_toArray, List.set_cons_succ, List.set_cons_zero]
          go_wp2
          go_ret
          exact ⟨by first | rfl | simp, B9.trans (Db.mono B9.size)⟩
      · obtain ⟨j, hj⟩ : ∃ j, k % 5 = j := ⟨_, rfl⟩
        rcases (by omega : j = 0 ∨ j = 1 ∨ j = 2 ∨ j = 3 ∨ j = 4) with rfl | rfl | rfl | rfl | rfl
        · go_wp2_with (first
            | (go_at_call_of 11 (Value.int .i64 wh); refine (within_any _ _ _ (by decide) (by decide) hq _).mono ?_; rintro e w7 ⟨rfl, rfl⟩)
            | (go_at_call_of 11 (Value.int .i64 k); refine (within_any _ _ _ (by decide) (by decide) hj _).mono ?_; rintro e w8 ⟨rfl, rfl⟩)
            | (go_at_call 16; refine (edge_on k w7 w7 (Below.refl _ _)).mono ?_; rintro e w8 ⟨z, rfl, hb8⟩
               have hX8 := hX7.later hb8
               have x8 := hX8.cells.2.1
               have z8 := hX8.frozen 1
               have lX8 : w3.heap.size < w8.heap.size := (Array.getElem?_eq_some_iff.1 hX8).1))
          obtain ⟨W9, hW9⟩ : ∃ W9, W9 = (w8.setCell ⟨w3.heap.size, 1, none⟩ (.int .i64 (-1))).alloc (.cells #[.int .i64 (-1), .int .i64 0, .int .i64 1099511627776, .int .i64 1099511627777, .int .i64 z] 3) := ⟨_, rfl⟩
          have hN9 : NBox W9 w3.heap.size (sx) ((-1)) (mx) (.slice (p1) (us.length) (q1)) (.slice (p2) (vs.length) (q2)) ax := by rw [hW9]; exact (hX8.set1 (-1)).later (up (Below.refl _ _) _)
          have hA9 : Strs W9 (p1) (us) := by rw [hW9]; exact (strs_grown (hG1.new.1.later hb8) (grown_set _ _ _ _) (fun x hx e => hne1 x hx (Option.some.inj e))).later (up (Below.refl _ _) _)
          have hB9 : Strs W9 (p2) (vs) := by rw [hW9]; exact (strs_grown (hG2.new.1.later hb8) (grown_set _ _ _ _) (fun x hx e => hne2 x hx (Option.some.inj e))).later (up (Below.refl _ _) _)
          have B9 : Below w.heap.size w W9 := by rw [hW9]; exact up ((B7.trans (hb8.mono B7.size)).setCell (p := ⟨w3.heap.size, 1, none⟩) (by have := B7.size; simp; omega) _) _
          rw [← hW9]
          obtain ⟨k0, k1, k2, k3, k4, k5⟩ := hN9.cells
          have kN9 := fun W (h : Below W9.heap.size W9 W) => node_any (sx) ((-1)) (mx) (p1) (p2) (us.length) (vs.length) (q1) (q2) ax (us) (vs) W (hA9.later h) (hB9.later h) rfl rfl
          have kR9 := fun W (h : Below W9.heap.size W9 W) => rNode_any (sx) ((-1)) (mx) (p1) (p2) (us.length) (vs.length) (q1) (q2) ax (us) (vs) W (hA9.later h) (hB9.later h) rfl rfl (by unfold maxLen; omega) hG1.short hG2.short
          obtain ⟨eX, heX⟩ : ∃ e, nodeE (sx) ((-1)) (mx) (us) (vs) = e := ⟨_, rfl⟩
          rw [heX] at kN9 kR9
          have D9 : Below W9.heap.size W9 W9.drew := Below.drew (Below.refl _ _)
          have y0 : W9.drew.cell? ⟨w3.heap.size, 0, none⟩ = _ := k0
          have y1 : W9.drew.cell? ⟨w3.heap.size, 1, none⟩ = _ := k1
          have y2 : W9.drew.cell? ⟨w3.heap.size, 2, none⟩ = _ := k2
          have y3 : W9.drew.cell? ⟨w3.heap.size, 3, none⟩ = _ := k3
          have y4 : W9.drew.cell? ⟨w3.heap.size, 4, none⟩ = _ := k4
          have y5 : W9.drew.cell? ⟨w3.heap.size, 5, none⟩ = _ := k5
          clear hA9 hB9 hN9 hW9 heX
          go_region_with (first
            | (go_at_call 19; refine (kN9 _ D9).mono ?_; rintro e wa ⟨rfl, hba⟩
               have u0 := cell_below hba y0 (block_lt y0)
               have u1 := cell_below hba y1 (block_lt y1)
               have u2 := cell_below hba y2 (block_lt y2)
               have u3 := cell_below hba y3 (block_lt y3)
               have u4 := cell_below hba y4 (block_lt y4)
               have u5 := cell_below hba y5 (block_lt y5)
               have Da := D9.trans (hba.mono D9.size))
            | (go_at_call 20; refine (kR9 _ Da).mono ?_; rintro e wb ⟨rfl, hbb⟩
               have Db := Da.trans (hbb.mono Da.size)))
          all_goals
            simp only [Act.put, List.getElem_toArray, List.getElem_cons_succ, List.getElem_cons_zero, List.setIfInBounds_toArray, List.set_cons_succ, List.set_cons_zero]
            go_wp2
            go_ret
            exact ⟨by first | rfl | simp, B9.trans (Db.mono B9.size)⟩
        · go_wp2_with (first
            | (go_at_call_of 11 (Value.int .i64 wh); refine (within_any _ _ _ (by decide) (by decide) hq _).mono ?_; rintro e w7 ⟨rfl, rfl⟩)
            | (go_at_call_of 11 (Value.int .i64 k); refine (within_any _ _ _ (by decide) (by decide) hj _).mono ?_; rintro e w8 ⟨rfl, rfl⟩)
            | (go_at_call 16; refine (edge_on k w7 w7 (Below.refl _ _)).mono ?_; rintro e w8 ⟨z, rfl, hb8⟩
               have hX8 := hX7.later hb8
               have x8 := hX8.cells.2.1
               have z8 := hX8.frozen 1
               have lX8 : w3.heap.size < w8.heap.size := (Array.getElem?_eq_some_iff.1 hX8).1))
          obtain ⟨W9, hW9⟩ : ∃ W9, W9 = (w8.setCell ⟨w3.heap.size, 1, none⟩ (.int .i64 (0))).alloc (.cells #[.int .i64 (-1), .int .i64 0, .int .i64 1099511627776, .int .i64 1099511627777, .int .i64 z] 3) := ⟨_, rfl⟩
          have hN9 : NBox W9 w3.heap.size (sx) ((0)) (mx) (.slice (p1) (us.length) (q1)) (.slice (p2) (vs.length) (q2)) ax := by rw [hW9]; exact (hX8.set1 (0)).later (up (Below.refl _ _) _)
          have hA9 : Strs W9 (p1) (us) := by rw [hW9]; exact (strs_grown (hG1.new.1.later hb8) (grown_set _ _ _ _) (fun x hx e => hne1 x hx (Option.some.inj e))).later (up (Below.refl _ _) _)
          have hB9 : Strs W9 (p2) (vs) := by rw [hW9]; exact (strs_grown (hG2.new.1.later hb8) (grown_set _ _ _ _) (fun x hx e => hne2 x hx (Option.some.inj e))).later (up (Below.refl _ _) _)
          have B9 : Below w.heap.size w W9 := by rw [hW9]; exact up ((B7.trans (hb8.mono B7.size)).setCell (p := ⟨w3.heap.size, 1, none⟩) (by have := B7.size; simp; omega) _) _
          rw [← hW9]
          obtain ⟨k0, k1, k2, k3, k4, k5⟩ := hN9.cells
          have kN9 := fun W (h : Below W9.heap.size W9 W) => node_any (sx) ((0)) (mx) (p1) (p2) (us.length) (vs.length) (q1) (q2) ax (us) (vs) W (hA9.later h) (hB9.later h) rfl rfl
          have kR9 := fun W (h : Below W9.heap.size W9 W) => rNode_any (sx) ((0)) (mx) (p1) (p2) (us.length) (vs.length) (q1) (q2) ax (us) (vs) W (hA9.later h) (hB9.later h) rfl rfl (by unfold maxLen; omega) hG1.short hG2.short
          obtain ⟨eX, heX⟩ : ∃ e, nodeE (sx) ((0)) (mx) (us) (vs) = e := ⟨_, rfl⟩
          rw [heX] at kN9 kR9
          have D9 : Below W9.heap.size W9 W9.drew := Below.drew (Below.refl _ _)
          have y0 : W9.drew.cell? ⟨w3.heap.size, 0, none⟩ = _ := k0
          have y1 : W9.drew.cell? ⟨w3.heap.size, 1, none⟩ = _ := k1
          have y2 : W9.drew.cell? ⟨w3.heap.size, 2, none⟩ = _ := k2
          have y3 : W9.drew.cell? ⟨w3.heap.size, 3, none⟩ = _ := k3
          have y4 : W9.drew.cell? ⟨w3.heap.size, 4, none⟩ = _ := k4
          have y5 : W9.drew.cell? ⟨w3.heap.size, 5, none⟩ = _ := k5
          clear hA9 hB9 hN9 hW9 heX
          go_region_with (first
            | (go_at_call 19; refine (kN9 _ D9).mono ?_; rintro e wa ⟨rfl, hba⟩
               have u0 := cell_below hba y0 (block_lt y0)
               have u1 := cell_below hba y1 (block_lt y1)
               have u2 := cell_below hba y2 (block_lt y2)
               have u3 := cell_below hba y3 (block_lt y3)
               have u4 := cell_below hba y4 (block_lt y4)
               have u5 := cell_below hba y5 (block_lt y5)
               have Da := D9.trans (hba.mono D9.size))
            | (go_at_call 20; refine (kR9 _ Da).mono ?_; rintro e wb ⟨rfl, hbb⟩
               have Db := Da.trans (hbb.mono Da.size)))
          all_goals
            simp only [Act.put, List.getElem_toArray, List.getElem_cons_succ, List.getElem_cons_zero, List.setIfInBounds_toArray, List.set_cons_succ, List.set_cons_zero]
            go_wp2
            go_ret
            exact ⟨by first | rfl | simp, B9.trans (Db.mono B9.size)⟩
        · go_wp2_with (first
            | (go_at_call_of 11 (Value.int .i64 wh); refine (within_any _ _ _ (by decide) (by decide) hq _).mono ?_; rintro e w7 ⟨rfl, rfl⟩)
            | (go_at_call_of 11 (Value.int .i64 k); refine (within_any _ _ _ (by decide) (by decide) hj _).mono ?_; rintro e w8 ⟨rfl, rfl⟩)
            | (go_at_call 16; refine (edge_on k w7 w7 (Below.refl _ _)).mono ?_; rintro e w8 ⟨z, rfl, hb8⟩
               have hX8 := hX7.later hb8
               have x8 := hX8.cells.2.1
               have z8 := hX8.frozen 1
               have lX8 : w3.heap.size < w8.heap.size := (Array.getElem?_eq_some_iff.1 hX8).1))
          obtain ⟨W9, hW9⟩ : ∃ W9, W9 = (w8.setCell ⟨w3.heap.size, 1, none⟩ (.int .i64 (1099511627776))).alloc (.cells #[.int .i64 (-1), .int .i64 0, .int .i64 1099511627776, .int .i64 1099511627777, .int .i64 z] 3) := ⟨_, rfl⟩
          have hN9 : NBox W9 w3.heap.size (sx) ((1099511627776)) (mx) (.slice (p1) (us.length) (q1)) (.slice (p2) (vs.length) (q2)) ax := by rw [hW9]; exact (hX8.set1 (1099511627776)).later (up (Below.refl _ _) _)
          have hA9 : Strs W9 (p1) (us) := by rw [hW9]; exact (strs_grown (hG1.new.1.later hb8) (grown_set _ _ _ _) (fun x hx e => hne1 x hx (Option.some.inj e))).later (up (Below.refl _ _) _)
          have hB9 : Strs W9 (p2) (vs) := by rw [hW9]; exact (strs_grown (hG2.new.1.later hb8) (grown_set _ _ _ _) (fun x hx e => hne2 x hx (Option.some.inj e))).later (up (Below.refl _ _) _)
          have B9 : Below w.heap.size w W9 := by rw [hW9]; exact up ((B7.trans (hb8.mono B7.size)).setCell (p := ⟨w3.heap.size, 1, none⟩) (by have := B7.size; simp; omega) _) _
          rw [← hW9]
          obtain ⟨k0, k1, k2, k3, k4, k5⟩ := hN9.cells
          have kN9 := fun W (h : Below W9.heap.size W9 W) => node_any (sx) ((1099511627776)) (mx) (p1) (p2) (us.length) (vs.length) (q1) (q2) ax (us) (vs) W (hA9.later h) (hB9.later h) rfl rfl
          have kR9 := fun W (h : Below W9.heap.size W9 W) => rNode_any (sx) ((1099511627776)) (mx) (p1) (p2) (us.length) (vs.length) (q1) (q2) ax (us) (vs) W (hA9.later h) (hB9.later h) rfl rfl (by unfold maxLen; omega) hG1.short hG2.short
          obtain ⟨eX, heX⟩ : ∃ e, nodeE (sx) ((1099511627776)) (mx) (us) (vs) = e := ⟨_, rfl⟩
          rw [heX] at kN9 kR9
          have D9 : Below W9.heap.size W9 W9.drew := Below.drew (Below.refl _ _)
          have y0 : W9.drew.cell? ⟨w3.heap.size, 0, none⟩ = _ := k0
          have y1 : W9.drew.cell? ⟨w3.heap.size, 1, none⟩ = _ := k1
          have y2 : W9.drew.cell? ⟨w3.heap.size, 2, none⟩ = _ := k2
          have y3 : W9.drew.cell? ⟨w3.heap.size, 3, none⟩ = _ := k3
          have y4 : W9.drew.cell? ⟨w3.heap.size, 4, none⟩ = _ := k4
          have y5 : W9.drew.cell? ⟨w3.heap.size, 5, none⟩ = _ := k5
          clear hA9 hB9 hN9 hW9 heX
          go_region_with (first
            | (go_at_call 19; refine (kN9 _ D9).mono ?_; rintro e wa ⟨rfl, hba⟩
               have u0 := cell_below hba y0 (block_lt y0)
               have u1 := cell_below hba y1 (block_lt y1)
               have u2 := cell_below hba y2 (block_lt y2)
               have u3 := cell_below hba y3 (block_lt y3)
               have u4 := cell_below hba y4 (block_lt y4)
               have u5 := cell_below hba y5 (block_lt y5)
               have Da := D9.trans (hba.mono D9.size))
            | (go_at_call 20; refine (kR9 _ Da).mono ?_; rintro e wb ⟨rfl, hbb⟩
               have Db := Da.trans (hbb.mono Da.size)))
          all_goals
            simp only [Act.put, List.getElem_toArray, List.getElem_cons_succ, List.getElem_cons_zero, List.setIfInBounds_toArray, List.set_cons_succ, List.set_cons_zero]
            go_wp2
            go_ret
            exact ⟨by first | rfl | simp, B9.trans (Db.mono B9.size)⟩
        · go_wp2_with (first
            | (go_at_call_of 11 (Value.int .i64 wh); refine (within_any _ _ _ (by decide) (by decide) hq _).mono ?_; rintro e w7 ⟨rfl, rfl⟩)
            | (go_at_call_of 11 (Value.int .i64 k); refine (within_any _ _ _ (by decide) (by decide) hj _).mono ?_; rintro e w8 ⟨rfl, rfl⟩)
            | (go_at_call 16; refine (edge_on k w7 w7 (Below.refl _ _)).mono ?_; rintro e w8 ⟨z, rfl, hb8⟩
               have hX8 := hX7.later hb8
               have x8 := hX8.cells.2.1
               have z8 := hX8.frozen 1
               have lX8 : w3.heap.size < w8.heap.size := (Array.getElem?_eq_some_iff.1 hX8).1))
          obtain ⟨W9, hW9⟩ : ∃ W9, W9 = (w8.setCell ⟨w3.heap.size, 1, none⟩ (.int .i64 (1099511627777))).alloc (.cells #[.int .i64 (-1), .int .i64 0, .int .i64 1099511627776, .int .i64 1099511627777, .int .i64 z] 3) := ⟨_, rfl⟩
          have hN9 : NBox W9 w3.heap.size (sx) ((1099511627777)) (mx) (.slice (p1) (us.length) (q1)) (.slice (p2) (vs.length) (q2)) ax := by rw [hW9]; exact (hX8.set1 (1099511627777)).later (up (Below.refl _ _) _)
          have hA9 : Strs W9 (p1) (us) := by rw [hW9]; exact (strs_grown (hG1.new.1.later hb8) (grown_set _ _ _ _) (fun x hx e => hne1 x hx (Option.some.inj e))).later (up (Below.refl _ _) _)
          have hB9 : Strs W9 (p2) (vs) := by rw [hW9]; exact (strs_grown (hG2.new.1.later hb8) (grown_set _ _ _ _) (fun x hx e => hne2 x hx (Option.some.inj e))).later (up (Below.refl _ _) _)
          have B9 : Below w.heap.size w W9 := by rw [hW9]; exact up ((B7.trans (hb8.mono B7.size)).setCell (p := ⟨w3.heap.size, 1, none⟩) (by have := B7.size; simp; omega) _) _
          rw [← hW9]
          obtain ⟨k0, k1, k2, k3, k4, k5⟩ := hN9.cells
          have kN9 := fun W (h : Below W9.heap.size W9 W) => node_any (sx) ((1099511627777)) (mx) (p1) (p2) (us.length) (vs.length) (q1) (q2) ax (us) (vs) W (hA9.later h) (hB9.later h) rfl rfl
          have kR9 := fun W (h : Below W9.heap.size W9 W) => rNode_any (sx) ((1099511627777)) (mx) (p1) (p2) (us.length) (vs.length) (q1) (q2) ax (us) (vs) W (hA9.later h) (hB9.later h) rfl rfl (by unfold maxLen; omega) hG1.short hG2.short
          obtain ⟨eX, heX⟩ : ∃ e, nodeE (sx) ((1099511627777)) (mx) (us) (vs) = e := ⟨_, rfl⟩
          rw [heX] at kN9 kR9
          have D9 : Below W9.heap.size W9 W9.drew := Below.drew (Below.refl _ _)
          have y0 : W9.drew.cell? ⟨w3.heap.size, 0, none⟩ = _ := k0
          have y1 : W9.drew.cell? ⟨w3.heap.size, 1, none⟩ = _ := k1
          have y2 : W9.drew.cell? ⟨w3.heap.size, 2, none⟩ = _ := k2
          have y3 : W9.drew.cell? ⟨w3.heap.size, 3, none⟩ = _ := k3
          have y4 : W9.drew.cell? ⟨w3.heap.size, 4, none⟩ = _ := k4
          have y5 : W9.drew.cell? ⟨w3.heap.size, 5, none⟩ = _ := k5
          clear hA9 hB9 hN9 hW9 heX
          go_region_with (first
            | (go_at_call 19; refine (kN9 _ D9).mono ?_; rintro e wa ⟨rfl, hba⟩
               have u0 := cell_below hba y0 (block_lt y0)
               have u1 := cell_below hba y1 (block_lt y1)
               have u2 := cell_below hba y2 (block_lt y2)
               have u3 := cell_below hba y3 (block_lt y3)
               have u4 := cell_below hba y4 (block_lt y4)
               have u5 := cell_below hba y5 (block_lt y5)
               have Da := D9.trans (hba.mono D9.size))
            | (go_at_call 20; refine (kR9 _ Da).mono ?_; rintro e wb ⟨rfl, hbb⟩
               have Db := Da.trans (hbb.mono Da.size)))
          all_goals
            simp only [Act.put, List.getElem_toArray, List.getElem_cons_succ, List.getElem_cons_zero, List.setIfInBounds_toArray, List.set_cons_succ, List.set_cons_zero]
            go_wp2
            go_ret
            exact ⟨by first | rfl | simp, B9.trans (Db.mono B9.size)⟩
        · go_wp2_with (first
            | (go_at_call_of 11 (Value.int .i64 wh); refine (within_any _ _ _ (by decide) (by decide) hq _).mono ?_; rintro e w7 ⟨rfl, rfl⟩)
            | (go_at_call_of 11 (Value.int .i64 k); refine (within_any _ _ _ (by decide) (by decide) hj _).mono ?_; rintro e w8 ⟨rfl, rfl⟩)
            | (go_at_call 16; refine (edge_on k w7 w7 (Below.refl _ _)).mono ?_; rintro e w8 ⟨z, rfl, hb8⟩
               have hX8 := hX7.later hb8
               have x8 := hX8.cells.2.1
               have z8 := hX8.frozen 1
               have lX8 : w3.heap.size < w8.heap.size := (Array.getElem?_eq_some_iff.1 hX8).1))
          obtain ⟨W9, hW9⟩ : ∃ W9, W9 = (w8.setCell ⟨w3.heap.size, 1, none⟩ (.int .i64 (z))).alloc (.cells #[.int .i64 (-1), .int .i64 0, .int .i64 1099511627776, .int .i64 1099511627777, .int .i64 z] 3) := ⟨_, rfl⟩
          have hN9 : NBox W9 w3.heap.size (sx) ((z)) (mx) (.slice (p1) (us.length) (q1)) (.slice (p2) (vs.length) (q2)) ax := by rw [hW9]; exact (hX8.set1 (z)).later (up (Below.refl _ _) _)
          have hA9 : Strs W9 (p1) (us) := by rw [hW9]; exact (strs_grown (hG1.new.1.later hb8) (grown_set _ _ _ _) (fun x hx e => hne1 x hx (Option.some.inj e))).later (up (Below.refl _ _) _)
          have hB9 : Strs W9 (p2) (vs) := by rw [hW9]; exact (strs_grown (hG2.new.1.later hb8) (grown_set _ _ _ _) (fun x hx e => hne2 x hx (Option.some.inj e))).later (up (Below.refl _ _) _)
          have B9 : Below w.heap.size w W9 := by rw [hW9]; exact up ((B7.trans (hb8.mono B7.size)).setCell (p := ⟨w3.heap.size, 1, none⟩) (by have := B7.size; simp; omega) _) _
          rw [← hW9]
          obtain ⟨k0, k1, k2, k3, k4, k5⟩ := hN9.cells
          have kN9 := fun W (h : Below W9.heap.size W9 W) => node_any (sx) ((z)) (mx) (p1) (p2) (us.length) (vs.length) (q1) (q2) ax (us) (vs) W (hA9.later h) (hB9.later h) rfl rfl
          have kR9 := fun W (h : Below W9.heap.size W9 W) => rNode_any (sx) ((z)) (mx) (p1) (p2) (us.length) (vs.length) (q1) (q2) ax (us) (vs) W (hA9.later h) (hB9.later h) rfl rfl (by unfold maxLen; omega) hG1.short hG2.short
          obtain ⟨eX, heX⟩ : ∃ e, nodeE (sx) ((z)) (mx) (us) (vs) = e := ⟨_, rfl⟩
          rw [heX] at kN9 kR9
          have D9 : Below W9.heap.size W9 W9.drew := Below.drew (Below.refl _ _)
          have y0 : W9.drew.cell? ⟨w3.heap.size, 0, none⟩ = _ := k0
          have y1 : W9.drew.cell? ⟨w3.heap.size, 1, none⟩ = _ := k1
          have y2 : W9.drew.cell? ⟨w3.heap.size, 2, none⟩ = _ := k2
          have y3 : W9.drew.cell? ⟨w3.heap.size, 3, none⟩ = _ := k3
          have y4 : W9.drew.cell? ⟨w3.heap.size, 4, none⟩ = _ := k4
          have y5 : W9.drew.cell? ⟨w3.heap.size, 5, none⟩ = _ := k5
          clear hA9 hB9 hN9 hW9 heX
          go_region_with (first
            | (go_at_call 19; refine (kN9 _ D9).mono ?_; rintro e wa ⟨rfl, hba⟩
               have u0 := cell_below hba y0 (block_lt y0)
               have u1 := cell_below hba y1 (block_lt y1)
               have u2 := cell_below hba y2 (block_lt y2)
               have u3 := cell_below hba y3 (block_lt y3)
               have u4 := cell_below hba y4 (block_lt y4)
               have u5 := cell_below hba y5 (block_lt y5)
               have Da := D9.trans (hba.mono D9.size))
            | (go_at_call 20; refine (kR9 _ Da).mono ?_; rintro e wb ⟨rfl, hbb⟩
               have Db := Da.trans (hbb.mono Da.size)))
          all_goals
            simp only [Act.put, List.getElem_toArray, List.getElem_cons_succ, List.getElem_cons_zero, List.setIfInBounds_toArray, List.set_cons_succ, List.set_cons_zero]
            go_wp2
            go_ret
            exact ⟨by first | rfl | simp, B9.trans (Db.mono B9.size)⟩
      · obtain ⟨j, hj⟩ : ∃ j, k % 5 = j := ⟨_, rfl⟩
        rcases (by omega : j = 0 ∨ j = 1 ∨ j = 2 ∨ j = 3 ∨ j = 4) with rfl | rfl | rfl | rfl | rfl
        · go_wp2_with (first
            | (go_at_call_of 11 (Value.int .i64 wh); refine (within_any _ _ _ (by decide) (by decide) hq _).mono ?_; rintro e w7 ⟨rfl, rfl⟩)
            | (go_at_call_of 11 (Value.int .i64 k); refine (within_any _ _ _ (by decide) (by decide) hj _).mono ?_; rintro e w8 ⟨rfl, rfl⟩)
            | (go_at_call 16; refine (edge_on k w7 w7 (Below.refl _ _)).mono ?_; rintro e w8 ⟨z, rfl, hb8⟩
               have hX8 := hX7.later hb8
               have x8 := hX8.cells.2.2.1
               have z8 := hX8.frozen 2
               have lX8 : w3.heap.size < w8.heap.size := (Array.getElem?_eq_some_iff.1 hX8).1))
          obtain ⟨W9, hW9⟩ : ∃ W9, W9 = (w8.setCell ⟨w3.heap.size, 2, none⟩ (.int .i64 (-1))).alloc (.cells #[.int .i64 (-1), .int .i64 0, .int .i64 1099511627776, .int .i64 1099511627777, .int .i64 z] 3) := ⟨_, rfl⟩
          have hN9 : NBox W9 w3.heap.size (sx) (cx) ((-1)) (.slice (p1) (us.length) (q1)) (.slice (p2) (vs.length) (q2)) ax := by rw [hW9]; exact (hX8.set2 (-1)).later (up (Below.refl _ _) _)
          have hA9 : Strs W9 (p1) (us) := by rw [hW9]; exact (strs_grown (hG1.new.1.later hb8) (grown_set _ _ _ _) (fun x hx e => hne1 x hx (Option.some.inj e))).later (up (Below.refl _ _) _)
          have hB9 : Strs W9 (p2) (vs) := by rw [hW9]; exact (strs_grown (hG2.new.1.later hb8) (grown_set _ _ _ _) (fun x hx e => hne2 x hx (Option.some.inj e))).later (up (Below.refl _ _) _)
          have B9 : Below w.heap.size w W9 := by rw [hW9]; exact up ((B7.trans (hb8.mono B7.size)).setCell (p := ⟨w3.heap.size, 2, none⟩) (by have := B7.size; simp; omega) _) _
          rw [← hW9]
          obtain ⟨k0, k1, k2, k3, k4, k5⟩ := hN9.cells
          have kN9 := fun W (h : Below W9.heap.size W9 W) => node_any (sx) (cx) ((-1)) (p1) (p2) (us.length) (vs.length) (q1) (q2) ax (us) (vs) W (hA9.later h) (hB9.later h) rfl rfl
          have kR9 := fun W (h : Below W9.heap.size W9 W) => rNode_any (sx) (cx) ((-1)) (p1) (p2) (us.length) (vs.length) (q1) (q2) ax (us) (vs) W (hA9.later h) (hB9.later h) rfl rfl (by unfold maxLen; omega) hG1.short hG2.short
          obtain ⟨eX, heX⟩ : ∃ e, nodeE (sx) (cx) ((-1)) (us) (vs) = e := ⟨_, rfl⟩
          rw [heX] at kN9 kR9
          have D9 : Below W9.heap.size W9 W9.drew := Below.drew (Below.refl _ _)
          have y0 : W9.drew.cell? ⟨w3.heap.size, 0, none⟩ = _ := k0
          have y1 : W9.drew.cell? ⟨w3.heap.size, 1, none⟩ = _ := k1
          have y2 : W9.drew.cell? ⟨w3.heap.size, 2, none⟩ = _ := k2
          have y3 : W9.drew.cell? ⟨w3.heap.size, 3, none⟩ = _ := k3
          have y4 : W9.drew.cell? ⟨w3.heap.size, 4, none⟩ = _ := k4
          have y5 : W9.drew.cell? ⟨w3.heap.size, 5, none⟩ = _ := k5
          clear hA9 hB9 hN9 hW9 heX
          go_region_with (first
            | (go_at_call 19; refine (kN9 _ D9).mono ?_; rintro e wa ⟨rfl, hba⟩
               have u0 := cell_below hba y0 (block_lt y0)
               have u1 := cell_below hba y1 (block_lt y1)
               have u2 := cell_below hba y2 (block_lt y2)
               have u3 := cell_below hba y3 (block_lt y3)
               have u4 := cell_below hba y4 (block_lt y4)
               have u5 := cell_below hba y5 (block_lt y5)
               have Da := D9.trans (hba.mono D9.size))
            | (go_at_call 20; refine (kR9 _ Da).mono ?_; rintro e wb ⟨rfl, hbb⟩
               have Db := Da.trans (hbb.mono Da.size)))
          all_goals
            simp only [Act.put, List.getElem_toArray, List.getElem_cons_succ, List.getElem_cons_zero, List.setIfInBounds_toArray, List.set_cons_succ, List.set_cons_zero]
            go_wp2
            go_ret
            exact ⟨by first | rfl | simp, B9.trans (Db.mono B9.size)⟩
        · go_wp2_with (first
            | (go_at_call_of 11 (Value.int .i64 wh); refine (within_any _ _ _ (by decide) (by decide) hq _).mono ?_; rintro e w7 ⟨rfl, rfl⟩)
            | (go_at_call_of 11 (Value.int .i64 k); refine (within_any _ _ _ (by decide) (by decide) hj _).mono ?_; rintro e w8 ⟨rfl, rfl⟩)
            | (go_at_call 16; refine (edge_on k w7 w7 (Below.refl _ _)).mono ?_; rintro e w8 ⟨z, rfl, hb8⟩
               have hX8 := hX7.later hb8
               have x8 := hX8.cells.2.2.1
               have z8 := hX8.frozen 2
               have lX8 : w3.heap.size < w8.heap.size := (Array.getElem?_eq_some_iff.1 hX8).1))
          obtain ⟨W9, hW9⟩ : ∃ W9, W9 = (w8.setCell ⟨w3.heap.size, 2, none⟩ (.int .i64 (0))).alloc (.cells #[.int .i64 (-1), .int .i64 0, .int .i64 1099511627776, .int .i64 1099511627777, .int .i64 z] 3) := ⟨_, rfl⟩
          have hN9 : NBox W9 w3.heap.size (sx) (cx) ((0)) (.slice (p1) (us.length) (q1)) (.slice (p2) (vs.length) (q2)) ax := by rw [hW9]; exact (hX8.set2 (0)).later (up (Below.refl _ _) _)
          have hA9 : Strs W9 (p1) (us) := by rw [hW9]; exact (strs_grown (hG1.new.1.later hb8) (grown_set _ _ _ _) (fun x hx e => hne1 x hx (Option.some.inj e))).later (up (Below.refl _ _) _)
          have hB9 : Strs W9 (p2) (vs) := by rw [hW9]; exact (strs_grown (hG2.new.1.later hb8) (grown_set _ _ _ _) (fun x hx e => hne2 x hx (Option.some.inj e))).later (up (Below.refl _ _) _)
          have B9 : Below w.heap.size w W9 := by rw [hW9]; exact up ((B7.trans (hb8.mono B7.size)).setCell (p := ⟨w3.heap.size, 2, none⟩) (by have := B7.size; simp; omega) _) _
          rw [← hW9]
          obtain ⟨k0, k1, k2, k3, k4, k5⟩ := hN9.cells
          have kN9 := fun W (h : Below W9.heap.size W9 W) => node_any (sx) (cx) ((0)) (p1) (p2) (us.length) (vs.length) (q1) (q2) ax (us) (vs) W (hA9.later h) (hB9.later h) rfl rfl
          have kR9 := fun W (h : Below W9.heap.size W9 W) => rNode_any (sx) (cx) ((0)) (p1) (p2) (us.length) (vs.length) (q1) (q2) ax (us) (vs) W (hA9.later h) (hB9.later h) rfl rfl (by unfold maxLen; omega) hG1.short hG2.short
          obtain ⟨eX, heX⟩ : ∃ e, nodeE (sx) (cx) ((0)) (us) (vs) = e := ⟨_, rfl⟩
          rw [heX] at kN9 kR9
          have D9 : Below W9.heap.size W9 W9.drew := Below.drew (Below.refl _ _)
          have y0 : W9.drew.cell? ⟨w3.heap.size, 0, none⟩ = _ := k0
          have y1 : W9.drew.cell? ⟨w3.heap.size, 1, none⟩ = _ := k1
          have y2 : W9.drew.cell? ⟨w3.heap.size, 2, none⟩ = _ := k2
          have y3 : W9.drew.cell? ⟨w3.heap.size, 3, none⟩ = _ := k3
          have y4 : W9.drew.cell? ⟨w3.heap.size, 4, none⟩ = _ := k4
          have y5 : W9.drew.cell? ⟨w3.heap.size, 5, none⟩ = _ := k5
          clear hA9 hB9 hN9 hW9 heX
          go_region_with (first
            | (go_at_call 19; refine (kN9 _ D9).mono ?_; rintro e wa ⟨rfl, hba⟩
               have u0 := cell_below hba y0 (block_lt y0)
               have u1 := cell_below hba y1 (block_lt y1)
               have u2 := cell_below hba y2 (block_lt y2)
               have u3 := cell_below hba y3 (block_lt y3)
               have u4 := cell_below hba y4 (block_lt y4)
               have u5 := cell_below hba y5 (block_lt y5)
               have Da := D9.trans (hba.mono D9.size))
            | (go_at_call 20; refine (kR9 _ Da).mono ?_; rintro e wb ⟨rfl, hbb⟩
               have Db := Da.trans (hbb.mono Da.size)))
          all_goals
            simp only [Act.put, List.getElem_toArray, List.getElem_cons_succ, List.getElem_cons_zero, List.setIfInBounds_toArray, List.set_cons_succ, List.set_cons_zero]
            go_wp2
            go_ret
            exact ⟨by first | rfl | simp, B9.trans (Db.mono B9.size)⟩
        · go_wp2_with (first
            | (go_at_call_of 11 (Value.int .i64 wh); refine (within_any _ _ _ (by decide) (by decide) hq _).mono ?_; rintro e w7 ⟨rfl, rfl⟩)
            | (go_at_call_of 11 (Value.int .i64 k); refine (within_any _ _ _ (by decide) (by decide) hj _).mono ?_; rintro e w8 ⟨rfl, rfl⟩)
            | (go_at_call 16; refine (edge_on k w7 w7 (Below.refl _ _)).mono ?_; rintro e w8 ⟨z, rfl, hb8⟩
               have hX8 := hX7.later hb8
               have x8 := hX8.cells.2.2.1
               have z8 := hX8.frozen 2
               have lX8 : w3.heap.size < w8.heap.size := (Array.getElem?_eq_some_iff.1 hX8).1))
          obtain ⟨W9, hW9⟩ : ∃ W9, W9 = (w8.setCell ⟨w3.heap.size, 2, none⟩ (.int .i64 (1099511627776))).alloc (.cells #[.int .i64 (-1), .int .i64 0, .int .i64 1099511627776, .int .i64 1099511627777, .int .i64 z] 3) := ⟨_, rfl⟩
          have hN9 : NBox W9 w3.heap.size (sx) (cx) ((1099511627776)) (.slice (p1) (us.length) (q1)) (.slice (p2) (vs.length) (q2)) ax := by rw [hW9]; exact (hX8.set2 (1099511627776)).later (up (Below.refl _ _) _)
          have hA9 : Strs W9 (p1) (us) := by rw [hW9]; exact (strs_grown (hG1.new.1.later hb8) (grown_set _ _ _ _) (fun x hx e => hne1 x hx (Option.some.inj e))).later (up (Below.refl _ _) _)
          have hB9 : Strs W9 (p2) (vs) := by rw [hW9]; exact (strs_grown (hG2.new.1.later hb8) (grown_set _ _ _ _) (fun x hx e => hne2 x hx (Option.some.inj e))).later (up (Below.refl _ _) _)
          have B9 : Below w.heap.size w W9 := by rw [hW9]; exact up ((B7.trans (hb8.mono B7.size)).setCell (p := ⟨w3.heap.size, 2, none⟩) (by have := B7.size; simp; omega) _) _
          rw [← hW9]
          obtain ⟨k0, k1, k2, k3, k4, k5⟩ := hN9.cells
          have kN9 := fun W (h : Below W9.heap.size W9 W) => node_any (sx) (cx) ((1099511627776)) (p1) (p2) (us.length) (vs.length) (q1) (q2) ax (us) (vs) W (hA9.later h) (hB9.later h) rfl rfl
          have kR9 := fun W (h : Below W9.heap.size W9 W) => rNode_any (sx) (cx) ((1099511627776)) (p1) (p2) (us.length) (vs.length) (q1) (q2) ax (us) (vs) W (hA9.later h) (hB9.later h) rfl rfl (by unfold maxLen; omega) hG1.short hG2.short
          obtain ⟨eX, heX⟩ : ∃ e, nodeE (sx) (cx) ((1099511627776)) (us) (vs) = e := ⟨_, rfl⟩
          rw [heX] at kN9 kR9
          have D9 : Below W9.heap.size W9 W9.drew := Below.drew (Below.refl _ _)
          have y0 : W9.drew.cell? ⟨w3.heap.size, 0, none⟩ = _ := k0
          have y1 : W9.drew.cell? ⟨w3.heap.size, 1, none⟩ = _ := k1
          have y2 : W9.drew.cell? ⟨w3.heap.size, 2, none⟩ = _ := k2
          have y3 : W9.drew.cell? ⟨w3.heap.size, 3, none⟩ = _ := k3
          have y4 : W9.drew.cell? ⟨w3.heap.size, 4, none⟩ = _ := k4
          have y5 : W9.drew.cell? ⟨w3.heap.size, 5, none⟩ = _ := k5
          clear hA9 hB9 hN9 hW9 heX
          go_region_with (first
            | (go_at_call 19; refine (kN9 _ D9).mono ?_; rintro e wa ⟨rfl, hba⟩
               have u0 := cell_below hba y0 (block_lt y0)
               have u1 := cell_below hba y1 (block_lt y1)
               have u2 := cell_below hba y2 (block_lt y2)
               have u3 := cell_below hba y3 (block_lt y3)
               have u4 := cell_below hba y4 (block_lt y4)
               have u5 := cell_below hba y5 (block_lt y5)
               have Da := D9.trans (hba.mono D9.size))
            | (go_at_call 20; refine (kR9 _ Da).mono ?_; rintro e wb ⟨rfl, hbb⟩
               have Db := Da.trans (hbb.mono Da.size)))
          all_goals
            simp only [Act.put, List.getElem_toArray, List.getElem_cons_succ, List.getElem_cons_zero, List.setIfInBounds_toArray, List.set_cons_succ, List.set_cons_zero]
            go_wp2
            go_ret
            exact ⟨by first | rfl | simp, B9.trans (Db.mono B9.size)⟩
        · go_wp2_with (first
            | (go_at_call_of 11 (Value.int .i64 wh); refine (within_any _ _ _ (by decide) (by decide) hq _).mono ?_; rintro e w7 ⟨rfl, rfl⟩)
            | (go_at_call_of 11 (Value.int .i64 k); refine (within_any _ _ _ (by decide) (by decide) hj _).mono ?_; rintro e w8 ⟨rfl, rfl⟩)
            | (go_at_call 16; refine (edge_on k w7 w7 (Below.refl _ _)).mono ?_; rintro e w8 ⟨z, rfl, hb8⟩
               have hX8 := hX7.later hb8
               have x8 := hX8.cells.2.2.1
               have z8 := hX8.frozen 2
               have lX8 : w3.heap.size < w8.heap.size := (Array.getElem?_eq_some_iff.1 hX8).1))
          obtain ⟨W9, hW9⟩ : ∃ W9, W9 = (w8.setCell ⟨w3.heap.size, 2, none⟩ (.int .i64 (1099511627777))).alloc (.cells #[.int .i64 (-1), .int .i64 0, .int .i64 1099511627776, .int .i64 1099511627777, .int .i64 z] 3) := ⟨_, rfl⟩
          have hN9 : NBox W9 w3.heap.size (sx) (cx) ((1099511627777)) (.slice (p1) (us.length) (q1)) (.slice (p2) (vs.length) (q2)) ax := by rw [hW9]; exact (hX8.set2 (1099511627777)).later (up (Below.refl _ _) _)
          have hA9 : Strs W9 (p1) (us) := by rw [hW9]; exact (strs_grown (hG1.new.1.later hb8) (grown_set _ _ _ _) (fun x hx e => hne1 x hx (Option.some.inj e))).later (up (Below.refl _ _) _)
          have hB9 : Strs W9 (p2) (vs) := by rw [hW9]; exact (strs_grown (hG2.new.1.later hb8) (grown_set _ _ _ _) (fun x hx e => hne2 x hx (Option.some.inj e))).later (up (Below.refl _ _) _)
          have B9 : Below w.heap.size w W9 := by rw [hW9]; exact up ((B7.trans (hb8.mono B7.size)).setCell (p := ⟨w3.heap.size, 2, none⟩) (by have := B7.size; simp; omega) _) _
          rw [← hW9]
          obtain ⟨k0, k1, k2, k3, k4, k5⟩ := hN9.cells
          have kN9 := fun W (h : Below W9.heap.size W9 W) => node_any (sx) (cx) ((1099511627777)) (p1) (p2) (us.length) (vs.length) (q1) (q2) ax (us) (vs) W (hA9.later h) (hB9.later h) rfl rfl
          have kR9 := fun W (h : Below W9.heap.size W9 W) => rNode_any (sx) (cx) ((1099511627777)) (p1) (p2) (us.length) (vs.length) (q1) (q2) ax (us) (vs) W (hA9.later h) (hB9.later h) rfl rfl (by unfold maxLen; omega) hG1.short hG2.short
          obtain ⟨eX, heX⟩ : ∃ e, nodeE (sx) (cx) ((1099511627777)) (us) (vs) = e := ⟨_, rfl⟩
          rw [heX] at kN9 kR9
          have D9 : Below W9.heap.size W9 W9.drew := Below.drew (Below.refl _ _)
          have y0 : W9.drew.cell? ⟨w3.heap.size, 0, none⟩ = _ := k0
          have y1 : W9.drew.cell? ⟨w3.heap.size, 1, none⟩ = _ := k1
          have y2 : W9.drew.cell? ⟨w3.heap.size, 2, none⟩ = _ := k2
          have y3 : W9.drew.cell? ⟨w3.heap.size, 3, none⟩ = _ := k3
          have y4 : W9.drew.cell? ⟨w3.heap.size, 4, none⟩ = _ := k4
          have y5 : W9.drew.cell? ⟨w3.heap.size, 5, none⟩ = _ := k5
          clear hA9 hB9 hN9 hW9 heX
          go_region_with (first
            | (go_at_call 19; refine (kN9 _ D9).mono ?_; rintro e wa ⟨rfl, hba⟩
               have u0 := cell_below hba y0 (block_lt y0)
               have u1 := cell_below hba y1 (block_lt y1)
               have u2 := cell_below hba y2 (block_lt y2)
               have u3 := cell_below hba y3 (block_lt y3)
               have u4 := cell_below hba y4 (block_lt y4)
               have u5 := cell_below hba y5 (block_lt y5)
               have Da := D9.trans (hba.mono D9.size))
            | (go_at_call 20; refine (kR9 _ Da).mono ?_; rintro e wb ⟨rfl, hbb⟩
               have Db := Da.trans (hbb.mono Da.size)))
          all_goals
            simp only [Act.put, List.getElem_toArray, List.getElem_cons_succ, List.getElem_cons_zero, List.setIfInBounds_toArray, List.set_cons_succ, List.set_cons_zero]
            go_wp2
            go_ret
            exact ⟨by first | rfl | simp, B9.trans (Db.mono B9.size)⟩
        · go_wp2_with (first
            | (go_at_call_of 11 (Value.int .i64 wh); refine (within_any _ _ _ (by decide) (by decide) hq _).mono ?_; rintro e w7 ⟨rfl, rfl⟩)
            | (go_at_call_of 11 (Value.int .i64 k); refine (within_any _ _ _ (by decide) (by decide) hj _).mono ?_; rintro e w8 ⟨rfl, rfl⟩)
            | (go_at_call 16; refine (edge_on k w7 w7 (Below.refl _ _)).mono ?_; rintro e w8 ⟨z, rfl, hb8⟩
               have hX8 := hX7.later hb8
               have x8 := hX8.cells.2.2.1
               have z8 := hX8.frozen 2
               have lX8 : w3.heap.size < w8.heap.size := (Array.getElem?_eq_some_iff.1 hX8).1))
          obtain ⟨W9, hW9⟩ : ∃ W9, W9 = (w8.setCell ⟨w3.heap.size, 2, none⟩ (.int .i64 (z))).alloc (.cells #[.int .i64 (-1), .int .i64 0, .int .i64 1099511627776, .int .i64 1099511627777, .int .i64 z] 3) := ⟨_, rfl⟩
          have hN9 : NBox W9 w3.heap.size (sx) (cx) ((z)) (.slice (p1) (us.length) (q1)) (.slice (p2) (vs.length) (q2)) ax := by rw [hW9]; exact (hX8.set2 (z)).later (up (Below.refl _ _) _)
          have hA9 : Strs W9 (p1) (us) := by rw [hW9]; exact (strs_grown (hG1.new.1.later hb8) (grown_set _ _ _ _) (fun x hx e => hne1 x hx (Option.some.inj e))).later (up (Below.refl _ _) _)
          have hB9 : Strs W9 (p2) (vs) := by rw [hW9]; exact (strs_grown (hG2.new.1.later hb8) (grown_set _ _ _ _) (fun x hx e => hne2 x hx (Option.some.inj e))).later (up (Below.refl _ _) _)
          have B9 : Below w.heap.size w W9 := by rw [hW9]; exact up ((B7.trans (hb8.mono B7.size)).setCell (p := ⟨w3.heap.size, 2, none⟩) (by have := B7.size; simp; omega) _) _
          rw [← hW9]
          obtain ⟨k0, k1, k2, k3, k4, k5⟩ := hN9.cells
          have kN9 := fun W (h : Below W9.heap.size W9 W) => node_any (sx) (cx) ((z)) (p1) (p2) (us.length) (vs.length) (q1) (q2) ax (us) (vs) W (hA9.later h) (hB9.later h) rfl rfl
          have kR9 := fun W (h : Below W9.heap.size W9 W) => rNode_any (sx) (cx) ((z)) (p1) (p2) (us.length) (vs.length) (q1) (q2) ax (us) (vs) W (hA9.later h) (hB9.later h) rfl rfl (by unfold maxLen; omega) hG1.short hG2.short
          obtain ⟨eX, heX⟩ : ∃ e, nodeE (sx) (cx) ((z)) (us) (vs) = e := ⟨_, rfl⟩
          rw [heX] at kN9 kR9
          have D9 : Below W9.heap.size W9 W9.drew := Below.drew (Below.refl _ _)
          have y0 : W9.drew.cell? ⟨w3.heap.size, 0, none⟩ = _ := k0
          have y1 : W9.drew.cell? ⟨w3.heap.size, 1, none⟩ = _ := k1
          have y2 : W9.drew.cell? ⟨w3.heap.size, 2, none⟩ = _ := k2
          have y3 : W9.drew.cell? ⟨w3.heap.size, 3, none⟩ = _ := k3
          have y4 : W9.drew.cell? ⟨w3.heap.size, 4, none⟩ = _ := k4
          have y5 : W9.drew.cell? ⟨w3.heap.size, 5, none⟩ = _ := k5
          clear hA9 hB9 hN9 hW9 heX
          go_region_with (first
            | (go_at_call 19; refine (kN9 _ D9).mono ?_; rintro e wa ⟨rfl, hba⟩
               have u0 := cell_below hba y0 (block_lt y0)
               have u1 := cell_below hba y1 (block_lt y1)
               have u2 := cell_below hba y2 (block_lt y2)
               have u3 := cell_below hba y3 (block_lt y3)
               have u4 := cell_below hba y4 (block_lt y4)
               have u5 := cell_below hba y5 (block_lt y5)
               have Da := D9.trans (hba.mono D9.size))
            | (go_at_call 20; refine (kR9 _ Da).mono ?_; rintro e wb ⟨rfl, hbb⟩
               have Db := Da.trans (hbb.mono Da.size)))
          all_goals
            simp only [Act.put, List.getElem_toArray, List.getElem_cons_succ, List.getElem_cons_zero, List.setIfInBounds_toArray, List.set_cons_succ, List.set_cons_zero]
            go_wp2
            go_ret
            exact ⟨by first | rfl | simp, B9.trans (Db.mono B9.size)⟩
      · have x7 := hX7.cells.2.2.2.1
        have hus : us.length ≤ 4 := set_len hG1.set
        have own0 : (w7.alloc (.cells #[] 9)).ownsRow w7.heap.size 9 1 (.slice (some ⟨w7.heap.size, 0, none⟩) 0 0) 0 (([] : List ByteArray).map Value.string) := World.ownsRow_lit w7 #[] 0 (Nat.le_refl _) (Nat.zero_le _) rfl
        have lX7 : w3.heap.size < w7.heap.size := (Array.getElem?_eq_some_iff.1 hX7).1
        go_wp2_with (first
          | (go_at_call 11; refine (within_any _ _ _ (by decide) (by decide) hq _).mono ?_; rintro e w7 ⟨rfl, rfl⟩)
          | (at_builtin; refine append_strs rfl _ _ rfl w7.heap.size _ 0 [] rfl own0 p1 us.length q1 us rfl (hG1.new.1.later (up (Below.refl _ _) _)) rfl hG1.new.2.2.1 (by simp) (by simp) ?_; intro v1 w8 own1 gr1
             have B8 : Below w7.heap.size w7 w8 := (up (Below.refl _ _) _).grown gr1 (by simp) (fun j hj => by cases hj; exact Nat.le_refl _)
             replace own1 : w8.ownsRow w7.heap.size 9 1 v1 us.length (us.map Value.string) := by simpa using own1)
          | (go_at_call 15; refine (text_on a5 len5 cap5 z5 w8 w8 (w5.later (B7.trans (B8.mono B7.size))) (Below.refl _ _)).mono ?_; rintro e w9 ⟨t, rfl, ht, hb9⟩
             have B9a := B8.trans (hb9.mono B8.size)
             have own2 := own_keep own1 hb9)
          | (at_builtin; refine append_strs rfl _ _ rfl w7.heap.size _ us.length us rfl (own2.alloc _) (some ⟨_, 0, none⟩) 1 1 [t] rfl (strs_lit1 _ _) rfl (fun h => by cases h) (by omega) (by have := B9a.size; simp; omega) ?_; intro v2 w10 own3 gr3
             have B10 : Below w7.heap.size w7 w10 := (up B9a _).grown gr3 (up B9a _).size (fun j hj => (own2.lt j hj).1)
             obtain ⟨a10, c10, hv10, hN10⟩ := newStrs_of_own own3 (by simp; omega)
             rw [List.length_append] at hv10
             subst hv10
             have hX10 := hX7.later B10
             have x10 := hX10.cells.2.2.2.1
             have z10 := hX10.frozen 3)
          | go_in)
        have hne3 : ∀ x, a10 = some x → x.block ≠ w3.heap.size := fun x hx e => by have := (hN10.2.1 x hx).1; omega
        obtain ⟨W9, hW9⟩ : ∃ W9, W9 = w10.setCell ⟨w3.heap.size, 3, none⟩ (.slice a10 (us.length + 1) c10) := ⟨_, rfl⟩
        have hN9 : NBox W9 w3.heap.size (sx) (cx) (mx) (.slice (a10) (us.length + 1) (c10)) (.slice (p2) (vs.length) (q2)) ax := by rw [hW9]; exact hX10.set3 _
        have hA9 : Strs W9 (a10) (us ++ [t]) := by rw [hW9]; exact strs_grown hN10.1 (grown_set _ _ _ _) (fun x hx e => hne3 x hx (Option.some.inj e))
        have hB9 : Strs W9 (p2) (vs) := by rw [hW9]; exact strs_grown (hG2.new.1.later B10) (grown_set _ _ _ _) (fun x hx e => hne2 x hx (Option.some.inj e))
        have B9 : Below w.heap.size w W9 := by rw [hW9]; exact (B7.trans (B10.mono B7.size)).setCell (p := ⟨w3.heap.size, 3, none⟩) (by have := B7.size; simp; omega) _
        rw [← hW9]
        obtain ⟨k0, k1, k2, k3, k4, k5⟩ := hN9.cells
        have kN9 := fun W (h : Below W9.heap.size W9 W) => node_any (sx) (cx) (mx) (a10) (p2) (us.length + 1) (vs.length) (c10) (q2) ax (us ++ [t]) (vs) W (hA9.later h) (hB9.later h) (by simp) rfl
        have kR9 := fun W (h : Below W9.heap.size W9 W) => rNode_any (sx) (cx) (mx) (a10) (p2) (us.length + 1) (vs.length) (c10) (q2) ax (us ++ [t]) (vs) W (hA9.later h) (hB9.later h) (by simp) rfl (by unfold maxLen; omega) (fun s hs => by rcases List.mem_append.1 hs with h | h; exact hG1.short s h; simp at h; subst h; omega) hG2.short
        obtain ⟨eX, heX⟩ : ∃ e, nodeE (sx) (cx) (mx) (us ++ [t]) (vs) = e := ⟨_, rfl⟩
        rw [heX] at kN9 kR9
        have D9 : Below W9.heap.size W9 W9.drew := Below.drew (Below.refl _ _)
        have y0 : W9.drew.cell? ⟨w3.heap.size, 0, none⟩ = _ := k0
        have y1 : W9.drew.cell? ⟨w3.heap.size, 1, none⟩ = _ := k1
        have y2 : W9.drew.cell? ⟨w3.heap.size, 2, none⟩ = _ := k2
        have y3 : W9.drew.cell? ⟨w3.heap.size, 3, none⟩ = _ := k3
        have y4 : W9.drew.cell? ⟨w3.heap.size, 4, none⟩ = _ := k4
        have y5 : W9.drew.cell? ⟨w3.heap.size, 5, none⟩ = _ := k5
        clear hA9 hB9 hN9 hW9 heX
        go_region_with (first
          | (go_at_call 19; refine (kN9 _ D9).mono ?_; rintro e wa ⟨rfl, hba⟩
             have u0 := cell_below hba y0 (block_lt y0)
             have u1 := cell_below hba y1 (block_lt y1)
             have u2 := cell_below hba y2 (block_lt y2)
             have u3 := cell_below hba y3 (block_lt y3)
             have u4 := cell_below hba y4 (block_lt y4)
             have u5 := cell_below hba y5 (block_lt y5)
             have Da := D9.trans (hba.mono D9.size))
          | (go_at_call 20; refine (kR9 _ Da).mono ?_; rintro e wb ⟨rfl, hbb⟩
             have Db := Da.trans (hbb.mono Da.size)))
        all_goals
          simp only [Act.put, List.getElem_toArray, List.getElem_cons_succ, List.getElem_cons_zero, List.setIfInBounds_toArray, List.set_cons_succ, List.set_cons_zero]
          go_wp2
          go_ret
          exact ⟨by first | rfl | simp, B9.trans (Db.mono B9.size)⟩
      · obtain ⟨j, hj⟩ : ∃ j, k % 2 = j := ⟨_, rfl⟩
        have x7 := hX7.cells.2.2.2.2.1
        have z7 := hX7.frozen 4
        have lX7 : w3.heap.size < w7.heap.size := (Array.getElem?_eq_some_iff.1 hX7).1
        rcases (by omega : j = 0 ∨ j = 1) with rfl | rfl
        · go_wp2_with (first
            | (go_at_call_of 11 (Value.int .i64 wh); refine (within_any _ _ _ (by decide) (by decide) hq _).mono ?_; rintro e w7 ⟨rfl, rfl⟩)
            | (go_at_call_of 11 (Value.int .i64 k); refine (within_any _ _ _ (by decide) (by decide) hj _).mono ?_; rintro e w7 ⟨rfl, rfl⟩))
          obtain ⟨W9, hW9⟩ : ∃ W9, W9 = (w7.setCell ⟨w3.heap.size, 4, none⟩ (.slice (some ⟨w7.heap.size, 0, none⟩) 2 2)).alloc (.cells #[.string ⟨#[98]⟩, .string ⟨#[97]⟩] 9) := ⟨_, rfl⟩
          have hN9 : NBox W9 w3.heap.size (sx) (cx) (mx) (.slice (p1) (us.length) (q1)) (.slice (some ⟨w7.heap.size, 0, none⟩) (2) (2)) ax := by rw [hW9]; exact (hX7.set4 _).later (up (Below.refl _ _) _)
          have hA9 : Strs W9 (p1) (us) := by rw [hW9]; exact (strs_grown hG1.new.1 (grown_set _ _ _ _) (fun x hx e => hne1 x hx (Option.some.inj e))).later (up (Below.refl _ _) _)
          have hB9 : Strs W9 (some ⟨w7.heap.size, 0, none⟩) ([⟨#[98]⟩, ⟨#[97]⟩]) := by rw [hW9]; exact strs_ba0 _ _ (by simp)
          have B9 : Below w.heap.size w W9 := by rw [hW9]; exact up (B7.setCell (p := ⟨w3.heap.size, 4, none⟩) (by have := B7.size; simp; omega) _) _
          rw [← hW9]
          obtain ⟨k0, k1, k2, k3, k4, k5⟩ := hN9.cells
          have kN9 := fun W (h : Below W9.heap.size W9 W) => node_any (sx) (cx) (mx) (p1) (some ⟨w7.heap.size, 0, none⟩) (us.length) (2) (q1) (2) ax (us) ([⟨#[98]⟩, ⟨#[97]⟩]) W (hA9.later h) (hB9.later h) rfl rfl
          have kR9 := fun W (h : Below W9.heap.size W9 W) => rNode_any (sx) (cx) (mx) (p1) (some ⟨w7.heap.size, 0, none⟩) (us.length) (2) (q1) (2) ax (us) ([⟨#[98]⟩, ⟨#[97]⟩]) W (hA9.later h) (hB9.later h) rfl rfl (by unfold maxLen; omega) hG1.short (by decide)
          obtain ⟨eX, heX⟩ : ∃ e, nodeE (sx) (cx) (mx) (us) ([⟨#[98]⟩, ⟨#[97]⟩]) = e := ⟨_, rfl⟩
          rw [heX] at kN9 kR9
          have D9 : Below W9.heap.size W9 W9.drew := Below.drew (Below.refl _ _)
          have y0 : W9.drew.cell? ⟨w3.heap.size, 0, none⟩ = _ := k0
          have y1 : W9.drew.cell? ⟨w3.heap.size, 1, none⟩ = _ := k1
          have y2 : W9.drew.cell? ⟨w3.heap.size, 2, none⟩ = _ := k2
          have y3 : W9.drew.cell? ⟨w3.heap.size, 3, none⟩ = _ := k3
          have y4 : W9.drew.cell? ⟨w3.heap.size, 4, none⟩ = _ := k4
          have y5 : W9.drew.cell? ⟨w3.heap.size, 5, none⟩ = _ := k5
          clear hA9 hB9 hN9 hW9 heX
          go_region_with (first
            | (go_at_call 19; refine (kN9 _ D9).mono ?_; rintro e wa ⟨rfl, hba⟩
               have u0 := cell_below hba y0 (block_lt y0)
               have u1 := cell_below hba y1 (block_lt y1)
               have u2 := cell_below hba y2 (block_lt y2)
               have u3 := cell_below hba y3 (block_lt y3)
               have u4 := cell_below hba y4 (block_lt y4)
               have u5 := cell_below hba y5 (block_lt y5)
               have Da := D9.trans (hba.mono D9.size))
            | (go_at_call 20; refine (kR9 _ Da).mono ?_; rintro e wb ⟨rfl, hbb⟩
               have Db := Da.trans (hbb.mono Da.size)))
          all_goals
            simp only [Act.put, List.getElem_toArray, List.getElem_cons_succ, List.getElem_cons_zero, List.setIfInBounds_toArray, List.set_cons_succ, List.set_cons_zero]
            go_wp2
            go_ret
            exact ⟨by first | rfl | simp, B9.trans (Db.mono B9.size)⟩
        · go_wp2_with (first
            | (go_at_call_of 11 (Value.int .i64 wh); refine (within_any _ _ _ (by decide) (by decide) hq _).mono ?_; rintro e w7 ⟨rfl, rfl⟩)
            | (go_at_call_of 11 (Value.int .i64 k); refine (within_any _ _ _ (by decide) (by decide) hj _).mono ?_; rintro e w7 ⟨rfl, rfl⟩))
          obtain ⟨W9, hW9⟩ : ∃ W9, W9 = (w7.setCell ⟨w3.heap.size, 4, none⟩ (.slice (some ⟨w7.heap.size, 1, none⟩) 1 1)).alloc (.cells #[.string ⟨#[98]⟩, .string ⟨#[97]⟩] 9) := ⟨_, rfl⟩
          have hN9 : NBox W9 w3.heap.size (sx) (cx) (mx) (.slice (p1) (us.length) (q1)) (.slice (some ⟨w7.heap.size, 1, none⟩) (1) (1)) ax := by rw [hW9]; exact (hX7.set4 _).later (up (Below.refl _ _) _)
          have hA9 : Strs W9 (p1) (us) := by rw [hW9]; exact (strs_grown hG1.new.1 (grown_set _ _ _ _) (fun x hx e => hne1 x hx (Option.some.inj e))).later (up (Below.refl _ _) _)
          have hB9 : Strs W9 (some ⟨w7.heap.size, 1, none⟩) ([⟨#[97]⟩]) := by rw [hW9]; exact strs_ba1 _ _ (by simp)
          have B9 : Below w.heap.size w W9 := by rw [hW9]; exact up (B7.setCell (p := ⟨w3.heap.size, 4, none⟩) (by have := B7.size; simp; omega) _) _
          rw [← hW9]
          obtain ⟨k0, k1, k2, k3, k4, k5⟩ := hN9.cells
          have kN9 := fun W (h : Below W9.heap.size W9 W) => node_any (sx) (cx) (mx) (p1) (some ⟨w7.heap.size, 1, none⟩) (us.length) (1) (q1) (1) ax (us) ([⟨#[97]⟩]) W (hA9.later h) (hB9.later h) rfl rfl
          have kR9 := fun W (h : Below W9.heap.size W9 W) => rNode_any (sx) (cx) (mx) (p1) (some ⟨w7.heap.size, 1, none⟩) (us.length) (1) (q1) (1) ax (us) ([⟨#[97]⟩]) W (hA9.later h) (hB9.later h) rfl rfl (by unfold maxLen; omega) hG1.short (by decide)
          obtain ⟨eX, heX⟩ : ∃ e, nodeE (sx) (cx) (mx) (us) ([⟨#[97]⟩]) = e := ⟨_, rfl⟩
          rw [heX] at kN9 kR9
          have D9 : Below W9.heap.size W9 W9.drew := Below.drew (Below.refl _ _)
          have y0 : W9.drew.cell? ⟨w3.heap.size, 0, none⟩ = _ := k0
          have y1 : W9.drew.cell? ⟨w3.heap.size, 1, none⟩ = _ := k1
          have y2 : W9.drew.cell? ⟨w3.heap.size, 2, none⟩ = _ := k2
          have y3 : W9.drew.cell? ⟨w3.heap.size, 3, none⟩ = _ := k3
          have y4 : W9.drew.cell? ⟨w3.heap.size, 4, none⟩ = _ := k4
          have y5 : W9.drew.cell? ⟨w3.heap.size, 5, none⟩ = _ := k5
          clear hA9 hB9 hN9 hW9 heX
          go_region_with (first
            | (go_at_call 19; refine (kN9 _ D9).mono ?_; rintro e wa ⟨rfl, hba⟩
               have u0 := cell_below hba y0 (block_lt y0)
               have u1 := cell_below hba y1 (block_lt y1)
               have u2 := cell_below hba y2 (block_lt y2)
               have u3 := cell_below hba y3 (block_lt y3)
               have u4 := cell_below hba y4 (block_lt y4)
               have u5 := cell_below hba y5 (block_lt y5)
               have Da := D9.trans (hba.mono D9.size))
            | (go_at_call 20; refine (kR9 _ Da).mono ?_; rintro e wb ⟨rfl, hbb⟩
               have Db := Da.trans (hbb.mono Da.size)))
          all_goals
            simp only [Act.put, List.getElem_toArray, List.getElem_cons_succ, List.getElem_cons_zero, List.setIfInBounds_toArray, List.set_cons_succ, List.set_cons_zero]
            go_wp2
            go_ret
            exact ⟨by first | rfl | simp, B9.trans (Db.mono B9.size)⟩
    go_region_with (first
      | (go_at_call_of 19 (Value.agg #[.string s, .int .i64 cpu, .int .i64 mem, .slice a1 n1 c1, .slice a2 n2 c2, .bool al]); refine (kN' _ D4).mono ?_; rintro e wa ⟨rfl, hbwa⟩
         have f0 := cell_below hbwa m0' (block_lt m0')
         have f1 := cell_below hbwa m1' (block_lt m1')
         have f2 := cell_below hbwa m2' (block_lt m2')
         have f3 := cell_below hbwa m3' (block_lt m3')
         have f4 := cell_below hbwa m4' (block_lt m4')
         have f5 := cell_below hbwa m5' (block_lt m5')
         have g0 := cell_below hbwa o0' (block_lt o0')
         have g1 := cell_below hbwa o1' (block_lt o1')
         have g2 := cell_below hbwa o2' (block_lt o2')
         have g3 := cell_below hbwa o3' (block_lt o3')
         have g4 := cell_below hbwa o4' (block_lt o4')
         have g5 := cell_below hbwa o5' (block_lt o5')
         have D5 := D4.trans (hbwa.mono D4.size))
      | (go_at_call_of 20 (Value.agg #[.string s, .int .i64 cpu, .int .i64 mem, .slice a1 n1 c1, .slice a2 n2 c2, .bool al]); refine (kR' _ D5).mono ?_; rintro e wb ⟨rfl, hbwb⟩
         have h0 := cell_below hbwb g0 (block_lt g0)
         have h1 := cell_below hbwb g1 (block_lt g1)
         have h2 := cell_below hbwb g2 (block_lt g2)
         have h3 := cell_below hbwb g3 (block_lt g3)
         have h4 := cell_below hbwb g4 (block_lt g4)
         have h5 := cell_below hbwb g5 (block_lt g5)
         have D6 := D5.trans (hbwb.mono D5.size))
      | (go_at_call_of 19 (Value.agg #[.string sx, .int .i64 cx, .int .i64 mx, .slice p1 us.length q1, .slice p2 vs.length q2, .bool ax]); refine (kX' _ D6).mono ?_; rintro e w7 ⟨rfl, hbw7⟩
         have j0 := cell_below hbw7 h0 (block_lt h0)
         have j1 := cell_below hbw7 h1 (block_lt h1)
         have j2 := cell_below hbw7 h2 (block_lt h2)
         have j3 := cell_below hbw7 h3 (block_lt h3)
         have j4 := cell_below hbw7 h4 (block_lt h4)
         have j5 := cell_below hbw7 h5 (block_lt h5)
         have D7 := D6.trans (hbw7.mono D6.size)))
    all_goals
      simp only [Act.put, List.getElem_toArray, List.getElem_cons_succ, List.getElem_cons_zero, List.setIfInBounds_toArray, List.set_cons_succ, List.set_cons_zero]
      exact key _ D7

end Go.Proofs.Ytgcicillmljglaa
