/- The contracts of Score of package score, whose table lies in the first variable, and of the chapter's own Score. -/
import Derived.Test.YtpgchnppinbpkaaDoorRL
import Derived.Test.YtpgchnppinbpkaaDoorSC
import Derived.Deep.DeepCutAuto
namespace Go.Proofs.YtpgchnppinbpkaaDoor
open Go.RowKit

/-- The table of the modes. -/
structure Tab (w : World) : Prop where
  c0 : w.cell? ⟨0, 0, none⟩ = some (.int .i64 0)
  c1 : w.cell? ⟨0, 1, none⟩ = some (.int .i64 1)
  c2 : w.cell? ⟨0, 2, none⟩ = some (.int .i64 0)
  c3 : w.cell? ⟨0, 3, none⟩ = some (.int .i64 200)
  c4 : w.cell? ⟨0, 4, none⟩ = some (.int .i64 (-1))
  c5 : w.cell? ⟨0, 5, none⟩ = some (.int .i64 0)
  c6 : w.cell? ⟨0, 6, none⟩ = some (.int .i64 1000)
  c7 : w.cell? ⟨0, 7, none⟩ = some (.int .i64 0)
  c8 : w.cell? ⟨0, 8, none⟩ = some (.int .i64 (-1))
theorem Tab.later {w w' : World} (h : Tab w) (hb : Below w.heap.size w w') : Tab w' :=
  have k : ∀ {i : Nat} {v : Value}, w.cell? ⟨0, i, none⟩ = some v → w'.cell? ⟨0, i, none⟩ = some v := fun hc => cell_below hb hc (block_lt hc)
  ⟨k h.c0, k h.c1, k h.c2, k h.c3, k h.c4, k h.c5, k h.c6, k h.c7, k h.c8⟩

/-- The score. -/
def scoreV (mode L pods : Int) : Int := if mode = 0 then L else if mode = 1 then 200 - L else if mode = 2 then 1000 - pods else 0

def scoreF (bb ll nn c m u v x y L r1 r2 r3 pods z : Int) (T : Nat) : Nat → Value → World → Prop
  | 0, r, _ => r = .pointer (some ⟨T, 0, none⟩)
  | 1, r, _ => r = .int .i64 bb
  | 2, r, _ => r = .pointer (some ⟨T, 1, none⟩)
  | 3, r, _ => r = .int .i64 ll
  | 4, r, _ => r = .agg #[.int .i64 c, .int .i64 m]
  | 5, r, _ => r = .agg #[.int .i64 u, .int .i64 v]
  | 6, r, _ => r = .agg #[.int .i64 x, .int .i64 y]
  | 7, r, _ => r = .int .i64 L
  | 8, r, _ => r = .int .i64 r1
  | 9, r, _ => r = .int .i64 r2
  | 10, r, _ => r = .pointer (some ⟨T, 2, none⟩)
  | 11, r, _ => r = .int .i64 nn
  | 12, r, _ => r = .int .i64 pods
  | 13, r, _ => r = .int .i64 r3
  | 14, r, _ => r = .int .i64 z
  | 15, r, _ => r = .int .i64 z
  | _, _, _ => True

set_option maxRecDepth 100000 in
set_option maxHeartbeats 4000000 in
theorem score_in (mode bb ll nn c m u v x y L r1 r2 r3 pods z : Int) (h : Good c m u v x y) (hL : leftF c m u v x y = L)
    (e1 : IntKind.i64.wrap (ll * L) = r1) (e2 : IntKind.i64.wrap (bb + r1) = r2) (e3 : IntKind.i64.wrap (nn * pods) = r3) (e4 : IntKind.i64.wrap (r2 + r3) = z) (w : World)
    (hm : (mode = 0 ∧ w.cell? ⟨0, 0, none⟩ = some (.int .i64 bb) ∧ w.cell? ⟨0, 1, none⟩ = some (.int .i64 ll) ∧ w.cell? ⟨0, 2, none⟩ = some (.int .i64 nn)) ∨
      (mode = 1 ∧ w.cell? ⟨0, 3, none⟩ = some (.int .i64 bb) ∧ w.cell? ⟨0, 4, none⟩ = some (.int .i64 ll) ∧ w.cell? ⟨0, 5, none⟩ = some (.int .i64 nn)) ∨
      (mode = 2 ∧ w.cell? ⟨0, 6, none⟩ = some (.int .i64 bb) ∧ w.cell? ⟨0, 7, none⟩ = some (.int .i64 ll) ∧ w.cell? ⟨0, 8, none⟩ = some (.int .i64 nn))) :
    Calls Tryd.prog 68 #[.int .i64 mode, .agg #[.int .i64 c, .int .i64 m], .agg #[.int .i64 u, .int .i64 v], .agg #[.int .i64 x, .int .i64 y], .int .i64 pods] w fun e w' => e = .returned (.int .i64 z) ∧ Below w.heap.size w w' := by
  have kL := fun W => left_any c m u v x y L h hL W
  clear h hL
  have hs : 0 < w.heap.size := by
    rcases hm with ⟨_, h, _⟩ | ⟨_, h, _⟩ | ⟨_, h, _⟩ <;> exact block_lt h
  rcases hm with ⟨rfl, m0, m1, m2⟩ | ⟨rfl, m0, m1, m2⟩ | ⟨rfl, m0, m1, m2⟩
  all_goals
    have n0 := cell_alloc (cell_alloc (cell_alloc m0 (V c m)) (V u v)) (V x y)
    have n1 := cell_alloc (cell_alloc (cell_alloc m1 (V c m)) (V u v)) (V x y)
    have n2 := cell_alloc (cell_alloc (cell_alloc m2 (V c m)) (V u v)) (V x y)
    have s0 : 0 < w.heap.size + 1 := by omega
    go_enter Tryd.func68, Tryd.ntmps68
    go_upto_region 4 with fail
    have qc : Box ((((w.alloc (V c m)).alloc (V u v)).alloc (V x y)).alloc (.cells #[.int .i64 bb, .int .i64 ll, .int .i64 nn] 122)) w.heap.size #[.int .i64 c, .int .i64 m] 40 := (((Box.new w _ _ rfl).up _).up _).up _
    have qu : Box ((((w.alloc (V c m)).alloc (V u v)).alloc (V x y)).alloc (.cells #[.int .i64 bb, .int .i64 ll, .int .i64 nn] 122)) (w.heap.size + 1) #[.int .i64 u, .int .i64 v] 40 := ((Box.new _ _ _ (by simp)).up _).up _
    have qx : Box ((((w.alloc (V c m)).alloc (V u v)).alloc (V x y)).alloc (.cells #[.int .i64 bb, .int .i64 ll, .int .i64 nn] 122)) (w.heap.size + 1 + 1) #[.int .i64 x, .int .i64 y] 40 := (Box.new _ _ _ (by simp)).up _
    have qt : Box ((((w.alloc (V c m)).alloc (V u v)).alloc (V x y)).alloc (.cells #[.int .i64 bb, .int .i64 ll, .int .i64 nn] 122)) (w.heap.size + 1 + 1 + 1) #[.int .i64 bb, .int .i64 ll, .int .i64 nn] 122 := Box.new _ _ _ (by simp)
    have hW := up (up (up (up (Below.refl w.heap.size w) (V c m)) (V u v)) (V x y)) (.cells #[.int .i64 bb, .int .i64 ll, .int .i64 nn] 122)
    generalize (((w.alloc (V c m)).alloc (V u v)).alloc (V x y)).alloc (.cells #[.int .i64 bb, .int .i64 ll, .int .i64 nn] 122) = W at *
    generalize hT : w.heap.size + 1 + 1 + 1 = T at *
    clear n0 n1 n2 m0 m1 m2 s0
    refine wp_region_rely (fun w1 => Below W.heap.size W w1) (fun w1 w2 => Below w1.heap.size w1 w2) (scoreF bb ll nn c m u v x y L r1 r2 r3 pods z T) (by kernel_rfl) (by kernel_rfl) (Below.refl _ _).drew ?keep ?step ?rest
    case keep =>
      intro i v w1 w2 hS hF
      unfold scoreF at *
      split at hF <;> try exact hF
    case step =>
      intro i o d ho hd b w1 hR hold hdep
      have o4 : sl b 4 = .int .i64 pods := hold 4 (by kernel_rfl)
      have o6 : sl b 6 = .pointer (some ⟨w.heap.size, 0, none⟩) := hold 6 (by kernel_rfl)
      have o7 : sl b 7 = .pointer (some ⟨(w.heap.size + 1), 0, none⟩) := hold 7 (by kernel_rfl)
      have o8 : sl b 8 = .pointer (some ⟨(w.heap.size + 1 + 1), 0, none⟩) := hold 8 (by kernel_rfl)
      have o11 : sl b 11 = .pointer (some ⟨T, 0, none⟩) := hold 11 (by kernel_rfl)
      have hb0 := Below.refl w1.heap.size w1
      obtain ⟨x0, x1⟩ := (qc.later hR).cells2
      obtain ⟨u0, u1⟩ := (qu.later hR).cells2
      obtain ⟨p0, p1⟩ := (qx.later hR).cells2
      have t0 := (qt.later hR).cell (i := 0) rfl
      have t1 := (qt.later hR).cell (i := 1) rfl
      have t2 := (qt.later hR).cell (i := 2) rfl
      rcases i with _ | _ | _ | _ | _ | _ | _ | _ | _ | _ | _ | _ | _ | _ | _ | _ | i
      all_goals try (cases ho; cases hd)
      · exact ok_val' rfl rfl (want_none rfl b) (by simp [go_sem, o11]) hR hb0 rfl
      · have f21 : sl b 21 = .pointer (some ⟨T, 0, none⟩) := hdep 0 _ _ rfl rfl (by kernel_rfl)
        exact ok_val' rfl rfl (want_none rfl b) (by simp [go_sem, f21, t0]) hR hb0 rfl
      · exact ok_val' rfl rfl (want_none rfl b) (by simp [go_sem, o11]) hR hb0 rfl
      · have f23 : sl b 23 = .pointer (some ⟨T, 1, none⟩) := hdep 2 _ _ rfl rfl (by kernel_rfl)
        exact ok_val' rfl rfl (want_none rfl b) (by simp [go_sem, f23, t1]) hR hb0 rfl
      · exact ok_val' rfl rfl (want_none rfl b) (by simp [go_sem, o6, x0, x1]) hR hb0 rfl
      · exact ok_val' rfl rfl (want_none rfl b) (by simp [go_sem, o7, u0, u1]) hR hb0 rfl
      · exact ok_val' rfl rfl (want_none rfl b) (by simp [go_sem, o8, p0, p1]) hR hb0 rfl
      · have f25 : sl b 25 = .agg #[.int .i64 c, .int .i64 m] := hdep 4 _ _ rfl rfl (by kernel_rfl)
        have f26 : sl b 26 = .agg #[.int .i64 u, .int .i64 v] := hdep 5 _ _ rfl rfl (by kernel_rfl)
        have f27 : sl b 27 = .agg #[.int .i64 x, .int .i64 y] := hdep 6 _ _ rfl rfl (by kernel_rfl)
        refine ok_enter' rfl rfl (want_none rfl b) ?_ ((kL w1).mono ?_)
        · simp [go_sem, f25, f26, f27]
        rintro e w2 ⟨rfl, hb2⟩
        exact ⟨_, rfl, hR.trans (hb2.mono hR.size), hb2, rfl⟩
      · have f24 : sl b 24 = .int .i64 ll := hdep 3 _ _ rfl rfl (by kernel_rfl)
        have f28 : sl b 28 = .int .i64 L := hdep 7 _ _ rfl rfl (by kernel_rfl)
        exact ok_val' rfl rfl (want_none rfl b) (by simp [go_sem, f24, f28, e1]) hR hb0 rfl
      · have f22 : sl b 22 = .int .i64 bb := hdep 1 _ _ rfl rfl (by kernel_rfl)
        have f29 : sl b 29 = .int .i64 r1 := hdep 8 _ _ rfl rfl (by kernel_rfl)
        exact ok_val' rfl rfl (want_none rfl b) (by simp [go_sem, f22, f29, e2]) hR hb0 rfl
      · exact ok_val' rfl rfl (want_none rfl b) (by simp [go_sem, o11]) hR hb0 rfl
      · have f31 : sl b 31 = .pointer (some ⟨T, 2, none⟩) := hdep 10 _ _ rfl rfl (by kernel_rfl)
        exact ok_val' rfl rfl (want_none rfl b) (by simp [go_sem, f31, t2]) hR hb0 rfl
      · exact ok_val' rfl rfl (want_none rfl b) (by simp [go_sem, o4]) hR hb0 rfl
      · have f32 : sl b 32 = .int .i64 nn := hdep 11 _ _ rfl rfl (by kernel_rfl)
        have f33 : sl b 33 = .int .i64 pods := hdep 12 _ _ rfl rfl (by kernel_rfl)
        exact ok_val' rfl rfl (want_none rfl b) (by simp [go_sem, f32, f33, e3]) hR hb0 rfl
      · have f30 : sl b 30 = .int .i64 r2 := hdep 9 _ _ rfl rfl (by kernel_rfl)
        have f34 : sl b 34 = .int .i64 r3 := hdep 13 _ _ rfl rfl (by kernel_rfl)
        exact ok_val' rfl rfl (want_none rfl b) (by simp [go_sem, f30, f34, e4]) hR hb0 rfl
      · have f35 : sl b 35 = .int .i64 z := hdep 14 _ _ rfl rfl (by kernel_rfl)
        exact ok_val' rfl rfl (want_none rfl b) (by simp [go_sem, f35]) hR hb0 rfl
      · cases ho
    case rest =>
      intro b w1 hR hsz hdf hold hF
      have f10 : sl b 10 = .int .i64 z := hF 15 _ _ rfl rfl
      have hB : b = _ := act_list b (show b.tmps.size = 36 from hsz) hdf
      rw [hB]
      simp only [List.range, List.range.loop, List.map_cons, List.map_nil, f10]
      generalize sl b 0 = v0, sl b 1 = v1, sl b 2 = v2, sl b 3 = v3, sl b 4 = v4, sl b 5 = v5, sl b 6 = v6, sl b 7 = v7, sl b 8 = v8, sl b 9 = v9, sl b 11 = v11, sl b 12 = v12, sl b 13 = v13, sl b 14 = v14, sl b 15 = v15, sl b 16 = v16, sl b 17 = v17, sl b 18 = v18, sl b 19 = v19, sl b 20 = v20, sl b 21 = v21, sl b 22 = v22, sl b 23 = v23, sl b 24 = v24, sl b 25 = v25, sl b 26 = v26, sl b 27 = v27, sl b 28 = v28, sl b 29 = v29, sl b 30 = v30, sl b 31 = v31, sl b 32 = v32, sl b 33 = v33, sl b 34 = v34, sl b 35 = v35
      clear hB hold hsz hdf hF f10
      go_wp2
      go_ret
      exact ⟨rfl, fin hR hW⟩

set_option maxHeartbeats 1000000 in
theorem score_any (mode c m u v x y pods z : Int) (h : Good c m u v x y) (hp : 0 ≤ pods ∧ pods ≤ 1000) (hz : scoreV mode (leftF c m u v x y) pods = z) (w : World) (hT : Tab w) :
    Calls Tryd.prog 68 #[.int .i64 mode, .agg #[.int .i64 c, .int .i64 m], .agg #[.int .i64 u, .int .i64 v], .agg #[.int .i64 x, .int .i64 y], .int .i64 pods] w fun e w' => e = .returned (.int .i64 z) ∧ Below w.heap.size w w' := by
  have hb := leftF_le h
  unfold scoreV at hz
  by_cases h0 : mode = 0
  · rw [if_pos h0] at hz
    exact score_in mode 0 1 0 c m u v x y _ z z 0 pods z h rfl (by rw [IntKind.wrap_i64]; omega) (by rw [IntKind.wrap_i64]; omega) (by rw [IntKind.wrap_i64]; omega) (by rw [IntKind.wrap_i64]; omega) w (.inl ⟨h0, hT.c0, hT.c1, hT.c2⟩)
  · by_cases h1 : mode = 1
    · rw [if_neg h0, if_pos h1] at hz
      exact score_in mode 200 (-1) 0 c m u v x y _ (z - 200) z 0 pods z h rfl (by rw [IntKind.wrap_i64]; omega) (by rw [IntKind.wrap_i64]; omega) (by rw [IntKind.wrap_i64]; omega) (by rw [IntKind.wrap_i64]; omega) w (.inr (.inl ⟨h1, hT.c3, hT.c4, hT.c5⟩))
    · by_cases h2 : mode = 2
      · rw [if_neg h0, if_neg h1, if_pos h2] at hz
        exact score_in mode 1000 0 (-1) c m u v x y _ 0 1000 (-pods) pods z h rfl (by rw [IntKind.wrap_i64]; omega) (by rw [IntKind.wrap_i64]; omega) (by rw [IntKind.wrap_i64]; omega) (by rw [IntKind.wrap_i64]; omega) w (.inr (.inr ⟨h2, hT.c6, hT.c7, hT.c8⟩))
      · rw [if_neg h0, if_neg h1, if_neg h2] at hz
        subst hz
        clear hb hp h hT
        by_cases h3 : mode < 0
        · go_enter Tryd.func68, Tryd.ntmps68
          go_wp2
          go_ret
          exact ⟨rfl, up (up (up (Below.refl _ _) _) _) _⟩
        · have h4 : 3 ≤ mode := by omega
          clear h0 h1 h2
          go_enter Tryd.func68, Tryd.ntmps68
          go_wp2
          go_ret
          exact ⟨rfl, up (up (up (Below.refl _ _) _) _) _⟩

end Go.Proofs.YtpgchnppinbpkaaDoor
