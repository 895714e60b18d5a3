/- The contracts of package score: hundredths, rest, Left. -/
import Derived.Test.YthneemgpifbehaaGreatDoorMg06
import Derived.Test.YthneemgpifbehaaGreatDoorMg08
import Derived.Test.YthneemgpifbehaaGreatDoorMg02
import Derived.Test.YthneemgpifbehaaGreatDoorMg21
import Derived.Deep.DeepCutAuto
import Derived.BigRegion
import Derived.Deep.QuietTactic
import Derived.BigQuiet
namespace Go.Proofs.YthneemgpifbehaaGreatDoor
open Go.RowKit

/-- So many hundredths. -/
def hun (l c : Int) : Int := if c = 0 then 100 else 100 * l / c
/-- What is left, of both parts. -/
def leftF (c m u v x y : Int) : Int := hun (c - u - x) c + hun (m - v - y) m

theorem hun_le (l c : Int) (h0 : 0 ≤ l) (hl : l ≤ c) : 0 ≤ hun l c ∧ hun l c ≤ 100 := by
  unfold hun
  split
  · omega
  · rename_i h
    exact ⟨Int.ediv_nonneg (by omega) (by omega), Int.ediv_le_of_le_mul (by omega) (by omega)⟩

theorem hun_any (l c z : Int) (h0 : 0 ≤ l) (hl : l ≤ c) (hc : c ≤ 1099511627776) (hz : hun l c = z) (w : World) :
    Calls Tryz.prog 301 #[.int .i64 l, .int .i64 c] w fun e w' => e = .returned (.int .i64 z) ∧ w' = w := by
  have hb := hun_le l c h0 hl
  unfold hun at hz hb
  by_cases hc0 : c = 0
  · subst hc0
    obtain rfl : z = 100 := by simpa using hz.symm
    go_enter Tryz.func301, Tryz.ntmps301
    go_wp2
    go_ret
    exact ⟨rfl, rfl⟩
  · rw [if_neg hc0] at hz hb
    have e1 : wrap64 (100 * l) = 100 * l := by unfold wrap64; omega
    have e2 : wrap64 ((wrap64 (100 * l)).tdiv c) = z := by
      rw [e1, Int.tdiv_eq_ediv_of_nonneg (by omega), hz]
      unfold wrap64; omega
    have e3 : (c == 0) = false := by simp [hc0]
    clear hz hb e1 h0 hl hc
    go_enter Tryz.func301, Tryz.ntmps301
    go_wp2
    go_ret
    exact ⟨by rw [← e2]; rfl, rfl⟩

/-- These fit: what there is, what is used, what is needed. -/
def Good (c m u v x y : Int) : Prop := 0 ≤ u ∧ 0 ≤ v ∧ 0 ≤ x ∧ 0 ≤ y ∧ u + x ≤ c ∧ v + y ≤ m ∧ c ≤ 1099511627776 ∧ m ≤ 1099511627776

theorem leftF_le {c m u v x y : Int} (h : Good c m u v x y) : 0 ≤ leftF c m u v x y ∧ leftF c m u v x y ≤ 200 := by
  obtain ⟨h1, h2, h3, h4, h5, h6, h7, h8⟩ := h
  have a := hun_le (c - u - x) c (by omega) (by omega)
  have b := hun_le (m - v - y) m (by omega) (by omega)
  unfold leftF
  omega

set_option maxHeartbeats 1000000 in
theorem rest_any (c m u v x y l r : Int) (h : Good c m u v x y) (hl : c - u - x = l) (hr : m - v - y = r) (w : World) :
    Calls Tryz.prog 300 #[.agg #[.int .i64 c, .int .i64 m], .agg #[.int .i64 u, .int .i64 v], .agg #[.int .i64 x, .int .i64 y]] w fun e w' => e = .returned (.agg #[.int .i64 l, .int .i64 r]) ∧ Below w.heap.size w w' := by
  obtain ⟨h1, h2, h3, h4, h5, h6, h7, h8⟩ := h
  have k := fun W => add_ok u v x y (by simp; omega) (by simp; omega) (by simp [wrap64]; omega) W
  rw [show wrap64 (u + x) = u + x by unfold wrap64; omega, show wrap64 (v + y) = v + y by unfold wrap64; omega] at k
  have k2 := fun W => sub_ok c m (u + x) (v + y) (by simp; omega) (by simp; omega) (by simp; omega) W
  rw [show wrap64 (c - (u + x)) = l by unfold wrap64; omega, show wrap64 (m - (v + y)) = r by unfold wrap64; omega] at k2
  clear h1 h2 h3 h4 h5 h6 h7 h8 hl hr
  go_enter Tryz.func300, Tryz.ntmps300
  go_wp2_with (first
    | (go_at_call 153
       refine (k2 _).mono ?_
       rintro e w2 ⟨rfl, hb2⟩
       have hW2 := fin hb2 (up hW1 _)
       have p3 := (q3.up (V (u + x) (v + y))).later hb2
       clear c0 c1 q0 q3
       have z0 := p3.frozen 0
       have z1 := p3.frozen 1
       obtain ⟨c0, c1⟩ := p3.cells2
       have hlt := p3.lt)
    | (go_at_call 194
       refine (k _).mono ?_
       rintro e w1 ⟨rfl, hb1⟩
       have q0 : Box w1 w.heap.size #[.int .i64 c, .int .i64 m] 52 := ((((Box.new w _ _ rfl).up _).up _).up _).later hb1
       have q3 : Box w1 (w.heap.size + 1 + 1 + 1) #[.int .i64 0, .int .i64 0] 52 := (Box.new _ _ _ (by simp)).later hb1
       have hW1 : Below w.heap.size w w1 := fin hb1 (up (up (up (up (Below.refl _ _) _) _) _) _)
       clear hb1
       have hlt0 := q0.lt
       have hlt3 := q3.lt
       obtain ⟨c0, c1⟩ := q0.cells2))
  have pB := ((p3.set 0 (.int .i64 l)).set 1 (.int .i64 r)).up (V l r)
  have r0 := pB.cell (i := 0) rfl
  have r1 := pB.cell (i := 1) rfl
  refine bodyPost_ret (by simp [results, Tryz.results300, go_sem, r0, r1]) rfl ⟨rfl, ?_⟩
  exact up ((hW2.setCell (p := ⟨w.heap.size + 1 + 1 + 1, 0, none⟩) (by simp; omega) _).setCell (p := ⟨w.heap.size + 1 + 1 + 1, 1, none⟩) (by simp; omega) _) _

set_option maxHeartbeats 1000000 in
theorem left_any (c m u v x y z : Int) (h : Good c m u v x y) (hz : leftF c m u v x y = z) (w : World) :
    Calls Tryz.prog 294 #[.agg #[.int .i64 c, .int .i64 m], .agg #[.int .i64 u, .int .i64 v], .agg #[.int .i64 x, .int .i64 y]] w fun e w' => e = .returned (.int .i64 z) ∧ Below w.heap.size w w' := by
  obtain ⟨l, hl⟩ : ∃ l, c - u - x = l := ⟨_, rfl⟩
  obtain ⟨r, hr⟩ : ∃ r, m - v - y = r := ⟨_, rfl⟩
  have k := fun W => rest_any c m u v x y l r h hl hr W
  have hb := leftF_le h
  obtain ⟨h1, h2, h3, h4, h5, h6, h7, h8⟩ := h
  unfold leftF at hz hb
  rw [hl, hr] at hz hb
  obtain ⟨a, ha⟩ : ∃ a, hun l c = a := ⟨_, rfl⟩
  obtain ⟨b, hb'⟩ : ∃ b, hun r m = b := ⟨_, rfl⟩
  rw [ha, hb'] at hz hb
  have k1 := fun W => hun_any l c a (by omega) (by omega) h7 ha W
  have k2 := fun W => hun_any r m b (by omega) (by omega) h8 hb' W
  have e1 : IntKind.i64.wrap (a + b) = z := by rw [IntKind.wrap_i64]; omega
  clear h1 h2 h3 h4 h5 h6 h7 h8 hl hr hz hb ha hb'
  go_enter Tryz.func294, Tryz.ntmps294
  go_wp2_with (first
    | (go_at_call 300
       refine (k _).mono ?_
       rintro e w1 ⟨rfl, hb1⟩
       have q0 : Box w1 w.heap.size #[.int .i64 c, .int .i64 m] 52 := (((Box.new w _ _ rfl).up _).up _).later hb1
       have hW1 : Below w.heap.size w w1 := fin hb1 (up (up (up (Below.refl _ _) _) _) _)
       clear hb1
       have hlt := q0.lt
       obtain ⟨c0, c1⟩ := q0.cells2))
  have p0 := (q0.up (V l r)).cells2
  have p1 := (Box.new w1 #[.int .i64 l, .int .i64 r] 52 rfl).cells2
  have hW2 := up hW1 (V l r)
  have d0 : (w1.alloc (V l r)).drew.cell? ⟨w.heap.size, 0, none⟩ = some (.int .i64 c) := p0.1
  have d1 : (w1.alloc (V l r)).drew.cell? ⟨w.heap.size, 1, none⟩ = some (.int .i64 m) := p0.2
  have d2 : (w1.alloc (V l r)).drew.cell? ⟨w1.heap.size, 0, none⟩ = some (.int .i64 l) := p1.1
  have d3 : (w1.alloc (V l r)).drew.cell? ⟨w1.heap.size, 1, none⟩ = some (.int .i64 r) := p1.2
  clear p0 p1 c0 c1 q0
  go_region_held3 (fun w' => w'.cell? ⟨w.heap.size, 0, none⟩ = some (.int .i64 c) ∧ w'.cell? ⟨w.heap.size, 1, none⟩ = some (.int .i64 m) ∧ w'.cell? ⟨w1.heap.size, 0, none⟩ = some (.int .i64 l) ∧ w'.cell? ⟨w1.heap.size, 1, none⟩ = some (.int .i64 r))
    (exact ⟨by assumption, by assumption, by assumption, by assumption⟩)
    (first
      | (go_at_call_of 301 (Value.int .i64 l); refine (k1 _).mono ?_; rintro e w8 ⟨rfl, rfl⟩)
      | (go_at_call_of 301 (Value.int .i64 r); refine (k2 _).mono ?_; rintro e w8 ⟨rfl, rfl⟩)
      | fail)
  all_goals
    go_wp2
    go_ret
    exact ⟨by first | rfl | (rw [← e1]; rfl), hW2.drew⟩

end Go.Proofs.YthneemgpifbehaaGreatDoor

/- The contracts of Score of package score, whose table lies in the first variable, and of the chapter's own Score. -/
namespace Go.Proofs.YthneemgpifbehaaGreatDoor
open Go.RowKit

/-- The table of the modes. -/
structure Tab (w : World) : Prop where
  c0 : w.cell? ⟨0, 0, none⟩ = some (.int .i64 0)
  c1 : w.cell? ⟨0, 1, none⟩ = some (.int .i64 1)
  c2 : w.cell? ⟨0, 2, none⟩ = some (.int .i64 0)
  c3 : w.cell? ⟨0, 3, none⟩ = some (.int .i64 200)
  c4 : w.cell? ⟨0, 4, none⟩ = some (.int .i64 (-1))
  c5 : w.cell? ⟨0, 5, none⟩ = some (.int .i64 0)
  c6 : w.cell? ⟨0, 6, none⟩ = some (.int .i64 1000)
  c7 : w.cell? ⟨0, 7, none⟩ = some (.int .i64 0)
  c8 : w.cell? ⟨0, 8, none⟩ = some (.int .i64 (-1))
theorem Tab.later {w w' : World} (h : Tab w) (hb : Below w.heap.size w w') : Tab w' :=
  have k : ∀ {i : Nat} {v : Value}, w.cell? ⟨0, i, none⟩ = some v → w'.cell? ⟨0, i, none⟩ = some v := fun hc => cell_below hb hc (block_lt hc)
  ⟨k h.c0, k h.c1, k h.c2, k h.c3, k h.c4, k h.c5, k h.c6, k h.c7, k h.c8⟩

/-- The score. -/
def scoreV (mode L pods : Int) : Int := if mode = 0 then L else if mode = 1 then 200 - L else if mode = 2 then 1000 - pods else 0

def scoreF (bb ll nn c m u v x y L r1 r2 r3 pods z : Int) (T : Nat) : Nat → Value → World → Prop
  | 0, r, _ => r = .pointer (some ⟨T, 0, none⟩)
  | 1, r, _ => r = .int .i64 bb
  | 2, r, _ => r = .pointer (some ⟨T, 1, none⟩)
  | 3, r, _ => r = .int .i64 ll
  | 4, r, _ => r = .agg #[.int .i64 c, .int .i64 m]
  | 5, r, _ => r = .agg #[.int .i64 u, .int .i64 v]
  | 6, r, _ => r = .agg #[.int .i64 x, .int .i64 y]
  | 7, r, _ => r = .int .i64 L
  | 8, r, _ => r = .int .i64 r1
  | 9, r, _ => r = .int .i64 r2
  | 10, r, _ => r = .pointer (some ⟨T, 2, none⟩)
  | 11, r, _ => r = .int .i64 nn
  | 12, r, _ => r = .int .i64 pods
  | 13, r, _ => r = .int .i64 r3
  | 14, r, _ => r = .int .i64 z
  | 15, r, _ => r = .int .i64 z
  | _, _, _ => True

set_option maxRecDepth 100000 in
set_option maxHeartbeats 4000000 in
theorem score_in (mode bb ll nn c m u v x y L r1 r2 r3 pods z : Int) (h : Good c m u v x y) (hL : leftF c m u v x y = L)
    (e1 : IntKind.i64.wrap (ll * L) = r1) (e2 : IntKind.i64.wrap (bb + r1) = r2) (e3 : IntKind.i64.wrap (nn * pods) = r3) (e4 : IntKind.i64.wrap (r2 + r3) = z) (w : World)
    (hm : (mode = 0 ∧ w.cell? ⟨0, 0, none⟩ = some (.int .i64 bb) ∧ w.cell? ⟨0, 1, none⟩ = some (.int .i64 ll) ∧ w.cell? ⟨0, 2, none⟩ = some (.int .i64 nn)) ∨
      (mode = 1 ∧ w.cell? ⟨0, 3, none⟩ = some (.int .i64 bb) ∧ w.cell? ⟨0, 4, none⟩ = some (.int .i64 ll) ∧ w.cell? ⟨0, 5, none⟩ = some (.int .i64 nn)) ∨
      (mode = 2 ∧ w.cell? ⟨0, 6, none⟩ = some (.int .i64 bb) ∧ w.cell? ⟨0, 7, none⟩ = some (.int .i64 ll) ∧ w.cell? ⟨0, 8, none⟩ = some (.int .i64 nn))) :
    Calls Tryz.prog 285 #[.int .i64 mode, .agg #[.int .i64 c, .int .i64 m], .agg #[.int .i64 u, .int .i64 v], .agg #[.int .i64 x, .int .i64 y], .int .i64 pods] w fun e w' => e = .returned (.int .i64 z) ∧ Below w.heap.size w w' := by
  have kL := fun W => left_any c m u v x y L h hL W
  clear h hL
  have hs : 0 < w.heap.size := by
    rcases hm with ⟨_, h, _⟩ | ⟨_, h, _⟩ | ⟨_, h, _⟩ <;> exact block_lt h
  rcases hm with ⟨rfl, m0, m1, m2⟩ | ⟨rfl, m0, m1, m2⟩ | ⟨rfl, m0, m1, m2⟩
  all_goals
    have n0 := cell_alloc (cell_alloc (cell_alloc m0 (V c m)) (V u v)) (V x y)
    have n1 := cell_alloc (cell_alloc (cell_alloc m1 (V c m)) (V u v)) (V x y)
    have n2 := cell_alloc (cell_alloc (cell_alloc m2 (V c m)) (V u v)) (V x y)
    have s0 : 0 < w.heap.size + 1 := by omega
    go_enter Tryz.func285, Tryz.ntmps285
    go_upto_region 4 with fail
    have qc : Box ((((w.alloc (V c m)).alloc (V u v)).alloc (V x y)).alloc (.cells #[.int .i64 bb, .int .i64 ll, .int .i64 nn] 331)) w.heap.size #[.int .i64 c, .int .i64 m] 52 := (((Box.new w _ _ rfl).up _).up _).up _
    have qu : Box ((((w.alloc (V c m)).alloc (V u v)).alloc (V x y)).alloc (.cells #[.int .i64 bb, .int .i64 ll, .int .i64 nn] 331)) (w.heap.size + 1) #[.int .i64 u, .int .i64 v] 52 := ((Box.new _ _ _ (by simp)).up _).up _
    have qx : Box ((((w.alloc (V c m)).alloc (V u v)).alloc (V x y)).alloc (.cells #[.int .i64 bb, .int .i64 ll, .int .i64 nn] 331)) (w.heap.size + 1 + 1) #[.int .i64 x, .int .i64 y] 52 := (Box.new _ _ _ (by simp)).up _
    have qt : Box ((((w.alloc (V c m)).alloc (V u v)).alloc (V x y)).alloc (.cells #[.int .i64 bb, .int .i64 ll, .int .i64 nn] 331)) (w.heap.size + 1 + 1 + 1) #[.int .i64 bb, .int .i64 ll, .int .i64 nn] 331 := Box.new _ _ _ (by simp)
    have hW := up (up (up (up (Below.refl w.heap.size w) (V c m)) (V u v)) (V x y)) (.cells #[.int .i64 bb, .int .i64 ll, .int .i64 nn] 331)
    generalize (((w.alloc (V c m)).alloc (V u v)).alloc (V x y)).alloc (.cells #[.int .i64 bb, .int .i64 ll, .int .i64 nn] 331) = W at *
    generalize hT : w.heap.size + 1 + 1 + 1 = T at *
    clear n0 n1 n2 m0 m1 m2 s0
    refine wp_region_rely (fun w1 => Below W.heap.size W w1) (fun w1 w2 => Below w1.heap.size w1 w2) (scoreF bb ll nn c m u v x y L r1 r2 r3 pods z T) (by kernel_rfl) (by kernel_rfl) (Below.refl _ _).drew ?keep ?step ?rest
    case keep =>
      intro i v w1 w2 hS hF
      unfold scoreF at *
      split at hF <;> try exact hF
    case step =>
      intro i o d ho hd b w1 hR hold hdep
      have o4 : sl b 4 = .int .i64 pods := hold 4 (by kernel_rfl)
      have o6 : sl b 6 = .pointer (some ⟨w.heap.size, 0, none⟩) := hold 6 (by kernel_rfl)
      have o7 : sl b 7 = .pointer (some ⟨(w.heap.size + 1), 0, none⟩) := hold 7 (by kernel_rfl)
      have o8 : sl b 8 = .pointer (some ⟨(w.heap.size + 1 + 1), 0, none⟩) := hold 8 (by kernel_rfl)
      have o11 : sl b 11 = .pointer (some ⟨T, 0, none⟩) := hold 11 (by kernel_rfl)
      have hb0 := Below.refl w1.heap.size w1
      obtain ⟨x0, x1⟩ := (qc.later hR).cells2
      obtain ⟨u0, u1⟩ := (qu.later hR).cells2
      obtain ⟨p0, p1⟩ := (qx.later hR).cells2
      have t0 := (qt.later hR).cell (i := 0) rfl
      have t1 := (qt.later hR).cell (i := 1) rfl
      have t2 := (qt.later hR).cell (i := 2) rfl
      rcases i with _ | _ | _ | _ | _ | _ | _ | _ | _ | _ | _ | _ | _ | _ | _ | _ | i
      all_goals try (cases ho; cases hd)
      · exact ok_val' rfl rfl (want_none rfl b) (by simp [go_sem, o11]) hR hb0 rfl
      · have f21 : sl b 21 = .pointer (some ⟨T, 0, none⟩) := hdep 0 _ _ rfl rfl (by kernel_rfl)
        exact ok_val' rfl rfl (want_none rfl b) (by simp [go_sem, f21, t0]) hR hb0 rfl
      · exact ok_val' rfl rfl (want_none rfl b) (by simp [go_sem, o11]) hR hb0 rfl
      · have f23 : sl b 23 = .pointer (some ⟨T, 1, none⟩) := hdep 2 _ _ rfl rfl (by kernel_rfl)
        exact ok_val' rfl rfl (want_none rfl b) (by simp [go_sem, f23, t1]) hR hb0 rfl
      · exact ok_val' rfl rfl (want_none rfl b) (by simp [go_sem, o6, x0, x1]) hR hb0 rfl
      · exact ok_val' rfl rfl (want_none rfl b) (by simp [go_sem, o7, u0, u1]) hR hb0 rfl
      · exact ok_val' rfl rfl (want_none rfl b) (by simp [go_sem, o8, p0, p1]) hR hb0 rfl
      · have f25 : sl b 25 = .agg #[.int .i64 c, .int .i64 m] := hdep 4 _ _ rfl rfl (by kernel_rfl)
        have f26 : sl b 26 = .agg #[.int .i64 u, .int .i64 v] := hdep 5 _ _ rfl rfl (by kernel_rfl)
        have f27 : sl b 27 = .agg #[.int .i64 x, .int .i64 y] := hdep 6 _ _ rfl rfl (by kernel_rfl)
        refine ok_enter' rfl rfl (want_none rfl b) ?_ ((kL w1).mono ?_)
        · simp [go_sem, f25, f26, f27]
        rintro e w2 ⟨rfl, hb2⟩
        exact ⟨_, rfl, hR.trans (hb2.mono hR.size), hb2, rfl⟩
      · have f24 : sl b 24 = .int .i64 ll := hdep 3 _ _ rfl rfl (by kernel_rfl)
        have f28 : sl b 28 = .int .i64 L := hdep 7 _ _ rfl rfl (by kernel_rfl)
        exact ok_val' rfl rfl (want_none rfl b) (by simp [go_sem, f24, f28, e1]) hR hb0 rfl
      · have f22 : sl b 22 = .int .i64 bb := hdep 1 _ _ rfl rfl (by kernel_rfl)
        have f29 : sl b 29 = .int .i64 r1 := hdep 8 _ _ rfl rfl (by kernel_rfl)
        exact ok_val' rfl rfl (want_none rfl b) (by simp [go_sem, f22, f29, e2]) hR hb0 rfl
      · exact ok_val' rfl rfl (want_none rfl b) (by simp [go_sem, o11]) hR hb0 rfl
      · have f31 : sl b 31 = .pointer (some ⟨T, 2, none⟩) := hdep 10 _ _ rfl rfl (by kernel_rfl)
        exact ok_val' rfl rfl (want_none rfl b) (by simp [go_sem, f31, t2]) hR hb0 rfl
      · exact ok_val' rfl rfl (want_none rfl b) (by simp [go_sem, o4]) hR hb0 rfl
      · have f32 : sl b 32 = .int .i64 nn := hdep 11 _ _ rfl rfl (by kernel_rfl)
        have f33 : sl b 33 = .int .i64 pods := hdep 12 _ _ rfl rfl (by kernel_rfl)
        exact ok_val' rfl rfl (want_none rfl b) (by simp [go_sem, f32, f33, e3]) hR hb0 rfl
      · have f30 : sl b 30 = .int .i64 r2 := hdep 9 _ _ rfl rfl (by kernel_rfl)
        have f34 : sl b 34 = .int .i64 r3 := hdep 13 _ _ rfl rfl (by kernel_rfl)
        exact ok_val' rfl rfl (want_none rfl b) (by simp [go_sem, f30, f34, e4]) hR hb0 rfl
      · have f35 : sl b 35 = .int .i64 z := hdep 14 _ _ rfl rfl (by kernel_rfl)
        exact ok_val' rfl rfl (want_none rfl b) (by simp [go_sem, f35]) hR hb0 rfl
      · cases ho
    case rest =>
      intro b w1 hR hsz hdf hold hF
      have f10 : sl b 10 = .int .i64 z := hF 15 _ _ rfl rfl
      have hB : b = _ := act_list b (show b.tmps.size = 36 from hsz) hdf
      rw [hB]
      simp only [List.range, List.range.loop, List.map_cons, List.map_nil, f10]
      generalize sl b 0 = v0, sl b 1 = v1, sl b 2 = v2, sl b 3 = v3, sl b 4 = v4, sl b 5 = v5, sl b 6 = v6, sl b 7 = v7, sl b 8 = v8, sl b 9 = v9, sl b 11 = v11, sl b 12 = v12, sl b 13 = v13, sl b 14 = v14, sl b 15 = v15, sl b 16 = v16, sl b 17 = v17, sl b 18 = v18, sl b 19 = v19, sl b 20 = v20, sl b 21 = v21, sl b 22 = v22, sl b 23 = v23, sl b 24 = v24, sl b 25 = v25, sl b 26 = v26, sl b 27 = v27, sl b 28 = v28, sl b 29 = v29, sl b 30 = v30, sl b 31 = v31, sl b 32 = v32, sl b 33 = v33, sl b 34 = v34, sl b 35 = v35
      clear hB hold hsz hdf hF f10
      go_wp2
      go_ret
      exact ⟨rfl, fin hR hW⟩

set_option maxHeartbeats 1000000 in
theorem score_any (mode c m u v x y pods z : Int) (h : Good c m u v x y) (hp : 0 ≤ pods ∧ pods ≤ 1000) (hz : scoreV mode (leftF c m u v x y) pods = z) (w : World) (hT : Tab w) :
    Calls Tryz.prog 285 #[.int .i64 mode, .agg #[.int .i64 c, .int .i64 m], .agg #[.int .i64 u, .int .i64 v], .agg #[.int .i64 x, .int .i64 y], .int .i64 pods] w fun e w' => e = .returned (.int .i64 z) ∧ Below w.heap.size w w' := by
  have hb := leftF_le h
  unfold scoreV at hz
  by_cases h0 : mode = 0
  · rw [if_pos h0] at hz
    exact score_in mode 0 1 0 c m u v x y _ z z 0 pods z h rfl (by rw [IntKind.wrap_i64]; omega) (by rw [IntKind.wrap_i64]; omega) (by rw [IntKind.wrap_i64]; omega) (by rw [IntKind.wrap_i64]; omega) w (.inl ⟨h0, hT.c0, hT.c1, hT.c2⟩)
  · by_cases h1 : mode = 1
    · rw [if_neg h0, if_pos h1] at hz
      exact score_in mode 200 (-1) 0 c m u v x y _ (z - 200) z 0 pods z h rfl (by rw [IntKind.wrap_i64]; omega) (by rw [IntKind.wrap_i64]; omega) (by rw [IntKind.wrap_i64]; omega) (by rw [IntKind.wrap_i64]; omega) w (.inr (.inl ⟨h1, hT.c3, hT.c4, hT.c5⟩))
    · by_cases h2 : mode = 2
      · rw [if_neg h0, if_neg h1, if_pos h2] at hz
        exact score_in mode 1000 0 (-1) c m u v x y _ 0 1000 (-pods) pods z h rfl (by rw [IntKind.wrap_i64]; omega) (by rw [IntKind.wrap_i64]; omega) (by rw [IntKind.wrap_i64]; omega) (by rw [IntKind.wrap_i64]; omega) w (.inr (.inr ⟨h2, hT.c6, hT.c7, hT.c8⟩))
      · rw [if_neg h0, if_neg h1, if_neg h2] at hz
        subst hz
        clear hb hp h hT
        by_cases h3 : mode < 0
        · go_enter Tryz.func285, Tryz.ntmps285
          go_wp2
          go_ret
          exact ⟨rfl, up (up (up (Below.refl _ _) _) _) _⟩
        · have h4 : 3 ≤ mode := by omega
          clear h0 h1 h2
          go_enter Tryz.func285, Tryz.ntmps285
          go_wp2
          go_ret
          exact ⟨rfl, up (up (up (Below.refl _ _) _) _) _⟩

end Go.Proofs.YthneemgpifbehaaGreatDoor

/- The contracts of better and Best of package score, and of the chapter's own Best. -/
namespace Go.Proofs.YthneemgpifbehaaGreatDoor
open Go.RowKit

/-- Does the one go ahead of the other? -/
def betB (n : ByteArray) (s : Int) (bn : ByteArray) (bs : Int) : Bool := decide (bs < s) || (decide (s = bs) && Op.bytesLess n.toList bn.toList)
/-- The best one of the first ones. -/
def bstAt (ss : List ByteArray) (zs : List Int) : Nat → Int
  | 0 => -1
  | k + 1 => if bstAt ss zs k < 0 then k else if betB (ss.getD k ByteArray.empty) (zs.getD k 0) (ss.getD (bstAt ss zs k).toNat ByteArray.empty) (zs.getD (bstAt ss zs k).toNat 0) then k else bstAt ss zs k

theorem bst_lt (ss : List ByteArray) (zs : List Int) (k : Nat) : bstAt ss zs k < k := by
  induction k with
  | zero => simp [bstAt]
  | succ k ih => unfold bstAt; split; omega; split <;> omega
theorem bst_ge (ss : List ByteArray) (zs : List Int) (k : Nat) (h : 0 < k) : 0 ≤ bstAt ss zs k := by
  induction k with
  | zero => omega
  | succ k ih => unfold bstAt; split; omega; split <;> omega

theorem better_any (n bn : ByteArray) (s bs : Int) (b : Bool) (h : betB n s bn bs = b) (w : World) :
    Calls Tryz.prog 295 #[.string n, .int .i64 s, .string bn, .int .i64 bs] w fun e w' => e = .returned (.bool b) ∧ w' = w := by
  unfold betB at h
  obtain ⟨l, hl⟩ : ∃ l, Op.bytesLess n.toList bn.toList = l := ⟨_, rfl⟩
  rw [hl] at h
  by_cases h1 : bs < s
  · obtain rfl : b = true := by rw [← h]; simp [h1]
    clear h hl
    go_enter Tryz.func295, Tryz.ntmps295
    go_wp2
    go_ret
    exact ⟨rfl, rfl⟩
  · by_cases h2 : s = bs
    · subst h2
      obtain rfl : b = l := by rw [← h]; simp
      clear h
      go_enter Tryz.func295, Tryz.ntmps295
      go_wp2
      go_ret
      exact ⟨rfl, rfl⟩
    · obtain rfl : b = false := by rw [← h]; simp [h1, h2]
      have h3 : (s == bs) = false := by simp [h2]
      clear h hl
      go_enter Tryz.func295, Tryz.ntmps295
      go_wp2
      go_ret
      exact ⟨rfl, rfl⟩

set_option maxRecDepth 100000 in
set_option maxHeartbeats 4000000 in
theorem best_any (a b : Option Addr) (ca cb n : Nat) (ss : List ByteArray) (zs : List Int) (z : Int) (w : World) (hS : Strs w a ss) (hZ : HasRow w b n zs) (hl : ss.length = n) (hz : bstAt ss zs n = z) :
    Calls Tryz.prog 286 #[.slice a n ca, .slice b n cb] w fun e w' => e = .returned (.int .i64 z) ∧ Below w.heap.size w w' := by
  have hn := hS.1
  rw [hl] at hn
  subst hz
  go_enter Tryz.func286, Tryz.ntmps286
  go_wp2
  go_loopw [5, 12] (fun c i wr => ∃ k : Nat, k ≤ n ∧ i = .int .i64 k ∧ c = .int .i64 (bstAt ss zs k) ∧ Below w.heap.size w wr) (fun _ i _ => n - (intOf i).toNat)
  case atStart => exact ⟨0, Nat.zero_le _, rfl, rfl, Below.refl _ _⟩
  case round =>
    obtain ⟨k, hk, rfl, rfl, hbw⟩ := hrel
    have hSr := hS.later hbw
    by_cases hlt : k < n
    · obtain ⟨x, rfl, hcx⟩ := hSr.2 k (by omega)
      obtain ⟨y, hy, hcy0⟩ := hZ.2 k (by omega)
      subst hy
      have hcy := cell_below hbw hcy0 (block_lt hcy0)
      by_cases hk0 : k = 0
      · subst hk0
        have e1 : bstAt ss zs 1 = 0 := by simp [bstAt]
        have e0 : bstAt ss zs 0 = -1 := rfl
        rw [e0]
        clear hcx hcy hcy0 hS hSr hZ
        go_wp2
        go_region
        go_wp2
        go_roundw
        case rel => exact ⟨1, hlt, rfl, by rw [e1]; rfl, hbw.drew⟩
        case measure => simp [intOf]; omega
      · obtain ⟨j, hj⟩ : ∃ j : Nat, bstAt ss zs k = j := ⟨(bstAt ss zs k).toNat, by have := bst_ge ss zs k (by omega); omega⟩
        have hjk : j < k := by have := bst_lt ss zs k; omega
        obtain ⟨x', hx', hdx⟩ := hSr.2 j (by omega)
        obtain rfl : x = x' := by simpa using hx'
        obtain ⟨y', hy', hdy0⟩ := hZ.2 j (by omega)
        obtain rfl : y = y' := by simpa using hy'
        have hdy := cell_below hbw hdy0 (block_lt hdy0)
        obtain ⟨t, ht⟩ : ∃ t, betB (ss.getD k ByteArray.empty) (zs.getD k 0) (ss.getD j ByteArray.empty) (zs.getD j 0) = t := ⟨_, rfl⟩
        have e1 : bstAt ss zs (k + 1) = if t then (k : Int) else (j : Int) := by
          have : ¬ bstAt ss zs k < 0 := by omega
          rw [bstAt, if_neg this, hj, Int.toNat_natCast, ht]
        have kb := fun W => better_any _ _ _ _ t ht W
        generalize ss.getD k ByteArray.empty = s1 at *
        generalize zs.getD k 0 = z1 at *
        generalize ss.getD j ByteArray.empty = s2 at *
        generalize zs.getD j 0 = z2 at *
        have i1 : (0 : Int) ≤ (k : Int) := by omega
        have i2 : (k : Int) < (n : Int) := by omega
        have i3 : (0 : Int) ≤ (j : Int) := by omega
        have i4 : (j : Int) < (n : Int) := by omega
        have i5 : ¬ (j : Int) < 0 := by omega
        rw [hj]
        have d1 : wr.drew.cell? (x.add k) = _ := hcx
        have d2 : wr.drew.cell? (y.add k) = _ := hcy
        have d3 : wr.drew.cell? (x.add j) = _ := hdx
        have d4 : wr.drew.cell? (y.add j) = _ := hdy
        have hbd := hbw.drew
        clear hcx hcy hcy0 hdx hdy hdy0 hS hSr hZ hx' hy' ht hj
        go_wp2
        go_region_held3 (fun w' => w'.cell? (x.add k) = some (.string s1) ∧ w'.cell? (y.add k) = some (.int .i64 z1) ∧ w'.cell? (x.add j) = some (.string s2) ∧ w'.cell? (y.add j) = some (.int .i64 z2))
          (exact ⟨by assumption, by assumption, by assumption, by assumption⟩)
          (first
            | (go_at_call 295; refine (kb _).mono ?_; rintro e w8 ⟨rfl, rfl⟩)
            | fail)
        cases t
        all_goals go_wp2
        all_goals first
          | (exfalso; rename_i hh; simp at hh; done)
          | (exfalso; rename_i hh; simp at hh; omega)
          | (go_roundw
             case rel => exact ⟨k + 1, hlt, by go_num, by rw [e1]; rfl, hbd⟩
             case measure => simp [intOf]; omega)
    · obtain rfl : k = n := by omega
      go_wp2
      go_ret
      exact ⟨rfl, hbw⟩

end Go.Proofs.YthneemgpifbehaaGreatDoor
