/- The walk of ScoreLess. -/
import Derived.Test.YtmkbllkfipcghaaTH
import Derived.Test.YtmkbllkfipcghaaKN
namespace Go.Proofs.Ytmkbllkfipcghaa
open Go.RowKit

theorem hun_mono (l m c : Int) (h : l ≤ m) (hc : 0 ≤ c) : hun l c ≤ hun m c := by
  unfold hun
  split
  · omega
  · exact Int.ediv_le_ediv (by omega) (by omega)

def lessF (x y u v p q z z1 : Int) : Nat → Value → World → Prop
  | 0, r, _ => r = .agg #[.int .i64 x, .int .i64 y]
  | 1, r, _ => r = .agg #[.int .i64 u, .int .i64 v]
  | 2, r, _ => r = .agg #[.int .i64 p, .int .i64 q]
  | 3, r, _ => r = .int .i64 z
  | 4, r, _ => r = .agg #[.int .i64 x, .int .i64 y]
  | 5, r, _ => r = .agg #[.int .i64 u, .int .i64 v]
  | 6, r, _ => r = .agg #[.int .i64 0, .int .i64 0]
  | 7, r, _ => r = .int .i64 z1
  | 8, r, _ => r = .bool true
  | 9, r, _ => r = .bool true
  | 10, r, _ => r = .agg #[.int .i64 x, .int .i64 y]
  | 11, r, _ => r = .agg #[.int .i64 u, .int .i64 v]
  | 12, r, _ => r = .agg #[.int .i64 p, .int .i64 q]
  | 13, r, _ => r = .int .i64 z
  | 14, r, _ => r = .agg #[.int .i64 x, .int .i64 y]
  | 15, r, _ => r = .agg #[.int .i64 (u + p), .int .i64 (v + q)]
  | 16, r, _ => r = .agg #[.int .i64 0, .int .i64 0]
  | 17, r, _ => r = .int .i64 z
  | 18, r, _ => r = .bool true
  | 19, r, _ => r = .bool true
  | 20, r, _ => r = .bool true
  | 21, r, _ => r = .agg #[.int .i64 x, .int .i64 y]
  | 22, r, _ => r = .agg #[.int .i64 u, .int .i64 v]
  | 23, r, _ => r = .agg #[.int .i64 p, .int .i64 q]
  | 24, r, _ => r = .int .i64 z
  | 25, r, _ => r = .agg #[.int .i64 x, .int .i64 y]
  | 26, r, _ => r = .agg #[.int .i64 p, .int .i64 q]
  | 27, r, _ => r = .agg #[.int .i64 u, .int .i64 v]
  | 28, r, _ => r = .int .i64 z
  | 29, r, _ => r = .bool true
  | 30, r, _ => r = .bool true
  | 31, r, _ => r = .bool true
  | _, _, _ => True

set_option maxRecDepth 100000 in
set_option maxHeartbeats 4000000 in
theorem scoreLess_walk (a b c d e f : Int) (w : World) :
    Calls Try.prog 4 #[.int .i64 a, .int .i64 b, .int .i64 c, .int .i64 d, .int .i64 e, .int .i64 f] w fun e w' => e = .returned (.bool true) ∧ Below w.heap.size w w' := by
  obtain ⟨x, hx⟩ : ∃ x, a % 1000 = x := ⟨_, rfl⟩
  obtain ⟨y, hy⟩ : ∃ x, b % 1000 = x := ⟨_, rfl⟩
  obtain ⟨u, hu⟩ : ∃ u, c % (x + 1) = u := ⟨_, rfl⟩
  obtain ⟨v, hv⟩ : ∃ v, d % (y + 1) = v := ⟨_, rfl⟩
  obtain ⟨p, hp⟩ : ∃ p, e % (x - u + 1) = p := ⟨_, rfl⟩
  obtain ⟨q, hq⟩ : ∃ q, f % (y - v + 1) = q := ⟨_, rfl⟩
  have k3 := fun W => three_any a b c d e f 1000 x y u v p q (by decide) (by decide) hx hy hu hv hp hq W
  have x0 : 0 ≤ x := by rw [← hx]; exact Int.emod_nonneg _ (by omega)
  have x1 : x < 1000 := by rw [← hx]; exact Int.emod_lt_of_pos _ (by omega)
  have y0 : 0 ≤ y := by rw [← hy]; exact Int.emod_nonneg _ (by omega)
  have y1 : y < 1000 := by rw [← hy]; exact Int.emod_lt_of_pos _ (by omega)
  have u0 : 0 ≤ u := by rw [← hu]; exact Int.emod_nonneg _ (by omega)
  have u1 : u < x + 1 := by rw [← hu]; exact Int.emod_lt_of_pos _ (by omega)
  have v0 : 0 ≤ v := by rw [← hv]; exact Int.emod_nonneg _ (by omega)
  have v1 : v < y + 1 := by rw [← hv]; exact Int.emod_lt_of_pos _ (by omega)
  have p0 : 0 ≤ p := by rw [← hp]; exact Int.emod_nonneg _ (by omega)
  have p1 : p < x - u + 1 := by rw [← hp]; exact Int.emod_lt_of_pos _ (by omega)
  have q0 : 0 ≤ q := by rw [← hq]; exact Int.emod_nonneg _ (by omega)
  have q1 : q < y - v + 1 := by rw [← hq]; exact Int.emod_lt_of_pos _ (by omega)
  obtain ⟨z, hz⟩ : ∃ z, leftF x y u v p q = z := ⟨_, rfl⟩
  obtain ⟨z1, hz1⟩ : ∃ z, leftF x y u v 0 0 = z := ⟨_, rfl⟩
  have hle : z ≤ z1 := by
    rw [← hz, ← hz1]
    unfold leftF
    have h1 := hun_mono (x - u - p) (x - u - 0) x (by omega) (by omega)
    have h2 := hun_mono (y - v - q) (y - v - 0) y (by omega) (by omega)
    omega
  have kA := fun W => left_any x y u v p q z (by unfold Good; omega) hz W
  have kB := fun W => left_any x y u v 0 0 z1 (by unfold Good; omega) hz1 W
  have kC := fun W => left_any x y (u + p) (v + q) 0 0 z (by unfold Good; omega) (by rw [← hz]; unfold leftF; rw [show x - (u + p) - 0 = x - u - p by omega, show y - (v + q) - 0 = y - v - q by omega]) W
  have kD := fun W => left_any x y p q u v z (by unfold Good; omega) (by rw [← hz]; unfold leftF; rw [show x - p - u = x - u - p by omega, show y - q - v = y - v - q by omega]) W
  clear hx hy hu hv hp hq hz hz1
  go_enter Try.func4, Try.ntmps4
  go_upto_region 5 with (first
    | (go_at_call 6; refine (known_any _).mono ?_; rintro e w1 ⟨rfl, hb1⟩)
    | (go_at_call 7; refine (k3 _).mono ?_; rintro e w2 ⟨rfl, hb2⟩
       have hW2 := fin hb2 hb1
       clear hb1 hb2))
  have qx : Box ((((w2.alloc (V x y)).alloc (V u v)).alloc (V p q)).alloc (V (u + p) (v + q))) w2.heap.size #[.int .i64 x, .int .i64 y] 24 := (((Box.new w2 _ _ rfl).up _).up _).up _
  have qu : Box ((((w2.alloc (V x y)).alloc (V u v)).alloc (V p q)).alloc (V (u + p) (v + q))) (w2.heap.size + 1) #[.int .i64 u, .int .i64 v] 24 := ((Box.new _ _ _ (by simp)).up _).up _
  have qp : Box ((((w2.alloc (V x y)).alloc (V u v)).alloc (V p q)).alloc (V (u + p) (v + q))) (w2.heap.size + 1 + 1) #[.int .i64 p, .int .i64 q] 24 := (Box.new _ _ _ (by simp)).up _
  have qb : Box ((((w2.alloc (V x y)).alloc (V u v)).alloc (V p q)).alloc (V (u + p) (v + q))) (w2.heap.size + 1 + 1 + 1) #[.int .i64 (u + p), .int .i64 (v + q)] 24 := Box.new _ _ _ (by simp)
  have hW := up (up (up (up hW2 (V x y)) (V u v)) (V p q)) (V (u + p) (v + q))
  generalize (((w2.alloc (V x y)).alloc (V u v)).alloc (V p q)).alloc (V (u + p) (v + q)) = W at *
  generalize w2.heap.size = A at *
  clear hW2 k3 x0 x1 y0 y1 u0 u1 v0 v1 p0 p1 q0 q1
  refine wp_region_rely (fun w1 => Below W.heap.size W w1) (fun w1 w2 => Below w1.heap.size w1 w2) (lessF x y u v p q z z1) (by kernel_rfl) (by kernel_rfl) (Below.refl _ _).drew ?keep ?step ?rest
  case keep =>
    intro i v w1 w2 hS hF
    unfold lessF at *
    split at hF <;> try exact hF
  case step =>
    intro i o d ho hd b w1 hR hold hdep
    have o13 : sl b 13 = .pointer (some ⟨A, 0, none⟩) := hold 13 (by kernel_rfl)
    have o14 : sl b 14 = .pointer (some ⟨A + 1, 0, none⟩) := hold 14 (by kernel_rfl)
    have o15 : sl b 15 = .pointer (some ⟨A + 1 + 1, 0, none⟩) := hold 15 (by kernel_rfl)
    have o16 : sl b 16 = .pointer (some ⟨A + 1 + 1 + 1, 0, none⟩) := hold 16 (by kernel_rfl)
    have hb0 := Below.refl w1.heap.size w1
    obtain ⟨x0, x1⟩ := (qx.later hR).cells2
    obtain ⟨u0, u1⟩ := (qu.later hR).cells2
    obtain ⟨p0, p1⟩ := (qp.later hR).cells2
    obtain ⟨b0, b1⟩ := (qb.later hR).cells2
    rcases i with _ | _ | _ | _ | _ | _ | _ | _ | _ | _ | _ | _ | _ | _ | _ | _ | _ | _ | _ | _ | _ | _ | _ | _ | _ | _ | _ | _ | _ | _ | _ | _ | i
    all_goals try (cases ho; cases hd)
    · exact ok_val' rfl rfl (want_none rfl b) (by simp [go_sem, o13, x0, x1]) hR hb0 rfl
    · exact ok_val' rfl rfl (want_none rfl b) (by simp [go_sem, o14, u0, u1]) hR hb0 rfl
    · exact ok_val' rfl rfl (want_none rfl b) (by simp [go_sem, o15, p0, p1]) hR hb0 rfl
    · have f41 : sl b 41 = .agg #[.int .i64 x, .int .i64 y] := hdep 0 _ _ rfl rfl (by kernel_rfl)
      have f42 : sl b 42 = .agg #[.int .i64 u, .int .i64 v] := hdep 1 _ _ rfl rfl (by kernel_rfl)
      have f43 : sl b 43 = .agg #[.int .i64 p, .int .i64 q] := hdep 2 _ _ rfl rfl (by kernel_rfl)
      refine ok_enter' rfl rfl (want_none rfl b) ?_ ((kA w1).mono ?_)
      · simp [go_sem, f41, f42, f43]
      rintro e w2 ⟨rfl, hb2⟩
      exact ⟨_, rfl, hR.trans (hb2.mono hR.size), hb2, rfl⟩
    · exact ok_val' rfl rfl (want_none rfl b) (by simp [go_sem, o13, x0, x1]) hR hb0 rfl
    · exact ok_val' rfl rfl (want_none rfl b) (by simp [go_sem, o14, u0, u1]) hR hb0 rfl
    · exact ok_val' rfl rfl (want_none rfl b) (by simp [go_sem]) hR hb0 rfl
    · have f45 : sl b 45 = .agg #[.int .i64 x, .int .i64 y] := hdep 4 _ _ rfl rfl (by kernel_rfl)
      have f46 : sl b 46 = .agg #[.int .i64 u, .int .i64 v] := hdep 5 _ _ rfl rfl (by kernel_rfl)
      have f47 : sl b 47 = .agg #[.int .i64 0, .int .i64 0] := hdep 6 _ _ rfl rfl (by kernel_rfl)
      refine ok_enter' rfl rfl (want_none rfl b) ?_ ((kB w1).mono ?_)
      · simp [go_sem, f45, f46, f47]
      rintro e w2 ⟨rfl, hb2⟩
      exact ⟨_, rfl, hR.trans (hb2.mono hR.size), hb2, rfl⟩
    · have f44 : sl b 44 = .int .i64 z := hdep 3 _ _ rfl rfl (by kernel_rfl)
      have f48 : sl b 48 = .int .i64 z1 := hdep 7 _ _ rfl rfl (by kernel_rfl)
      exact ok_val' rfl rfl (want_none rfl b) (by simp [go_sem, f44, f48, hle]) hR hb0 rfl
    · have f49 : sl b 49 = .bool true := hdep 8 _ _ rfl rfl (by kernel_rfl)
      exact ok_val' rfl rfl (want_none rfl b) (by simp [go_sem, f49]) hR hb0 rfl
    · have f50 : sl b 50 = .bool true := hdep 9 _ _ rfl rfl (by kernel_rfl)
      exact ok_val' rfl rfl (want 9 50 rfl rfl f50) (by simp [go_sem, o13, x0, x1]) hR hb0 rfl
    · have f50 : sl b 50 = .bool true := hdep 9 _ _ rfl rfl (by kernel_rfl)
      exact ok_val' rfl rfl (want 9 50 rfl rfl f50) (by simp [go_sem, o14, u0, u1]) hR hb0 rfl
    · have f50 : sl b 50 = .bool true := hdep 9 _ _ rfl rfl (by kernel_rfl)
      exact ok_val' rfl rfl (want 9 50 rfl rfl f50) (by simp [go_sem, o15, p0, p1]) hR hb0 rfl
    · have f51 : sl b 51 = .agg #[.int .i64 x, .int .i64 y] := hdep 10 _ _ rfl rfl (by kernel_rfl)
      have f52 : sl b 52 = .agg #[.int .i64 u, .int .i64 v] := hdep 11 _ _ rfl rfl (by kernel_rfl)
      have f53 : sl b 53 = .agg #[.int .i64 p, .int .i64 q] := hdep 12 _ _ rfl rfl (by kernel_rfl)
      have f50 : sl b 50 = .bool true := hdep 9 _ _ rfl rfl (by kernel_rfl)
      refine ok_enter' rfl rfl (want 9 50 rfl rfl f50) ?_ ((kA w1).mono ?_)
      · simp [go_sem, f51, f52, f53]
      rintro e w2 ⟨rfl, hb2⟩
      exact ⟨_, rfl, hR.trans (hb2.mono hR.size), hb2, rfl⟩
    · have f50 : sl b 50 = .bool true := hdep 9 _ _ rfl rfl (by kernel_rfl)
      exact ok_val' rfl rfl (want 9 50 rfl rfl f50) (by simp [go_sem, o13, x0, x1]) hR hb0 rfl
    · have f50 : sl b 50 = .bool true := hdep 9 _ _ rfl rfl (by kernel_rfl)
      exact ok_val' rfl rfl (want 9 50 rfl rfl f50) (by simp [go_sem, o16, b0, b1]) hR hb0 rfl
    · have f50 : sl b 50 = .bool true := hdep 9 _ _ rfl rfl (by kernel_rfl)
      exact ok_val' rfl rfl (want 9 50 rfl rfl f50) (by simp [go_sem]) hR hb0 rfl
    · have f55 : sl b 55 = .agg #[.int .i64 x, .int .i64 y] := hdep 14 _ _ rfl rfl (by kernel_rfl)
      have f56 : sl b 56 = .agg #[.int .i64 (u + p), .int .i64 (v + q)] := hdep 15 _ _ rfl rfl (by kernel_rfl)
      have f57 : sl b 57 = .agg #[.int .i64 0, .int .i64 0] := hdep 16 _ _ rfl rfl (by kernel_rfl)
      have f50 : sl b 50 = .bool true := hdep 9 _ _ rfl rfl (by kernel_rfl)
      refine ok_enter' rfl rfl (want 9 50 rfl rfl f50) ?_ ((kC w1).mono ?_)
      · simp [go_sem, f55, f56, f57]
      rintro e w2 ⟨rfl, hb2⟩
      exact ⟨_, rfl, hR.trans (hb2.mono hR.size), hb2, rfl⟩
    · have f54 : sl b 54 = .int .i64 z := hdep 13 _ _ rfl rfl (by kernel_rfl)
      have f58 : sl b 58 = .int .i64 z := hdep 17 _ _ rfl rfl (by kernel_rfl)
      have f50 : sl b 50 = .bool true := hdep 9 _ _ rfl rfl (by kernel_rfl)
      exact ok_val' rfl rfl (want 9 50 rfl rfl f50) (by simp [go_sem, f54, f58]) hR hb0 rfl
    · have f50 : sl b 50 = .bool true := hdep 9 _ _ rfl rfl (by kernel_rfl)
      have f59 : sl b 59 = .bool true := hdep 18 _ _ rfl rfl (by kernel_rfl)
      exact ok_val' rfl rfl (want_none rfl b) (by simp [go_sem, f50, f59]) hR hb0 rfl
    · have f60 : sl b 60 = .bool true := hdep 19 _ _ rfl rfl (by kernel_rfl)
      exact ok_val' rfl rfl (want_none rfl b) (by simp [go_sem, f60]) hR hb0 rfl
    · have f61 : sl b 61 = .bool true := hdep 20 _ _ rfl rfl (by kernel_rfl)
      exact ok_val' rfl rfl (want 20 61 rfl rfl f61) (by simp [go_sem, o13, x0, x1]) hR hb0 rfl
    · have f61 : sl b 61 = .bool true := hdep 20 _ _ rfl rfl (by kernel_rfl)
      exact ok_val' rfl rfl (want 20 61 rfl rfl f61) (by simp [go_sem, o14, u0, u1]) hR hb0 rfl
    · have f61 : sl b 61 = .bool true := hdep 20 _ _ rfl rfl (by kernel_rfl)
      exact ok_val' rfl rfl (want 20 61 rfl rfl f61) (by simp [go_sem, o15, p0, p1]) hR hb0 rfl
    · have f62 : sl b 62 = .agg #[.int .i64 x, .int .i64 y] := hdep 21 _ _ rfl rfl (by kernel_rfl)
      have f63 : sl b 63 = .agg #[.int .i64 u, .int .i64 v] := hdep 22 _ _ rfl rfl (by kernel_rfl)
      have f64 : sl b 64 = .agg #[.int .i64 p, .int .i64 q] := hdep 23 _ _ rfl rfl (by kernel_rfl)
      have f61 : sl b 61 = .bool true := hdep 20 _ _ rfl rfl (by kernel_rfl)
      refine ok_enter' rfl rfl (want 20 61 rfl rfl f61) ?_ ((kA w1).mono ?_)
      · simp [go_sem, f62, f63, f64]
      rintro e w2 ⟨rfl, hb2⟩
      exact ⟨_, rfl, hR.trans (hb2.mono hR.size), hb2, rfl⟩
    · have f61 : sl b 61 = .bool true := hdep 20 _ _ rfl rfl (by kernel_rfl)
      exact ok_val' rfl rfl (want 20 61 rfl rfl f61) (by simp [go_sem, o13, x0, x1]) hR hb0 rfl
    · have f61 : sl b 61 = .bool true := hdep 20 _ _ rfl rfl (by kernel_rfl)
      exact ok_val' rfl rfl (want 20 61 rfl rfl f61) (by simp [go_sem, o15, p0, p1]) hR hb0 rfl
    · have f61 : sl b 61 = .bool true := hdep 20 _ _ rfl rfl (by kernel_rfl)
      exact ok_val' rfl rfl (want 20 61 rfl rfl f61) (by simp [go_sem, o14, u0, u1]) hR hb0 rfl
    · have f66 : sl b 66 = .agg #[.int .i64 x, .int .i64 y] := hdep 25 _ _ rfl rfl (by kernel_rfl)
      have f67 : sl b 67 = .agg #[.int .i64 p, .int .i64 q] := hdep 26 _ _ rfl rfl (by kernel_rfl)
      have f68 : sl b 68 = .agg #[.int .i64 u, .int .i64 v] := hdep 27 _ _ rfl rfl (by kernel_rfl)
      have f61 : sl b 61 = .bool true := hdep 20 _ _ rfl rfl (by kernel_rfl)
      refine ok_enter' rfl rfl (want 20 61 rfl rfl f61) ?_ ((kD w1).mono ?_)
      · simp [go_sem, f66, f67, f68]
      rintro e w2 ⟨rfl, hb2⟩
      exact ⟨_, rfl, hR.trans (hb2.mono hR.size), hb2, rfl⟩
    · have f65 : sl b 65 = .int .i64 z := hdep 24 _ _ rfl rfl (by kernel_rfl)
      have f69 : sl b 69 = .int .i64 z := hdep 28 _ _ rfl rfl (by kernel_rfl)
      have f61 : sl b 61 = .bool true := hdep 20 _ _ rfl rfl (by kernel_rfl)
      exact ok_val' rfl rfl (want 20 61 rfl rfl f61) (by simp [go_sem, f65, f69]) hR hb0 rfl
    · have f61 : sl b 61 = .bool true := hdep 20 _ _ rfl rfl (by kernel_rfl)
      have f70 : sl b 70 = .bool true := hdep 29 _ _ rfl rfl (by kernel_rfl)
      exact ok_val' rfl rfl (want_none rfl b) (by simp [go_sem, f61, f70]) hR hb0 rfl
    · have f71 : sl b 71 = .bool true := hdep 30 _ _ rfl rfl (by kernel_rfl)
      exact ok_val' rfl rfl (want_none rfl b) (by simp [go_sem, f71]) hR hb0 rfl
    · cases ho
  case rest =>
    intro b w1 hR hsz hdf hold hF
    have f12 : sl b 12 = .bool true := hF 31 _ _ rfl rfl
    have hB : b = _ := act_list b (show b.tmps.size = 72 from hsz) hdf
    rw [hB]
    simp only [List.range, List.range.loop, List.map_cons, List.map_nil, f12]
    generalize sl b 0 = v0, sl b 1 = v1, sl b 2 = v2, sl b 3 = v3, sl b 4 = v4, sl b 5 = v5, sl b 6 = v6, sl b 7 = v7, sl b 8 = v8, sl b 9 = v9, sl b 10 = v10, sl b 11 = v11, sl b 13 = v13, sl b 14 = v14, sl b 15 = v15, sl b 16 = v16, sl b 17 = v17, sl b 18 = v18, sl b 19 = v19, sl b 20 = v20, sl b 21 = v21, sl b 22 = v22, sl b 23 = v23, sl b 24 = v24, sl b 25 = v25, sl b 26 = v26, sl b 27 = v27, sl b 28 = v28, sl b 29 = v29, sl b 30 = v30, sl b 31 = v31, sl b 32 = v32, sl b 33 = v33, sl b 34 = v34, sl b 35 = v35, sl b 36 = v36, sl b 37 = v37, sl b 38 = v38, sl b 39 = v39, sl b 40 = v40, sl b 41 = v41, sl b 42 = v42, sl b 43 = v43, sl b 44 = v44, sl b 45 = v45, sl b 46 = v46, sl b 47 = v47, sl b 48 = v48, sl b 49 = v49, sl b 50 = v50, sl b 51 = v51, sl b 52 = v52, sl b 53 = v53, sl b 54 = v54, sl b 55 = v55, sl b 56 = v56, sl b 57 = v57, sl b 58 = v58, sl b 59 = v59, sl b 60 = v60, sl b 61 = v61, sl b 62 = v62, sl b 63 = v63, sl b 64 = v64, sl b 65 = v65, sl b 66 = v66, sl b 67 = v67, sl b 68 = v68, sl b 69 = v69, sl b 70 = v70, sl b 71 = v71
    clear hB hold hsz hdf hF f12
    go_wp2
    go_ret
    exact ⟨rfl, fin hR hW⟩

end Go.Proofs.Ytmkbllkfipcghaa
