/- The walk of ScoreMore. -/
import Derived.Test.YtmkbllkfipcghabTH
import Derived.Test.YtmkbllkfipcghabKN
import Derived.Test.YtmkbllkfipcghabRF
namespace Go.Proofs.Ytmkbllkfipcghab
open Go.RowKit

theorem hun_more (l c k : Int) (hk : 0 < k) : hun (l * k) (c * k) = hun l c := by
  unfold hun
  by_cases hc : c = 0
  · subst hc; simp
  · rw [if_neg hc, if_neg (by intro h; rcases Int.mul_eq_zero.1 h with h | h <;> omega), ← Int.mul_assoc, Int.mul_ediv_mul_of_pos_left _ _ hk]

theorem mul_in (x k : Int) (h0 : 0 ≤ x) (h1 : x < 1000) (k0 : 1 ≤ k) (k1 : k ≤ 50) : 0 ≤ x * k ∧ x * k ≤ 50000 := by
  have a := Int.mul_nonneg h0 (show 0 ≤ k by omega)
  have b := Int.mul_le_mul (show x ≤ 1000 by omega) k1 (by omega) (by omega)
  omega

theorem scaled_any (x y k X Y : Int) (hX : wrap64 (x * k) = X) (hY : wrap64 (y * k) = Y) (w : World) :
    Calls Try.prog 8 #[.agg #[.int .i64 x, .int .i64 y], .int .i64 k] w fun e w' => e = .returned (.agg #[.int .i64 X, .int .i64 Y]) ∧ Below w.heap.size w w' := by
  subst hX hY
  go_enter Try.func8, Try.ntmps8
  go_wp2
  refine bodyPost_ret (by simp [results, Try.results8, go_sem]) rfl ⟨rfl, ?_⟩
  repeat (first | with_reducible exact Below.refl _ _ | with_reducible apply Below.drew | with_reducible refine Below.alloc ?_ (by simp <;> omega) _)

def moreF (x y u v p q x2 y2 u2 v2 p2 q2 z k : Int) : Nat → Value → World → Prop
  | 0, r, _ => r = .agg #[.int .i64 x2, .int .i64 y2]
  | 1, r, _ => r = .agg #[.int .i64 u, .int .i64 v]
  | 2, r, _ => r = .int .i64 k
  | 3, r, _ => r = .agg #[.int .i64 u2, .int .i64 v2]
  | 4, r, _ => r = .agg #[.int .i64 p, .int .i64 q]
  | 5, r, _ => r = .int .i64 k
  | 6, r, _ => r = .agg #[.int .i64 p2, .int .i64 q2]
  | 7, r, _ => r = .int .i64 z
  | 8, r, _ => r = .agg #[.int .i64 x, .int .i64 y]
  | 9, r, _ => r = .agg #[.int .i64 u, .int .i64 v]
  | 10, r, _ => r = .agg #[.int .i64 p, .int .i64 q]
  | 11, r, _ => r = .int .i64 z
  | 12, r, _ => r = .bool true
  | 13, r, _ => r = .bool true
  | 14, r, _ => r = .agg #[.int .i64 x, .int .i64 y]
  | 15, r, _ => r = .agg #[.int .i64 u, .int .i64 v]
  | 16, r, _ => r = .agg #[.int .i64 p, .int .i64 q]
  | 17, r, _ => r = .int .i64 z
  | 18, r, _ => r = .agg #[.int .i64 x, .int .i64 y]
  | 19, r, _ => r = .agg #[.int .i64 u, .int .i64 v]
  | 20, r, _ => r = .agg #[.int .i64 p, .int .i64 q]
  | 21, r, _ => r = .int .i64 z
  | 22, r, _ => r = .bool true
  | 23, r, _ => r = .bool true
  | 24, r, _ => r = .bool true
  | _, _, _ => True

set_option maxRecDepth 100000 in
set_option maxHeartbeats 4000000 in
theorem scoreMore_walk (a b c d e f by_ : Int) (w : World) :
    Calls Try.prog 3 #[.int .i64 a, .int .i64 b, .int .i64 c, .int .i64 d, .int .i64 e, .int .i64 f, .int .i64 by_] w fun e w' => e = .returned (.bool true) ∧ Below w.heap.size w w' := by
  obtain ⟨x, hx⟩ : ∃ x, a % 1000 = x := ⟨_, rfl⟩
  obtain ⟨y, hy⟩ : ∃ x, b % 1000 = x := ⟨_, rfl⟩
  obtain ⟨u, hu⟩ : ∃ u, c % (x + 1) = u := ⟨_, rfl⟩
  obtain ⟨v, hv⟩ : ∃ v, d % (y + 1) = v := ⟨_, rfl⟩
  obtain ⟨p, hp⟩ : ∃ p, e % (x - u + 1) = p := ⟨_, rfl⟩
  obtain ⟨q, hq⟩ : ∃ q, f % (y - v + 1) = q := ⟨_, rfl⟩
  have k3 := fun W => three_any a b c d e f 1000 x y u v p q (by decide) (by decide) hx hy hu hv hp hq W
  have x0 : 0 ≤ x := by rw [← hx]; exact Int.emod_nonneg _ (by omega)
  have x1 : x < 1000 := by rw [← hx]; exact Int.emod_lt_of_pos _ (by omega)
  have y0 : 0 ≤ y := by rw [← hy]; exact Int.emod_nonneg _ (by omega)
  have y1 : y < 1000 := by rw [← hy]; exact Int.emod_lt_of_pos _ (by omega)
  have u0 : 0 ≤ u := by rw [← hu]; exact Int.emod_nonneg _ (by omega)
  have u1 : u < x + 1 := by rw [← hu]; exact Int.emod_lt_of_pos _ (by omega)
  have v0 : 0 ≤ v := by rw [← hv]; exact Int.emod_nonneg _ (by omega)
  have v1 : v < y + 1 := by rw [← hv]; exact Int.emod_lt_of_pos _ (by omega)
  have p0 : 0 ≤ p := by rw [← hp]; exact Int.emod_nonneg _ (by omega)
  have p1 : p < x - u + 1 := by rw [← hp]; exact Int.emod_lt_of_pos _ (by omega)
  have q0 : 0 ≤ q := by rw [← hq]; exact Int.emod_nonneg _ (by omega)
  have q1 : q < y - v + 1 := by rw [← hq]; exact Int.emod_lt_of_pos _ (by omega)
  obtain ⟨z, hz⟩ : ∃ z, leftF x y u v p q = z := ⟨_, rfl⟩
  obtain ⟨kk, hkk⟩ : ∃ k, by_ % 50 = k := ⟨_, rfl⟩
  have kw := fun W => within6_any by_ 50 kk (by decide) (by decide) hkk W
  obtain ⟨k, hk⟩ : ∃ k, 1 + kk = k := ⟨_, rfl⟩
  have g1 : 1 ≤ k := by have := Int.emod_nonneg by_ (show (50 : Int) ≠ 0 by decide); omega
  have g2 : k ≤ 50 := by have := Int.emod_lt_of_pos by_ (show (0 : Int) < 50 by decide); omega
  obtain ⟨x2, hx2⟩ : ∃ t, x * k = t := ⟨_, rfl⟩
  obtain ⟨y2, hy2⟩ : ∃ t, y * k = t := ⟨_, rfl⟩
  obtain ⟨u2, hu2⟩ : ∃ t, u * k = t := ⟨_, rfl⟩
  obtain ⟨v2, hv2⟩ : ∃ t, v * k = t := ⟨_, rfl⟩
  obtain ⟨p2, hp2⟩ : ∃ t, p * k = t := ⟨_, rfl⟩
  obtain ⟨q2, hq2⟩ : ∃ t, q * k = t := ⟨_, rfl⟩
  have mx := mul_in x k (by omega) (by omega) g1 g2
  have my := mul_in y k (by omega) (by omega) g1 g2
  have mu := mul_in u k (by omega) (by omega) g1 g2
  have mv := mul_in v k (by omega) (by omega) g1 g2
  have mp := mul_in p k (by omega) (by omega) g1 g2
  have mq := mul_in q k (by omega) (by omega) g1 g2
  have s1 : u2 + p2 ≤ x2 := by rw [← hu2, ← hp2, ← hx2, ← Int.add_mul]; exact Int.mul_le_mul_of_nonneg_right (by omega) (by omega)
  have s2 : v2 + q2 ≤ y2 := by rw [← hv2, ← hq2, ← hy2, ← Int.add_mul]; exact Int.mul_le_mul_of_nonneg_right (by omega) (by omega)
  have e1 : leftF x2 y2 u2 v2 p2 q2 = z := by
    rw [← hz, ← hx2, ← hy2, ← hu2, ← hv2, ← hp2, ← hq2]
    unfold leftF
    rw [← Int.sub_mul, ← Int.sub_mul, ← Int.sub_mul, ← Int.sub_mul, hun_more _ _ _ (by omega), hun_more _ _ _ (by omega)]
  rw [hx2] at mx; rw [hy2] at my; rw [hu2] at mu; rw [hv2] at mv; rw [hp2] at mp; rw [hq2] at mq
  have kx := fun W => scaled_any x y k x2 y2 (by rw [hx2]; unfold wrap64; omega) (by rw [hy2]; unfold wrap64; omega) W
  have ku := fun W => scaled_any u v k u2 v2 (by rw [hu2]; unfold wrap64; omega) (by rw [hv2]; unfold wrap64; omega) W
  have kp := fun W => scaled_any p q k p2 q2 (by rw [hp2]; unfold wrap64; omega) (by rw [hq2]; unfold wrap64; omega) W
  have kA := fun W => left_any x y u v p q z (by unfold Good; omega) hz W
  have kS := fun W => left_any x2 y2 u2 v2 p2 q2 z (by unfold Good; omega) e1 W
  have kR := fun W => rLeft_any x y u v p q z (by unfold Good; omega) hz W
  clear hx hy hu hv hp hq hz hx2 hy2 hu2 hv2 hp2 hq2 mx my mu mv mp mq s1 s2 e1 hkk
  clear x0 x1 y0 y1 u0 u1 v0 v1 p0 p1 q0 q1
  subst hk
  go_enter Try.func3, Try.ntmps3
  go_upto_region 6 with (first
    | (go_at_call 5; refine (known_any _).mono ?_; rintro e w1 ⟨rfl, hb1⟩)
    | (go_at_call 6; refine (k3 _).mono ?_; rintro e w2 ⟨rfl, hb2⟩
       have hW2 := fin hb2 hb1
       clear hb1 hb2)
    | (go_at_call 7; refine (kw _).mono ?_; rintro e w9 ⟨rfl, rfl⟩)
    | (go_at_call 8; refine (kx _).mono ?_; rintro e w3 ⟨rfl, hb3⟩
       have qx : Box w3 w2.heap.size #[.int .i64 x, .int .i64 y] 24 := (((Box.new w2 _ _ rfl).up _).up _).later hb3
       have qu : Box w3 (w2.heap.size + 1) #[.int .i64 u, .int .i64 v] 24 := ((Box.new _ _ _ (by simp)).up _).later hb3
       have qp : Box w3 (w2.heap.size + 1 + 1) #[.int .i64 p, .int .i64 q] 24 := (Box.new _ _ _ (by simp)).later hb3
       have hW3 := fin hb3 (up (up (up hW2 (V x y)) (V u v)) (V p q))
       clear hb3))
  have qx := qx.up (V x2 y2)
  have qu := qu.up (V x2 y2)
  have qp := qp.up (V x2 y2)
  have qb := Box.new w3 #[.int .i64 x2, .int .i64 y2] 24 rfl
  have hW := up hW3 (V x2 y2)
  generalize hD : w3.heap.size = D at *
  generalize w3.alloc (V x2 y2) = W at *
  generalize w2.heap.size = A at *
  clear hW2 hW3 k3 kw kx
  generalize 1 + kk = k at *
  clear g1 g2
  refine wp_region_rely (fun w1 => Below W.heap.size W w1) (fun w1 w2 => Below w1.heap.size w1 w2) (moreF x y u v p q x2 y2 u2 v2 p2 q2 z k) (by kernel_rfl) (by kernel_rfl) (Below.refl _ _).drew ?keep ?step ?rest
  case keep =>
    intro i v w1 w2 hS hF
    unfold moreF at *
    split at hF <;> try exact hF
  case step =>
    intro i o d ho hd b w1 hR hold hdep
    have o15 : sl b 15 = .pointer (some ⟨A, 0, none⟩) := hold 15 (by kernel_rfl)
    have o16 : sl b 16 = .pointer (some ⟨A + 1, 0, none⟩) := hold 16 (by kernel_rfl)
    have o17 : sl b 17 = .pointer (some ⟨A + 1 + 1, 0, none⟩) := hold 17 (by kernel_rfl)
    have o18 : sl b 18 = .int .i64 k := hold 18 (by kernel_rfl)
    have o19 : sl b 19 = .pointer (some ⟨D, 0, none⟩) := hold 19 (by kernel_rfl)
    have hb0 := Below.refl w1.heap.size w1
    obtain ⟨x0, x1⟩ := (qx.later hR).cells2
    obtain ⟨u0, u1⟩ := (qu.later hR).cells2
    obtain ⟨p0, p1⟩ := (qp.later hR).cells2
    obtain ⟨b0, b1⟩ := (qb.later hR).cells2
    rcases i with _ | _ | _ | _ | _ | _ | _ | _ | _ | _ | _ | _ | _ | _ | _ | _ | _ | _ | _ | _ | _ | _ | _ | _ | _ | i
    all_goals try (cases ho; cases hd)
    · exact ok_val' rfl rfl (want_none rfl b) (by simp [go_sem, o19, b0, b1]) hR hb0 rfl
    · exact ok_val' rfl rfl (want_none rfl b) (by simp [go_sem, o16, u0, u1]) hR hb0 rfl
    · exact ok_val' rfl rfl (want_none rfl b) (by simp [go_sem, o18]) hR hb0 rfl
    · have f40 : sl b 40 = .agg #[.int .i64 u, .int .i64 v] := hdep 1 _ _ rfl rfl (by kernel_rfl)
      have f41 : sl b 41 = .int .i64 k := hdep 2 _ _ rfl rfl (by kernel_rfl)
      refine ok_enter' rfl rfl (want_none rfl b) ?_ ((ku w1).mono ?_)
      · simp [go_sem, f40, f41]
      rintro e w2 ⟨rfl, hb2⟩
      exact ⟨_, rfl, hR.trans (hb2.mono hR.size), hb2, rfl⟩
    · exact ok_val' rfl rfl (want_none rfl b) (by simp [go_sem, o17, p0, p1]) hR hb0 rfl
    · exact ok_val' rfl rfl (want_none rfl b) (by simp [go_sem, o18]) hR hb0 rfl
    · have f43 : sl b 43 = .agg #[.int .i64 p, .int .i64 q] := hdep 4 _ _ rfl rfl (by kernel_rfl)
      have f44 : sl b 44 = .int .i64 k := hdep 5 _ _ rfl rfl (by kernel_rfl)
      refine ok_enter' rfl rfl (want_none rfl b) ?_ ((kp w1).mono ?_)
      · simp [go_sem, f43, f44]
      rintro e w2 ⟨rfl, hb2⟩
      exact ⟨_, rfl, hR.trans (hb2.mono hR.size), hb2, rfl⟩
    · have f39 : sl b 39 = .agg #[.int .i64 x2, .int .i64 y2] := hdep 0 _ _ rfl rfl (by kernel_rfl)
      have f42 : sl b 42 = .agg #[.int .i64 u2, .int .i64 v2] := hdep 3 _ _ rfl rfl (by kernel_rfl)
      have f45 : sl b 45 = .agg #[.int .i64 p2, .int .i64 q2] := hdep 6 _ _ rfl rfl (by kernel_rfl)
      refine ok_enter' rfl rfl (want_none rfl b) ?_ ((kS w1).mono ?_)
      · simp [go_sem, f39, f42, f45]
      rintro e w2 ⟨rfl, hb2⟩
      exact ⟨_, rfl, hR.trans (hb2.mono hR.size), hb2, rfl⟩
    · exact ok_val' rfl rfl (want_none rfl b) (by simp [go_sem, o15, x0, x1]) hR hb0 rfl
    · exact ok_val' rfl rfl (want_none rfl b) (by simp [go_sem, o16, u0, u1]) hR hb0 rfl
    · exact ok_val' rfl rfl (want_none rfl b) (by simp [go_sem, o17, p0, p1]) hR hb0 rfl
    · have f47 : sl b 47 = .agg #[.int .i64 x, .int .i64 y] := hdep 8 _ _ rfl rfl (by kernel_rfl)
      have f48 : sl b 48 = .agg #[.int .i64 u, .int .i64 v] := hdep 9 _ _ rfl rfl (by kernel_rfl)
      have f49 : sl b 49 = .agg #[.int .i64 p, .int .i64 q] := hdep 10 _ _ rfl rfl (by kernel_rfl)
      refine ok_enter' rfl rfl (want_none rfl b) ?_ ((kA w1).mono ?_)
      · simp [go_sem, f47, f48, f49]
      rintro e w2 ⟨rfl, hb2⟩
      exact ⟨_, rfl, hR.trans (hb2.mono hR.size), hb2, rfl⟩
    · have f46 : sl b 46 = .int .i64 z := hdep 7 _ _ rfl rfl (by kernel_rfl)
      have f50 : sl b 50 = .int .i64 z := hdep 11 _ _ rfl rfl (by kernel_rfl)
      exact ok_val' rfl rfl (want_none rfl b) (by simp [go_sem, f46, f50]) hR hb0 rfl
    · have f51 : sl b 51 = .bool true := hdep 12 _ _ rfl rfl (by kernel_rfl)
      exact ok_val' rfl rfl (want_none rfl b) (by simp [go_sem, f51]) hR hb0 rfl
    · have f52 : sl b 52 = .bool true := hdep 13 _ _ rfl rfl (by kernel_rfl)
      exact ok_val' rfl rfl (want 13 52 rfl rfl f52) (by simp [go_sem, o15, x0, x1]) hR hb0 rfl
    · have f52 : sl b 52 = .bool true := hdep 13 _ _ rfl rfl (by kernel_rfl)
      exact ok_val' rfl rfl (want 13 52 rfl rfl f52) (by simp [go_sem, o16, u0, u1]) hR hb0 rfl
    · have f52 : sl b 52 = .bool true := hdep 13 _ _ rfl rfl (by kernel_rfl)
      exact ok_val' rfl rfl (want 13 52 rfl rfl f52) (by simp [go_sem, o17, p0, p1]) hR hb0 rfl
    · have f53 : sl b 53 = .agg #[.int .i64 x, .int .i64 y] := hdep 14 _ _ rfl rfl (by kernel_rfl)
      have f54 : sl b 54 = .agg #[.int .i64 u, .int .i64 v] := hdep 15 _ _ rfl rfl (by kernel_rfl)
      have f55 : sl b 55 = .agg #[.int .i64 p, .int .i64 q] := hdep 16 _ _ rfl rfl (by kernel_rfl)
      have f52 : sl b 52 = .bool true := hdep 13 _ _ rfl rfl (by kernel_rfl)
      refine ok_enter' rfl rfl (want 13 52 rfl rfl f52) ?_ ((kR w1).mono ?_)
      · simp [go_sem, f53, f54, f55]
      rintro e w2 ⟨rfl, hb2⟩
      exact ⟨_, rfl, hR.trans (hb2.mono hR.size), hb2, rfl⟩
    · have f52 : sl b 52 = .bool true := hdep 13 _ _ rfl rfl (by kernel_rfl)
      exact ok_val' rfl rfl (want 13 52 rfl rfl f52) (by simp [go_sem, o15, x0, x1]) hR hb0 rfl
    · have f52 : sl b 52 = .bool true := hdep 13 _ _ rfl rfl (by kernel_rfl)
      exact ok_val' rfl rfl (want 13 52 rfl rfl f52) (by simp [go_sem, o16, u0, u1]) hR hb0 rfl
    · have f52 : sl b 52 = .bool true := hdep 13 _ _ rfl rfl (by kernel_rfl)
      exact ok_val' rfl rfl (want 13 52 rfl rfl f52) (by simp [go_sem, o17, p0, p1]) hR hb0 rfl
    · have f57 : sl b 57 = .agg #[.int .i64 x, .int .i64 y] := hdep 18 _ _ rfl rfl (by kernel_rfl)
      have f58 : sl b 58 = .agg #[.int .i64 u, .int .i64 v] := hdep 19 _ _ rfl rfl (by kernel_rfl)
      have f59 : sl b 59 = .agg #[.int .i64 p, .int .i64 q] := hdep 20 _ _ rfl rfl (by kernel_rfl)
      have f52 : sl b 52 = .bool true := hdep 13 _ _ rfl rfl (by kernel_rfl)
      refine ok_enter' rfl rfl (want 13 52 rfl rfl f52) ?_ ((kA w1).mono ?_)
      · simp [go_sem, f57, f58, f59]
      rintro e w2 ⟨rfl, hb2⟩
      exact ⟨_, rfl, hR.trans (hb2.mono hR.size), hb2, rfl⟩
    · have f56 : sl b 56 = .int .i64 z := hdep 17 _ _ rfl rfl (by kernel_rfl)
      have f60 : sl b 60 = .int .i64 z := hdep 21 _ _ rfl rfl (by kernel_rfl)
      have f52 : sl b 52 = .bool true := hdep 13 _ _ rfl rfl (by kernel_rfl)
      exact ok_val' rfl rfl (want 13 52 rfl rfl f52) (by simp [go_sem, f56, f60]) hR hb0 rfl
    · have f52 : sl b 52 = .bool true := hdep 13 _ _ rfl rfl (by kernel_rfl)
      have f61 : sl b 61 = .bool true := hdep 22 _ _ rfl rfl (by kernel_rfl)
      exact ok_val' rfl rfl (want_none rfl b) (by simp [go_sem, f52, f61]) hR hb0 rfl
    · have f62 : sl b 62 = .bool true := hdep 23 _ _ rfl rfl (by kernel_rfl)
      exact ok_val' rfl rfl (want_none rfl b) (by simp [go_sem, f62]) hR hb0 rfl
    · cases ho
  case rest =>
    intro b w1 hR hsz hdf hold hF
    have f14 : sl b 14 = .bool true := hF 24 _ _ rfl rfl
    have hB : b = _ := act_list b (show b.tmps.size = 63 from hsz) hdf
    rw [hB]
    simp only [List.range, List.range.loop, List.map_cons, List.map_nil, f14]
    generalize sl b 0 = v0, sl b 1 = v1, sl b 2 = v2, sl b 3 = v3, sl b 4 = v4, sl b 5 = v5, sl b 6 = v6, sl b 7 = v7, sl b 8 = v8, sl b 9 = v9, sl b 10 = v10, sl b 11 = v11, sl b 12 = v12, sl b 13 = v13, sl b 15 = v15, sl b 16 = v16, sl b 17 = v17, sl b 18 = v18, sl b 19 = v19, sl b 20 = v20, sl b 21 = v21, sl b 22 = v22, sl b 23 = v23, sl b 24 = v24, sl b 25 = v25, sl b 26 = v26, sl b 27 = v27, sl b 28 = v28, sl b 29 = v29, sl b 30 = v30, sl b 31 = v31, sl b 32 = v32, sl b 33 = v33, sl b 34 = v34, sl b 35 = v35, sl b 36 = v36, sl b 37 = v37, sl b 38 = v38, sl b 39 = v39, sl b 40 = v40, sl b 41 = v41, sl b 42 = v42, sl b 43 = v43, sl b 44 = v44, sl b 45 = v45, sl b 46 = v46, sl b 47 = v47, sl b 48 = v48, sl b 49 = v49, sl b 50 = v50, sl b 51 = v51, sl b 52 = v52, sl b 53 = v53, sl b 54 = v54, sl b 55 = v55, sl b 56 = v56, sl b 57 = v57, sl b 58 = v58, sl b 59 = v59, sl b 60 = v60, sl b 61 = v61, sl b 62 = v62
    clear hB hold hsz hdf hF f14
    go_wp2
    go_ret
    exact ⟨rfl, fin hR hW⟩

end Go.Proofs.Ytmkbllkfipcghab
