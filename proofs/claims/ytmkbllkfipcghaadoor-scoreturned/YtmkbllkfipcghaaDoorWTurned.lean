/- The walk of ScoreTurned. -/
import Derived.Test.YtmkbllkfipcghaaDoorTH
import Derived.Test.YtmkbllkfipcghaaDoorKN
import Derived.Test.YtmkbllkfipcghaaDoorSO
namespace Go.Proofs.YtmkbllkfipcghaaDoor
open Go.RowKit

def turnedF (x y u v p q k L od mode j : Int) : Nat → Value → World → Prop
  | 0, r, _ => r = .agg #[.int .i64 x, .int .i64 y]
  | 1, r, _ => r = .agg #[.int .i64 u, .int .i64 v]
  | 2, r, _ => r = .agg #[.int .i64 p, .int .i64 q]
  | 3, r, _ => r = .int .i64 k
  | 4, r, _ => r = .int .i64 L
  | 5, r, _ => r = .agg #[.int .i64 x, .int .i64 y]
  | 6, r, _ => r = .agg #[.int .i64 u, .int .i64 v]
  | 7, r, _ => r = .agg #[.int .i64 p, .int .i64 q]
  | 8, r, _ => r = .int .i64 k
  | 9, r, _ => r = .int .i64 (200 - L)
  | 10, r, _ => r = .int .i64 200
  | 11, r, _ => r = .bool true
  | 12, r, _ => r = .bool true
  | 13, r, _ => r = .agg #[.int .i64 x, .int .i64 y]
  | 14, r, _ => r = .agg #[.int .i64 u, .int .i64 v]
  | 15, r, _ => r = .agg #[.int .i64 p, .int .i64 q]
  | 16, r, _ => r = .int .i64 k
  | 17, r, _ => r = .int .i64 (1000 - k)
  | 18, r, _ => r = .int .i64 k
  | 19, r, _ => r = .int .i64 (1000 - k)
  | 20, r, _ => r = .bool true
  | 21, r, _ => r = .bool true
  | 22, r, _ => r = .bool true
  | 23, r, _ => r = .int .i64 od
  | 24, r, _ => r = .agg #[.int .i64 x, .int .i64 y]
  | 25, r, _ => r = .agg #[.int .i64 u, .int .i64 v]
  | 26, r, _ => r = .agg #[.int .i64 p, .int .i64 q]
  | 27, r, _ => r = .int .i64 k
  | 28, r, _ => r = .int .i64 0
  | 29, r, _ => r = .bool true
  | 30, r, _ => r = .bool true
  | 31, r, _ => r = .bool true
  | 32, r, _ => r = .int .i64 mode
  | 33, r, _ => r = .int .i64 j
  | 34, r, _ => r = .int .i64 (-1 - j)
  | 35, r, _ => r = .agg #[.int .i64 x, .int .i64 y]
  | 36, r, _ => r = .agg #[.int .i64 u, .int .i64 v]
  | 37, r, _ => r = .agg #[.int .i64 p, .int .i64 q]
  | 38, r, _ => r = .int .i64 k
  | 39, r, _ => r = .int .i64 0
  | 40, r, _ => r = .bool true
  | 41, r, _ => r = .bool true
  | 42, r, _ => r = .bool true
  | _, _, _ => True

set_option maxRecDepth 100000 in
set_option maxHeartbeats 4000000 in
theorem scoreTurned_walk (a b c d e f pods mode : Int) (w : World) (hT : Tab w) :
    Calls Tryd.prog 4 #[.int .i64 a, .int .i64 b, .int .i64 c, .int .i64 d, .int .i64 e, .int .i64 f, .int .i64 pods, .int .i64 mode] w fun e w' => e = .returned (.bool true) ∧ Below w.heap.size w w' := by
  obtain ⟨x, hx⟩ : ∃ x, a % 1000 = x := ⟨_, rfl⟩
  obtain ⟨y, hy⟩ : ∃ x, b % 1000 = x := ⟨_, rfl⟩
  obtain ⟨u, hu⟩ : ∃ u, c % (x + 1) = u := ⟨_, rfl⟩
  obtain ⟨v, hv⟩ : ∃ v, d % (y + 1) = v := ⟨_, rfl⟩
  obtain ⟨p, hp⟩ : ∃ p, e % (x - u + 1) = p := ⟨_, rfl⟩
  obtain ⟨q, hq⟩ : ∃ q, f % (y - v + 1) = q := ⟨_, rfl⟩
  have k3 := fun W => three_any a b c d e f 1000 x y u v p q (by decide) (by decide) hx hy hu hv hp hq W
  have x0 : 0 ≤ x := by rw [← hx]; exact Int.emod_nonneg _ (by omega)
  have x1 : x < 1000 := by rw [← hx]; exact Int.emod_lt_of_pos _ (by omega)
  have y0 : 0 ≤ y := by rw [← hy]; exact Int.emod_nonneg _ (by omega)
  have y1 : y < 1000 := by rw [← hy]; exact Int.emod_lt_of_pos _ (by omega)
  have u0 : 0 ≤ u := by rw [← hu]; exact Int.emod_nonneg _ (by omega)
  have u1 : u < x + 1 := by rw [← hu]; exact Int.emod_lt_of_pos _ (by omega)
  have v0 : 0 ≤ v := by rw [← hv]; exact Int.emod_nonneg _ (by omega)
  have v1 : v < y + 1 := by rw [← hv]; exact Int.emod_lt_of_pos _ (by omega)
  have p0 : 0 ≤ p := by rw [← hp]; exact Int.emod_nonneg _ (by omega)
  have p1 : p < x - u + 1 := by rw [← hp]; exact Int.emod_lt_of_pos _ (by omega)
  have q0 : 0 ≤ q := by rw [← hq]; exact Int.emod_nonneg _ (by omega)
  have q1 : q < y - v + 1 := by rw [← hq]; exact Int.emod_lt_of_pos _ (by omega)
  have hG : Good x y u v p q := by unfold Good; omega
  obtain ⟨L, hL⟩ : ∃ z, leftF x y u v p q = z := ⟨_, rfl⟩
  have hb := leftF_le hG
  obtain ⟨k, hk⟩ : ∃ k, pods % 1000 = k := ⟨_, rfl⟩
  obtain ⟨o, ho⟩ : ∃ k, mode % 100 = k := ⟨_, rfl⟩
  obtain ⟨j, hj⟩ : ∃ k, mode % 9 = k := ⟨_, rfl⟩
  have kk := fun W => within6_any pods 1000 k (by decide) (by decide) hk W
  have ko := fun W => within6_any mode 100 o (by decide) (by decide) ho W
  have kj := fun W => within6_any mode 9 j (by decide) (by decide) hj W
  have hp1 : 0 ≤ k ∧ k ≤ 1000 := by omega
  have o0 : 0 ≤ o := by omega
  have o1 : o < 100 := by omega
  have g1 : IntKind.i64.wrap (L + (200 - L)) = 200 := by rw [IntKind.wrap_i64]; omega
  have g2 : IntKind.i64.wrap (1000 - k) = 1000 - k := by rw [IntKind.wrap_i64]; omega
  have g3 : IntKind.i64.wrap (-1 - j) = -1 - j := by rw [IntKind.wrap_i64]; omega
  have k0 := fun W hW => score_any 0 x y u v p q k L hG hp1 (by rw [hL]; rfl) W hW
  have k1 := fun W hW => score_any 1 x y u v p q k (200 - L) hG hp1 (by rw [hL]; rfl) W hW
  have k2 := fun W hW => score_any 2 x y u v p q k (1000 - k) hG hp1 (by rw [hL]; rfl) W hW
  have k5 := fun W hW => score_any (3 + o) x y u v p q k 0 hG hp1 (by unfold scoreV; rw [if_neg (by omega), if_neg (by omega), if_neg (by omega)]) W hW
  have k6 := fun W hW => score_any (-1 - j) x y u v p q k 0 hG hp1 (by unfold scoreV; rw [if_neg (by omega), if_neg (by omega), if_neg (by omega)]) W hW
  clear hx hy hu hv hp hq hL hb hG hk ho hj hp1 x0 x1 y0 y1 u0 u1 v0 v1 p0 p1 q0 q1
  go_enter Tryd.func4, Tryd.ntmps4
  go_upto_region 6 with (first
    | (go_at_call 6; refine (known_any _).mono ?_; rintro e w1 ⟨rfl, hb1⟩)
    | (go_at_call 7; refine (k3 _).mono ?_; rintro e w2 ⟨rfl, hb2⟩
       have hW2 := fin hb2 hb1
       clear hb1 hb2)
    | (go_at_call_of 8 (Value.int .i64 pods); refine (kk _).mono ?_; rintro e w9 ⟨rfl, rfl⟩)
    | (go_at_call_of 8 (Value.int .i64 mode); refine (ko _).mono ?_; rintro e w9 ⟨rfl, rfl⟩))
  have qx : Box (((w2.alloc (V x y)).alloc (V u v)).alloc (V p q)) w2.heap.size #[.int .i64 x, .int .i64 y] 25 := ((Box.new w2 _ _ rfl).up _).up _
  have qu : Box (((w2.alloc (V x y)).alloc (V u v)).alloc (V p q)) (w2.heap.size + 1) #[.int .i64 u, .int .i64 v] 25 := (Box.new _ _ _ (by simp)).up _
  have qp : Box (((w2.alloc (V x y)).alloc (V u v)).alloc (V p q)) (w2.heap.size + 1 + 1) #[.int .i64 p, .int .i64 q] 25 := Box.new _ _ _ (by simp)
  have hW := up (up (up hW2 (V x y)) (V u v)) (V p q)
  generalize ((w2.alloc (V x y)).alloc (V u v)).alloc (V p q) = W at *
  generalize w2.heap.size = A at *
  have hTW := hT.later hW
  generalize 3 + o = od at *
  clear hW2 k3 o0 o1 kk ko hT
  refine wp_region_rely (fun w1 => Below W.heap.size W w1) (fun w1 w2 => Below w1.heap.size w1 w2) (turnedF x y u v p q k L od mode j) (by kernel_rfl) (by kernel_rfl) (Below.refl _ _).drew ?keep ?step ?rest
  case keep =>
    intro i v w1 w2 hS hF
    unfold turnedF at *
    split at hF <;> try exact hF
  case step =>
    intro i o d ho hd b w1 hR hold hdep
    have o7 : sl b 7 = .int .i64 mode := hold 7 (by kernel_rfl)
    have o17 : sl b 17 = .pointer (some ⟨A, 0, none⟩) := hold 17 (by kernel_rfl)
    have o18 : sl b 18 = .pointer (some ⟨A + 1, 0, none⟩) := hold 18 (by kernel_rfl)
    have o19 : sl b 19 = .pointer (some ⟨A + 1 + 1, 0, none⟩) := hold 19 (by kernel_rfl)
    have o20 : sl b 20 = .int .i64 k := hold 20 (by kernel_rfl)
    have o21 : sl b 21 = .int .i64 od := hold 21 (by kernel_rfl)
    have hb0 := Below.refl w1.heap.size w1
    obtain ⟨x0, x1⟩ := (qx.later hR).cells2
    obtain ⟨u0, u1⟩ := (qu.later hR).cells2
    obtain ⟨p0, p1⟩ := (qp.later hR).cells2
    rcases i with _ | _ | _ | _ | _ | _ | _ | _ | _ | _ | _ | _ | _ | _ | _ | _ | _ | _ | _ | _ | _ | _ | _ | _ | _ | _ | _ | _ | _ | _ | _ | _ | _ | _ | _ | _ | _ | _ | _ | _ | _ | _ | _ | i
    all_goals try (cases ho; cases hd)
    · exact ok_val' rfl rfl (want_none rfl b) (by simp [go_sem, o17, x0, x1]) hR hb0 rfl
    · exact ok_val' rfl rfl (want_none rfl b) (by simp [go_sem, o18, u0, u1]) hR hb0 rfl
    · exact ok_val' rfl rfl (want_none rfl b) (by simp [go_sem, o19, p0, p1]) hR hb0 rfl
    · exact ok_val' rfl rfl (want_none rfl b) (by simp [go_sem, o20]) hR hb0 rfl
    · have f40 : sl b 40 = .agg #[.int .i64 x, .int .i64 y] := hdep 0 _ _ rfl rfl (by kernel_rfl)
      have f41 : sl b 41 = .agg #[.int .i64 u, .int .i64 v] := hdep 1 _ _ rfl rfl (by kernel_rfl)
      have f42 : sl b 42 = .agg #[.int .i64 p, .int .i64 q] := hdep 2 _ _ rfl rfl (by kernel_rfl)
      have f43 : sl b 43 = .int .i64 k := hdep 3 _ _ rfl rfl (by kernel_rfl)
      refine ok_enter' rfl rfl (want_none rfl b) ?_ ((k0 w1 (hTW.later hR)).mono ?_)
      · simp [go_sem, f40, f41, f42, f43]
      rintro e w2 ⟨rfl, hb2⟩
      exact ⟨_, rfl, hR.trans (hb2.mono hR.size), hb2, rfl⟩
    · exact ok_val' rfl rfl (want_none rfl b) (by simp [go_sem, o17, x0, x1]) hR hb0 rfl
    · exact ok_val' rfl rfl (want_none rfl b) (by simp [go_sem, o18, u0, u1]) hR hb0 rfl
    · exact ok_val' rfl rfl (want_none rfl b) (by simp [go_sem, o19, p0, p1]) hR hb0 rfl
    · exact ok_val' rfl rfl (want_none rfl b) (by simp [go_sem, o20]) hR hb0 rfl
    · have f45 : sl b 45 = .agg #[.int .i64 x, .int .i64 y] := hdep 5 _ _ rfl rfl (by kernel_rfl)
      have f46 : sl b 46 = .agg #[.int .i64 u, .int .i64 v] := hdep 6 _ _ rfl rfl (by kernel_rfl)
      have f47 : sl b 47 = .agg #[.int .i64 p, .int .i64 q] := hdep 7 _ _ rfl rfl (by kernel_rfl)
      have f48 : sl b 48 = .int .i64 k := hdep 8 _ _ rfl rfl (by kernel_rfl)
      refine ok_enter' rfl rfl (want_none rfl b) ?_ ((k1 w1 (hTW.later hR)).mono ?_)
      · simp [go_sem, f45, f46, f47, f48]
      rintro e w2 ⟨rfl, hb2⟩
      exact ⟨_, rfl, hR.trans (hb2.mono hR.size), hb2, rfl⟩
    · have f44 : sl b 44 = .int .i64 L := hdep 4 _ _ rfl rfl (by kernel_rfl)
      have f49 : sl b 49 = .int .i64 (200 - L) := hdep 9 _ _ rfl rfl (by kernel_rfl)
      exact ok_val' rfl rfl (want_none rfl b) (by simp [go_sem, f44, f49, g1]) hR hb0 rfl
    · have f50 : sl b 50 = .int .i64 200 := hdep 10 _ _ rfl rfl (by kernel_rfl)
      exact ok_val' rfl rfl (want_none rfl b) (by simp [go_sem, f50]) hR hb0 rfl
    · have f51 : sl b 51 = .bool true := hdep 11 _ _ rfl rfl (by kernel_rfl)
      exact ok_val' rfl rfl (want_none rfl b) (by simp [go_sem, f51]) hR hb0 rfl
    · have f52 : sl b 52 = .bool true := hdep 12 _ _ rfl rfl (by kernel_rfl)
      exact ok_val' rfl rfl (want 12 52 rfl rfl f52) (by simp [go_sem, o17, x0, x1]) hR hb0 rfl
    · have f52 : sl b 52 = .bool true := hdep 12 _ _ rfl rfl (by kernel_rfl)
      exact ok_val' rfl rfl (want 12 52 rfl rfl f52) (by simp [go_sem, o18, u0, u1]) hR hb0 rfl
    · have f52 : sl b 52 = .bool true := hdep 12 _ _ rfl rfl (by kernel_rfl)
      exact ok_val' rfl rfl (want 12 52 rfl rfl f52) (by simp [go_sem, o19, p0, p1]) hR hb0 rfl
    · have f52 : sl b 52 = .bool true := hdep 12 _ _ rfl rfl (by kernel_rfl)
      exact ok_val' rfl rfl (want 12 52 rfl rfl f52) (by simp [go_sem, o20]) hR hb0 rfl
    · have f53 : sl b 53 = .agg #[.int .i64 x, .int .i64 y] := hdep 13 _ _ rfl rfl (by kernel_rfl)
      have f54 : sl b 54 = .agg #[.int .i64 u, .int .i64 v] := hdep 14 _ _ rfl rfl (by kernel_rfl)
      have f55 : sl b 55 = .agg #[.int .i64 p, .int .i64 q] := hdep 15 _ _ rfl rfl (by kernel_rfl)
      have f56 : sl b 56 = .int .i64 k := hdep 16 _ _ rfl rfl (by kernel_rfl)
      have f52 : sl b 52 = .bool true := hdep 12 _ _ rfl rfl (by kernel_rfl)
      refine ok_enter' rfl rfl (want 12 52 rfl rfl f52) ?_ ((k2 w1 (hTW.later hR)).mono ?_)
      · simp [go_sem, f53, f54, f55, f56]
      rintro e w2 ⟨rfl, hb2⟩
      exact ⟨_, rfl, hR.trans (hb2.mono hR.size), hb2, rfl⟩
    · have f52 : sl b 52 = .bool true := hdep 12 _ _ rfl rfl (by kernel_rfl)
      exact ok_val' rfl rfl (want 12 52 rfl rfl f52) (by simp [go_sem, o20]) hR hb0 rfl
    · have f58 : sl b 58 = .int .i64 k := hdep 18 _ _ rfl rfl (by kernel_rfl)
      have f52 : sl b 52 = .bool true := hdep 12 _ _ rfl rfl (by kernel_rfl)
      exact ok_val' rfl rfl (want 12 52 rfl rfl f52) (by simp [go_sem, f58, g2]) hR hb0 rfl
    · have f57 : sl b 57 = .int .i64 (1000 - k) := hdep 17 _ _ rfl rfl (by kernel_rfl)
      have f59 : sl b 59 = .int .i64 (1000 - k) := hdep 19 _ _ rfl rfl (by kernel_rfl)
      have f52 : sl b 52 = .bool true := hdep 12 _ _ rfl rfl (by kernel_rfl)
      exact ok_val' rfl rfl (want 12 52 rfl rfl f52) (by simp [go_sem, f57, f59]) hR hb0 rfl
    · have f52 : sl b 52 = .bool true := hdep 12 _ _ rfl rfl (by kernel_rfl)
      have f60 : sl b 60 = .bool true := hdep 20 _ _ rfl rfl (by kernel_rfl)
      exact ok_val' rfl rfl (want_none rfl b) (by simp [go_sem, f52, f60]) hR hb0 rfl
    · have f61 : sl b 61 = .bool true := hdep 21 _ _ rfl rfl (by kernel_rfl)
      exact ok_val' rfl rfl (want_none rfl b) (by simp [go_sem, f61]) hR hb0 rfl
    · have f62 : sl b 62 = .bool true := hdep 22 _ _ rfl rfl (by kernel_rfl)
      exact ok_val' rfl rfl (want 22 62 rfl rfl f62) (by simp [go_sem, o21]) hR hb0 rfl
    · have f62 : sl b 62 = .bool true := hdep 22 _ _ rfl rfl (by kernel_rfl)
      exact ok_val' rfl rfl (want 22 62 rfl rfl f62) (by simp [go_sem, o17, x0, x1]) hR hb0 rfl
    · have f62 : sl b 62 = .bool true := hdep 22 _ _ rfl rfl (by kernel_rfl)
      exact ok_val' rfl rfl (want 22 62 rfl rfl f62) (by simp [go_sem, o18, u0, u1]) hR hb0 rfl
    · have f62 : sl b 62 = .bool true := hdep 22 _ _ rfl rfl (by kernel_rfl)
      exact ok_val' rfl rfl (want 22 62 rfl rfl f62) (by simp [go_sem, o19, p0, p1]) hR hb0 rfl
    · have f62 : sl b 62 = .bool true := hdep 22 _ _ rfl rfl (by kernel_rfl)
      exact ok_val' rfl rfl (want 22 62 rfl rfl f62) (by simp [go_sem, o20]) hR hb0 rfl
    · have f63 : sl b 63 = .int .i64 od := hdep 23 _ _ rfl rfl (by kernel_rfl)
      have f64 : sl b 64 = .agg #[.int .i64 x, .int .i64 y] := hdep 24 _ _ rfl rfl (by kernel_rfl)
      have f65 : sl b 65 = .agg #[.int .i64 u, .int .i64 v] := hdep 25 _ _ rfl rfl (by kernel_rfl)
      have f66 : sl b 66 = .agg #[.int .i64 p, .int .i64 q] := hdep 26 _ _ rfl rfl (by kernel_rfl)
      have f67 : sl b 67 = .int .i64 k := hdep 27 _ _ rfl rfl (by kernel_rfl)
      have f62 : sl b 62 = .bool true := hdep 22 _ _ rfl rfl (by kernel_rfl)
      refine ok_enter' rfl rfl (want 22 62 rfl rfl f62) ?_ ((k5 w1 (hTW.later hR)).mono ?_)
      · simp [go_sem, f63, f64, f65, f66, f67]
      rintro e w2 ⟨rfl, hb2⟩
      exact ⟨_, rfl, hR.trans (hb2.mono hR.size), hb2, rfl⟩
    · have f68 : sl b 68 = .int .i64 0 := hdep 28 _ _ rfl rfl (by kernel_rfl)
      have f62 : sl b 62 = .bool true := hdep 22 _ _ rfl rfl (by kernel_rfl)
      exact ok_val' rfl rfl (want 22 62 rfl rfl f62) (by simp [go_sem, f68]) hR hb0 rfl
    · have f62 : sl b 62 = .bool true := hdep 22 _ _ rfl rfl (by kernel_rfl)
      have f69 : sl b 69 = .bool true := hdep 29 _ _ rfl rfl (by kernel_rfl)
      exact ok_val' rfl rfl (want_none rfl b) (by simp [go_sem, f62, f69]) hR hb0 rfl
    · have f70 : sl b 70 = .bool true := hdep 30 _ _ rfl rfl (by kernel_rfl)
      exact ok_val' rfl rfl (want_none rfl b) (by simp [go_sem, f70]) hR hb0 rfl
    · have f71 : sl b 71 = .bool true := hdep 31 _ _ rfl rfl (by kernel_rfl)
      exact ok_val' rfl rfl (want 31 71 rfl rfl f71) (by simp [go_sem, o7]) hR hb0 rfl
    · have f72 : sl b 72 = .int .i64 mode := hdep 32 _ _ rfl rfl (by kernel_rfl)
      have f71 : sl b 71 = .bool true := hdep 31 _ _ rfl rfl (by kernel_rfl)
      refine ok_enter' rfl rfl (want 31 71 rfl rfl f71) ?_ ((kj w1).mono ?_)
      · simp [go_sem, f72]
      rintro e w2 ⟨rfl, rfl⟩
      exact ⟨_, rfl, hR, hb0, rfl⟩
    · have f73 : sl b 73 = .int .i64 j := hdep 33 _ _ rfl rfl (by kernel_rfl)
      have f71 : sl b 71 = .bool true := hdep 31 _ _ rfl rfl (by kernel_rfl)
      exact ok_val' rfl rfl (want 31 71 rfl rfl f71) (by simp [go_sem, f73, g3]) hR hb0 rfl
    · have f71 : sl b 71 = .bool true := hdep 31 _ _ rfl rfl (by kernel_rfl)
      exact ok_val' rfl rfl (want 31 71 rfl rfl f71) (by simp [go_sem, o17, x0, x1]) hR hb0 rfl
    · have f71 : sl b 71 = .bool true := hdep 31 _ _ rfl rfl (by kernel_rfl)
      exact ok_val' rfl rfl (want 31 71 rfl rfl f71) (by simp [go_sem, o18, u0, u1]) hR hb0 rfl
    · have f71 : sl b 71 = .bool true := hdep 31 _ _ rfl rfl (by kernel_rfl)
      exact ok_val' rfl rfl (want 31 71 rfl rfl f71) (by simp [go_sem, o19, p0, p1]) hR hb0 rfl
    · have f71 : sl b 71 = .bool true := hdep 31 _ _ rfl rfl (by kernel_rfl)
      exact ok_val' rfl rfl (want 31 71 rfl rfl f71) (by simp [go_sem, o20]) hR hb0 rfl
    · have f74 : sl b 74 = .int .i64 (-1 - j) := hdep 34 _ _ rfl rfl (by kernel_rfl)
      have f75 : sl b 75 = .agg #[.int .i64 x, .int .i64 y] := hdep 35 _ _ rfl rfl (by kernel_rfl)
      have f76 : sl b 76 = .agg #[.int .i64 u, .int .i64 v] := hdep 36 _ _ rfl rfl (by kernel_rfl)
      have f77 : sl b 77 = .agg #[.int .i64 p, .int .i64 q] := hdep 37 _ _ rfl rfl (by kernel_rfl)
      have f78 : sl b 78 = .int .i64 k := hdep 38 _ _ rfl rfl (by kernel_rfl)
      have f71 : sl b 71 = .bool true := hdep 31 _ _ rfl rfl (by kernel_rfl)
      refine ok_enter' rfl rfl (want 31 71 rfl rfl f71) ?_ ((k6 w1 (hTW.later hR)).mono ?_)
      · simp [go_sem, f74, f75, f76, f77, f78]
      rintro e w2 ⟨rfl, hb2⟩
      exact ⟨_, rfl, hR.trans (hb2.mono hR.size), hb2, rfl⟩
    · have f79 : sl b 79 = .int .i64 0 := hdep 39 _ _ rfl rfl (by kernel_rfl)
      have f71 : sl b 71 = .bool true := hdep 31 _ _ rfl rfl (by kernel_rfl)
      exact ok_val' rfl rfl (want 31 71 rfl rfl f71) (by simp [go_sem, f79]) hR hb0 rfl
    · have f71 : sl b 71 = .bool true := hdep 31 _ _ rfl rfl (by kernel_rfl)
      have f80 : sl b 80 = .bool true := hdep 40 _ _ rfl rfl (by kernel_rfl)
      exact ok_val' rfl rfl (want_none rfl b) (by simp [go_sem, f71, f80]) hR hb0 rfl
    · have f81 : sl b 81 = .bool true := hdep 41 _ _ rfl rfl (by kernel_rfl)
      exact ok_val' rfl rfl (want_none rfl b) (by simp [go_sem, f81]) hR hb0 rfl
    · cases ho
  case rest =>
    intro b w1 hR hsz hdf hold hF
    have f16 : sl b 16 = .bool true := hF 42 _ _ rfl rfl
    have hB : b = _ := act_list b (show b.tmps.size = 82 from hsz) hdf
    rw [hB]
    simp only [List.range, List.range.loop, List.map_cons, List.map_nil, f16]
    generalize sl b 0 = v0, sl b 1 = v1, sl b 2 = v2, sl b 3 = v3, sl b 4 = v4, sl b 5 = v5, sl b 6 = v6, sl b 7 = v7, sl b 8 = v8, sl b 9 = v9, sl b 10 = v10, sl b 11 = v11, sl b 12 = v12, sl b 13 = v13, sl b 14 = v14, sl b 15 = v15, sl b 17 = v17, sl b 18 = v18, sl b 19 = v19, sl b 20 = v20, sl b 21 = v21, sl b 22 = v22, sl b 23 = v23, sl b 24 = v24, sl b 25 = v25, sl b 26 = v26, sl b 27 = v27, sl b 28 = v28, sl b 29 = v29, sl b 30 = v30, sl b 31 = v31, sl b 32 = v32, sl b 33 = v33, sl b 34 = v34, sl b 35 = v35, sl b 36 = v36, sl b 37 = v37, sl b 38 = v38, sl b 39 = v39, sl b 40 = v40, sl b 41 = v41, sl b 42 = v42, sl b 43 = v43, sl b 44 = v44, sl b 45 = v45, sl b 46 = v46, sl b 47 = v47, sl b 48 = v48, sl b 49 = v49, sl b 50 = v50, sl b 51 = v51, sl b 52 = v52, sl b 53 = v53, sl b 54 = v54, sl b 55 = v55, sl b 56 = v56, sl b 57 = v57, sl b 58 = v58, sl b 59 = v59, sl b 60 = v60, sl b 61 = v61, sl b 62 = v62, sl b 63 = v63, sl b 64 = v64, sl b 65 = v65, sl b 66 = v66, sl b 67 = v67, sl b 68 = v68, sl b 69 = v69, sl b 70 = v70, sl b 71 = v71, sl b 72 = v72, sl b 73 = v73, sl b 74 = v74, sl b 75 = v75, sl b 76 = v76, sl b 77 = v77, sl b 78 = v78, sl b 79 = v79, sl b 80 = v80, sl b 81 = v81
    clear hB hold hsz hdf hF f16
    go_wp2
    go_ret
    exact ⟨rfl, fin hR hW⟩

end Go.Proofs.YtmkbllkfipcghaaDoor
