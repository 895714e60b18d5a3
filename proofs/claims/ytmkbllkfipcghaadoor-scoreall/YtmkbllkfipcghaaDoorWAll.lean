/- The walk of ScoreAll. -/
import Derived.Test.YtmkbllkfipcghaaDoorTH
import Derived.Test.YtmkbllkfipcghaaDoorKN
import Derived.Test.YtmkbllkfipcghaaDoorSO
namespace Go.Proofs.YtmkbllkfipcghaaDoor
open Go.RowKit

def allF (x y u v p q n L mode m4 z z4 : Int) : Nat → Value → World → Prop
  | 0, r, _ => r = .agg #[.int .i64 x, .int .i64 y]
  | 1, r, _ => r = .agg #[.int .i64 u, .int .i64 v]
  | 2, r, _ => r = .agg #[.int .i64 p, .int .i64 q]
  | 3, r, _ => r = .int .i64 L
  | 4, r, _ => r = .agg #[.int .i64 x, .int .i64 y]
  | 5, r, _ => r = .agg #[.int .i64 u, .int .i64 v]
  | 6, r, _ => r = .agg #[.int .i64 p, .int .i64 q]
  | 7, r, _ => r = .int .i64 L
  | 8, r, _ => r = .bool false
  | 9, r, _ => r = .bool false
  | 10, r, _ => r = .int .i64 mode
  | 11, r, _ => r = .agg #[.int .i64 x, .int .i64 y]
  | 12, r, _ => r = .agg #[.int .i64 u, .int .i64 v]
  | 13, r, _ => r = .agg #[.int .i64 p, .int .i64 q]
  | 14, r, _ => r = .int .i64 n
  | 15, r, _ => r = .int .i64 z
  | 16, r, _ => r = .int .i64 mode
  | 17, r, _ => r = .agg #[.int .i64 x, .int .i64 y]
  | 18, r, _ => r = .agg #[.int .i64 u, .int .i64 v]
  | 19, r, _ => r = .agg #[.int .i64 p, .int .i64 q]
  | 20, r, _ => r = .int .i64 n
  | 21, r, _ => r = .int .i64 z
  | 22, r, _ => r = .bool false
  | 23, r, _ => r = .bool false
  | 24, r, _ => r = .bool false
  | 25, r, _ => r = .int .i64 mode
  | 26, r, _ => r = .int .i64 m4
  | 27, r, _ => r = .agg #[.int .i64 x, .int .i64 y]
  | 28, r, _ => r = .agg #[.int .i64 u, .int .i64 v]
  | 29, r, _ => r = .agg #[.int .i64 p, .int .i64 q]
  | 30, r, _ => r = .int .i64 n
  | 31, r, _ => r = .int .i64 z4
  | 32, r, _ => r = .int .i64 mode
  | 33, r, _ => r = .int .i64 m4
  | 34, r, _ => r = .agg #[.int .i64 x, .int .i64 y]
  | 35, r, _ => r = .agg #[.int .i64 u, .int .i64 v]
  | 36, r, _ => r = .agg #[.int .i64 p, .int .i64 q]
  | 37, r, _ => r = .int .i64 n
  | 38, r, _ => r = .int .i64 z4
  | 39, r, _ => r = .bool false
  | 40, r, _ => r = .bool false
  | _, _, _ => True

set_option maxRecDepth 100000 in
set_option maxHeartbeats 4000000 in
theorem scoreAll_walk (a b c d e f mode pods : Int) (w : World) (hT : Tab w) :
    Calls Tryd.prog 3 #[.int .i64 a, .int .i64 b, .int .i64 c, .int .i64 d, .int .i64 e, .int .i64 f, .int .i64 mode, .int .i64 pods] w fun e w' => e = .returned (.bool true) ∧ Below w.heap.size w w' := by
  obtain ⟨n, hn⟩ : ∃ k, pods % 1001 = k := ⟨_, rfl⟩
  have kn := fun W => within6_any pods 1001 n (by decide) (by decide) hn W
  obtain ⟨m4, hm4⟩ : ∃ k, mode % 4 = k := ⟨_, rfl⟩
  have k4 := fun W => within6_any mode 4 m4 (by decide) (by decide) hm4 W
  have hn1 : 0 ≤ n ∧ n ≤ 1000 := by omega
  clear hn hm4
  go_enter Tryd.func3, Tryd.ntmps3
  go_wp2_with (first
    | (go_at_call 6; refine (known_any _).mono ?_; rintro e w1 ⟨rfl, hb1⟩))
  go_loopw [18] (fun i wr => ∃ k : Nat, k ≤ 4 ∧ i = .int .i64 k ∧ Box wr w1.heap.size #[.int .i64 12, .int .i64 1000, .int .i64 1099511627777, .int .i64 1] 3 ∧ Below w.heap.size w wr) (fun i _ => 4 - (intOf i).toNat)
  case atStart => exact ⟨0, by omega, rfl, Box.new _ _ _ rfl, up hb1 _⟩
  case round =>
  obtain ⟨k, hk, rfl, qS, hbr⟩ := hrel
  by_cases hlt : k < 4
  · obtain ⟨m, hcm, hm⟩ : ∃ m, wr.cell? ⟨w1.heap.size, k, none⟩ = some (.int .i64 m) ∧ 0 < m ∧ m ≤ 1099511627777 := by
      rcases (by omega : k = 0 ∨ k = 1 ∨ k = 2 ∨ k = 3) with rfl | rfl | rfl | rfl
      · exact ⟨_, qS.cell rfl, by decide, by decide⟩
      · exact ⟨_, qS.cell rfl, by decide, by decide⟩
      · exact ⟨_, qS.cell rfl, by decide, by decide⟩
      · exact ⟨_, qS.cell rfl, by decide, by decide⟩
    have hk4 : (k : Int) < 4 := by omega
    obtain ⟨x, hx⟩ : ∃ x, a % m = x := ⟨_, rfl⟩
    obtain ⟨y, hy⟩ : ∃ x, b % m = x := ⟨_, rfl⟩
    obtain ⟨u, hu⟩ : ∃ u, c % (x + 1) = u := ⟨_, rfl⟩
    obtain ⟨v, hv⟩ : ∃ v, d % (y + 1) = v := ⟨_, rfl⟩
    obtain ⟨p, hp⟩ : ∃ p, e % (x - u + 1) = p := ⟨_, rfl⟩
    obtain ⟨q, hq⟩ : ∃ q, f % (y - v + 1) = q := ⟨_, rfl⟩
    have k3 := fun W => three_any a b c d e f m x y u v p q hm.1 hm.2 hx hy hu hv hp hq W
    have x0 : 0 ≤ x := by rw [← hx]; exact Int.emod_nonneg _ (by omega)
    have x1 : x < m := by rw [← hx]; exact Int.emod_lt_of_pos _ (by omega)
    have y0 : 0 ≤ y := by rw [← hy]; exact Int.emod_nonneg _ (by omega)
    have y1 : y < m := by rw [← hy]; exact Int.emod_lt_of_pos _ (by omega)
    have u0 : 0 ≤ u := by rw [← hu]; exact Int.emod_nonneg _ (by omega)
    have u1 : u < x + 1 := by rw [← hu]; exact Int.emod_lt_of_pos _ (by omega)
    have v0 : 0 ≤ v := by rw [← hv]; exact Int.emod_nonneg _ (by omega)
    have v1 : v < y + 1 := by rw [← hv]; exact Int.emod_lt_of_pos _ (by omega)
    have p0 : 0 ≤ p := by rw [← hp]; exact Int.emod_nonneg _ (by omega)
    have p1 : p < x - u + 1 := by rw [← hp]; exact Int.emod_lt_of_pos _ (by omega)
    have q0 : 0 ≤ q := by rw [← hq]; exact Int.emod_nonneg _ (by omega)
    have q1 : q < y - v + 1 := by rw [← hq]; exact Int.emod_lt_of_pos _ (by omega)
    have hG : Good x y u v p q := by unfold Good; omega
    obtain ⟨L, hL⟩ : ∃ z, leftF x y u v p q = z := ⟨_, rfl⟩
    obtain ⟨z, hz⟩ : ∃ z, scoreV mode (leftF x y u v p q) n = z := ⟨_, rfl⟩
    obtain ⟨z4, hz4⟩ : ∃ z, scoreV m4 (leftF x y u v p q) n = z := ⟨_, rfl⟩
    have kL := fun W => left_any x y u v p q L hG hL W
    have kR := fun W => rLeft_any x y u v p q L hG hL W
    have kS := fun W hW => score_any mode x y u v p q n z hG hn1 hz W hW
    have kT := fun W => rScore_any mode x y u v p q n z hG hn1 hz W
    have kS4 := fun W hW => score_any m4 x y u v p q n z4 hG hn1 hz4 W hW
    have kT4 := fun W => rScore_any m4 x y u v p q n z4 hG hn1 hz4 W
    clear hx hy hu hv hp hq hL hG hz hz4 hm x0 x1 y0 y1 u0 u1 v0 v1 p0 p1 q0 q1
    go_upto_region 9 with (first
      | (go_at_call 7; refine (k3 _).mono ?_; rintro e wy ⟨rfl, hb2⟩
         have hW2 := fin hb2 hbr)
      | (go_at_call 8; refine (kn _).mono ?_; rintro e w9 ⟨rfl, rfl⟩))
    have qx : Box (((wy.alloc (V x y)).alloc (V u v)).alloc (V p q)) wy.heap.size #[.int .i64 x, .int .i64 y] 25 := ((Box.new wy _ _ rfl).up _).up _
    have qu : Box (((wy.alloc (V x y)).alloc (V u v)).alloc (V p q)) (wy.heap.size + 1) #[.int .i64 u, .int .i64 v] 25 := (Box.new _ _ _ (by simp)).up _
    have qp : Box (((wy.alloc (V x y)).alloc (V u v)).alloc (V p q)) (wy.heap.size + 1 + 1) #[.int .i64 p, .int .i64 q] 25 := Box.new _ _ _ (by simp)
    have qS := (((qS.later hb2).up (V x y)).up (V u v)).up (V p q)
    have hW := up (up (up hW2 (V x y)) (V u v)) (V p q)
    generalize ((wy.alloc (V x y)).alloc (V u v)).alloc (V p q) = W at *
    generalize wy.heap.size = A at *
    have hTW := hT.later hW
    clear hW2 hcm hb2 k3
    refine wp_region_rely (fun w1 => Below W.heap.size W w1) (fun w1 w2 => Below w1.heap.size w1 w2) (allF x y u v p q n L mode m4 z z4) (by kernel_rfl) (by kernel_rfl) (Below.refl _ _).drew ?keep ?step ?rest
    case keep =>
      intro i v w1 w2 hS hF
      unfold allF at *
      split at hF <;> try exact hF
    case step =>
      intro ii o d ho hd b w1 hR hold hdep
      have o6 : sl b 6 = .int .i64 mode := hold 6 (by kernel_rfl)
      have o19 : sl b 19 = .pointer (some ⟨A, 0, none⟩) := hold 19 (by kernel_rfl)
      have o20 : sl b 20 = .pointer (some ⟨A + 1, 0, none⟩) := hold 20 (by kernel_rfl)
      have o21 : sl b 21 = .pointer (some ⟨A + 1 + 1, 0, none⟩) := hold 21 (by kernel_rfl)
      have o22 : sl b 22 = .int .i64 n := hold 22 (by kernel_rfl)
      have hb0 := Below.refl w1.heap.size w1
      obtain ⟨x0, x1⟩ := (qx.later hR).cells2
      obtain ⟨u0, u1⟩ := (qu.later hR).cells2
      obtain ⟨p0, p1⟩ := (qp.later hR).cells2
      rcases ii with _ | _ | _ | _ | _ | _ | _ | _ | _ | _ | _ | _ | _ | _ | _ | _ | _ | _ | _ | _ | _ | _ | _ | _ | _ | _ | _ | _ | _ | _ | _ | _ | _ | _ | _ | _ | _ | _ | _ | _ | _ | ii
      all_goals try (cases ho; cases hd)
      · exact ok_val' rfl rfl (want_none rfl b) (by simp [go_sem, o19, x0, x1]) hR hb0 rfl
      · exact ok_val' rfl rfl (want_none rfl b) (by simp [go_sem, o20, u0, u1]) hR hb0 rfl
      · exact ok_val' rfl rfl (want_none rfl b) (by simp [go_sem, o21, p0, p1]) hR hb0 rfl
      · have f49 : sl b 49 = .agg #[.int .i64 x, .int .i64 y] := hdep 0 _ _ rfl rfl (by kernel_rfl)
        have f50 : sl b 50 = .agg #[.int .i64 u, .int .i64 v] := hdep 1 _ _ rfl rfl (by kernel_rfl)
        have f51 : sl b 51 = .agg #[.int .i64 p, .int .i64 q] := hdep 2 _ _ rfl rfl (by kernel_rfl)
        refine ok_enter' rfl rfl (want_none rfl b) ?_ ((kL w1).mono ?_)
        · simp [go_sem, f49, f50, f51]
        rintro e w2 ⟨rfl, hb2⟩
        exact ⟨_, rfl, hR.trans (hb2.mono hR.size), hb2, rfl⟩
      · exact ok_val' rfl rfl (want_none rfl b) (by simp [go_sem, o19, x0, x1]) hR hb0 rfl
      · exact ok_val' rfl rfl (want_none rfl b) (by simp [go_sem, o20, u0, u1]) hR hb0 rfl
      · exact ok_val' rfl rfl (want_none rfl b) (by simp [go_sem, o21, p0, p1]) hR hb0 rfl
      · have f53 : sl b 53 = .agg #[.int .i64 x, .int .i64 y] := hdep 4 _ _ rfl rfl (by kernel_rfl)
        have f54 : sl b 54 = .agg #[.int .i64 u, .int .i64 v] := hdep 5 _ _ rfl rfl (by kernel_rfl)
        have f55 : sl b 55 = .agg #[.int .i64 p, .int .i64 q] := hdep 6 _ _ rfl rfl (by kernel_rfl)
        refine ok_enter' rfl rfl (want_none rfl b) ?_ ((kR w1).mono ?_)
        · simp [go_sem, f53, f54, f55]
        rintro e w2 ⟨rfl, hb2⟩
        exact ⟨_, rfl, hR.trans (hb2.mono hR.size), hb2, rfl⟩
      · have f52 : sl b 52 = .int .i64 L := hdep 3 _ _ rfl rfl (by kernel_rfl)
        have f56 : sl b 56 = .int .i64 L := hdep 7 _ _ rfl rfl (by kernel_rfl)
        exact ok_val' rfl rfl (want_none rfl b) (by simp [go_sem, f52, f56]) hR hb0 rfl
      · have f57 : sl b 57 = .bool false := hdep 8 _ _ rfl rfl (by kernel_rfl)
        exact ok_val' rfl rfl (want_none rfl b) (by simp [go_sem, f57]) hR hb0 rfl
      · have f58 : sl b 58 = .bool false := hdep 9 _ _ rfl rfl (by kernel_rfl)
        exact ok_val' rfl rfl (want 9 58 rfl rfl f58) (by simp [go_sem, o6]) hR hb0 rfl
      · have f58 : sl b 58 = .bool false := hdep 9 _ _ rfl rfl (by kernel_rfl)
        exact ok_val' rfl rfl (want 9 58 rfl rfl f58) (by simp [go_sem, o19, x0, x1]) hR hb0 rfl
      · have f58 : sl b 58 = .bool false := hdep 9 _ _ rfl rfl (by kernel_rfl)
        exact ok_val' rfl rfl (want 9 58 rfl rfl f58) (by simp [go_sem, o20, u0, u1]) hR hb0 rfl
      · have f58 : sl b 58 = .bool false := hdep 9 _ _ rfl rfl (by kernel_rfl)
        exact ok_val' rfl rfl (want 9 58 rfl rfl f58) (by simp [go_sem, o21, p0, p1]) hR hb0 rfl
      · have f58 : sl b 58 = .bool false := hdep 9 _ _ rfl rfl (by kernel_rfl)
        exact ok_val' rfl rfl (want 9 58 rfl rfl f58) (by simp [go_sem, o22]) hR hb0 rfl
      · have f59 : sl b 59 = .int .i64 mode := hdep 10 _ _ rfl rfl (by kernel_rfl)
        have f60 : sl b 60 = .agg #[.int .i64 x, .int .i64 y] := hdep 11 _ _ rfl rfl (by kernel_rfl)
        have f61 : sl b 61 = .agg #[.int .i64 u, .int .i64 v] := hdep 12 _ _ rfl rfl (by kernel_rfl)
        have f62 : sl b 62 = .agg #[.int .i64 p, .int .i64 q] := hdep 13 _ _ rfl rfl (by kernel_rfl)
        have f63 : sl b 63 = .int .i64 n := hdep 14 _ _ rfl rfl (by kernel_rfl)
        have f58 : sl b 58 = .bool false := hdep 9 _ _ rfl rfl (by kernel_rfl)
        refine ok_enter' rfl rfl (want 9 58 rfl rfl f58) ?_ ((kS w1 (hTW.later hR)).mono ?_)
        · simp [go_sem, f59, f60, f61, f62, f63]
        rintro e w2 ⟨rfl, hb2⟩
        exact ⟨_, rfl, hR.trans (hb2.mono hR.size), hb2, rfl⟩
      · have f58 : sl b 58 = .bool false := hdep 9 _ _ rfl rfl (by kernel_rfl)
        exact ok_val' rfl rfl (want 9 58 rfl rfl f58) (by simp [go_sem, o6]) hR hb0 rfl
      · have f58 : sl b 58 = .bool false := hdep 9 _ _ rfl rfl (by kernel_rfl)
        exact ok_val' rfl rfl (want 9 58 rfl rfl f58) (by simp [go_sem, o19, x0, x1]) hR hb0 rfl
      · have f58 : sl b 58 = .bool false := hdep 9 _ _ rfl rfl (by kernel_rfl)
        exact ok_val' rfl rfl (want 9 58 rfl rfl f58) (by simp [go_sem, o20, u0, u1]) hR hb0 rfl
      · have f58 : sl b 58 = .bool false := hdep 9 _ _ rfl rfl (by kernel_rfl)
        exact ok_val' rfl rfl (want 9 58 rfl rfl f58) (by simp [go_sem, o21, p0, p1]) hR hb0 rfl
      · have f58 : sl b 58 = .bool false := hdep 9 _ _ rfl rfl (by kernel_rfl)
        exact ok_val' rfl rfl (want 9 58 rfl rfl f58) (by simp [go_sem, o22]) hR hb0 rfl
      · have f65 : sl b 65 = .int .i64 mode := hdep 16 _ _ rfl rfl (by kernel_rfl)
        have f66 : sl b 66 = .agg #[.int .i64 x, .int .i64 y] := hdep 17 _ _ rfl rfl (by kernel_rfl)
        have f67 : sl b 67 = .agg #[.int .i64 u, .int .i64 v] := hdep 18 _ _ rfl rfl (by kernel_rfl)
        have f68 : sl b 68 = .agg #[.int .i64 p, .int .i64 q] := hdep 19 _ _ rfl rfl (by kernel_rfl)
        have f69 : sl b 69 = .int .i64 n := hdep 20 _ _ rfl rfl (by kernel_rfl)
        have f58 : sl b 58 = .bool false := hdep 9 _ _ rfl rfl (by kernel_rfl)
        refine ok_enter' rfl rfl (want 9 58 rfl rfl f58) ?_ ((kT w1).mono ?_)
        · simp [go_sem, f65, f66, f67, f68, f69]
        rintro e w2 ⟨rfl, hb2⟩
        exact ⟨_, rfl, hR.trans (hb2.mono hR.size), hb2, rfl⟩
      · have f64 : sl b 64 = .int .i64 z := hdep 15 _ _ rfl rfl (by kernel_rfl)
        have f70 : sl b 70 = .int .i64 z := hdep 21 _ _ rfl rfl (by kernel_rfl)
        have f58 : sl b 58 = .bool false := hdep 9 _ _ rfl rfl (by kernel_rfl)
        exact ok_val' rfl rfl (want 9 58 rfl rfl f58) (by simp [go_sem, f64, f70]) hR hb0 rfl
      · have f58 : sl b 58 = .bool false := hdep 9 _ _ rfl rfl (by kernel_rfl)
        have f71 : sl b 71 = .bool false := hdep 22 _ _ rfl rfl (by kernel_rfl)
        exact ok_val' rfl rfl (want_none rfl b) (by simp [go_sem, f58, f71]) hR hb0 rfl
      · have f72 : sl b 72 = .bool false := hdep 23 _ _ rfl rfl (by kernel_rfl)
        exact ok_val' rfl rfl (want_none rfl b) (by simp [go_sem, f72]) hR hb0 rfl
      · have f73 : sl b 73 = .bool false := hdep 24 _ _ rfl rfl (by kernel_rfl)
        exact ok_val' rfl rfl (want 24 73 rfl rfl f73) (by simp [go_sem, o6]) hR hb0 rfl
      · have f74 : sl b 74 = .int .i64 mode := hdep 25 _ _ rfl rfl (by kernel_rfl)
        have f73 : sl b 73 = .bool false := hdep 24 _ _ rfl rfl (by kernel_rfl)
        refine ok_enter' rfl rfl (want 24 73 rfl rfl f73) ?_ ((k4 w1).mono ?_)
        · simp [go_sem, f74]
        rintro e w2 ⟨rfl, rfl⟩
        exact ⟨_, rfl, hR, hb0, rfl⟩
      · have f73 : sl b 73 = .bool false := hdep 24 _ _ rfl rfl (by kernel_rfl)
        exact ok_val' rfl rfl (want 24 73 rfl rfl f73) (by simp [go_sem, o19, x0, x1]) hR hb0 rfl
      · have f73 : sl b 73 = .bool false := hdep 24 _ _ rfl rfl (by kernel_rfl)
        exact ok_val' rfl rfl (want 24 73 rfl rfl f73) (by simp [go_sem, o20, u0, u1]) hR hb0 rfl
      · have f73 : sl b 73 = .bool false := hdep 24 _ _ rfl rfl (by kernel_rfl)
        exact ok_val' rfl rfl (want 24 73 rfl rfl f73) (by simp [go_sem, o21, p0, p1]) hR hb0 rfl
      · have f73 : sl b 73 = .bool false := hdep 24 _ _ rfl rfl (by kernel_rfl)
        exact ok_val' rfl rfl (want 24 73 rfl rfl f73) (by simp [go_sem, o22]) hR hb0 rfl
      · have f75 : sl b 75 = .int .i64 m4 := hdep 26 _ _ rfl rfl (by kernel_rfl)
        have f76 : sl b 76 = .agg #[.int .i64 x, .int .i64 y] := hdep 27 _ _ rfl rfl (by kernel_rfl)
        have f77 : sl b 77 = .agg #[.int .i64 u, .int .i64 v] := hdep 28 _ _ rfl rfl (by kernel_rfl)
        have f78 : sl b 78 = .agg #[.int .i64 p, .int .i64 q] := hdep 29 _ _ rfl rfl (by kernel_rfl)
        have f79 : sl b 79 = .int .i64 n := hdep 30 _ _ rfl rfl (by kernel_rfl)
        have f73 : sl b 73 = .bool false := hdep 24 _ _ rfl rfl (by kernel_rfl)
        refine ok_enter' rfl rfl (want 24 73 rfl rfl f73) ?_ ((kS4 w1 (hTW.later hR)).mono ?_)
        · simp [go_sem, f75, f76, f77, f78, f79]
        rintro e w2 ⟨rfl, hb2⟩
        exact ⟨_, rfl, hR.trans (hb2.mono hR.size), hb2, rfl⟩
      · have f73 : sl b 73 = .bool false := hdep 24 _ _ rfl rfl (by kernel_rfl)
        exact ok_val' rfl rfl (want 24 73 rfl rfl f73) (by simp [go_sem, o6]) hR hb0 rfl
      · have f81 : sl b 81 = .int .i64 mode := hdep 32 _ _ rfl rfl (by kernel_rfl)
        have f73 : sl b 73 = .bool false := hdep 24 _ _ rfl rfl (by kernel_rfl)
        refine ok_enter' rfl rfl (want 24 73 rfl rfl f73) ?_ ((k4 w1).mono ?_)
        · simp [go_sem, f81]
        rintro e w2 ⟨rfl, rfl⟩
        exact ⟨_, rfl, hR, hb0, rfl⟩
      · have f73 : sl b 73 = .bool false := hdep 24 _ _ rfl rfl (by kernel_rfl)
        exact ok_val' rfl rfl (want 24 73 rfl rfl f73) (by simp [go_sem, o19, x0, x1]) hR hb0 rfl
      · have f73 : sl b 73 = .bool false := hdep 24 _ _ rfl rfl (by kernel_rfl)
        exact ok_val' rfl rfl (want 24 73 rfl rfl f73) (by simp [go_sem, o20, u0, u1]) hR hb0 rfl
      · have f73 : sl b 73 = .bool false := hdep 24 _ _ rfl rfl (by kernel_rfl)
        exact ok_val' rfl rfl (want 24 73 rfl rfl f73) (by simp [go_sem, o21, p0, p1]) hR hb0 rfl
      · have f73 : sl b 73 = .bool false := hdep 24 _ _ rfl rfl (by kernel_rfl)
        exact ok_val' rfl rfl (want 24 73 rfl rfl f73) (by simp [go_sem, o22]) hR hb0 rfl
      · have f82 : sl b 82 = .int .i64 m4 := hdep 33 _ _ rfl rfl (by kernel_rfl)
        have f83 : sl b 83 = .agg #[.int .i64 x, .int .i64 y] := hdep 34 _ _ rfl rfl (by kernel_rfl)
        have f84 : sl b 84 = .agg #[.int .i64 u, .int .i64 v] := hdep 35 _ _ rfl rfl (by kernel_rfl)
        have f85 : sl b 85 = .agg #[.int .i64 p, .int .i64 q] := hdep 36 _ _ rfl rfl (by kernel_rfl)
        have f86 : sl b 86 = .int .i64 n := hdep 37 _ _ rfl rfl (by kernel_rfl)
        have f73 : sl b 73 = .bool false := hdep 24 _ _ rfl rfl (by kernel_rfl)
        refine ok_enter' rfl rfl (want 24 73 rfl rfl f73) ?_ ((kT4 w1).mono ?_)
        · simp [go_sem, f82, f83, f84, f85, f86]
        rintro e w2 ⟨rfl, hb2⟩
        exact ⟨_, rfl, hR.trans (hb2.mono hR.size), hb2, rfl⟩
      · have f80 : sl b 80 = .int .i64 z4 := hdep 31 _ _ rfl rfl (by kernel_rfl)
        have f87 : sl b 87 = .int .i64 z4 := hdep 38 _ _ rfl rfl (by kernel_rfl)
        have f73 : sl b 73 = .bool false := hdep 24 _ _ rfl rfl (by kernel_rfl)
        exact ok_val' rfl rfl (want 24 73 rfl rfl f73) (by simp [go_sem, f80, f87]) hR hb0 rfl
      · have f73 : sl b 73 = .bool false := hdep 24 _ _ rfl rfl (by kernel_rfl)
        have f88 : sl b 88 = .bool false := hdep 39 _ _ rfl rfl (by kernel_rfl)
        exact ok_val' rfl rfl (want_none rfl b) (by simp [go_sem, f73, f88]) hR hb0 rfl
      · cases ho
    case rest =>
      intro b w1 hR hsz hdf hold hF
      have f89 : sl b 89 = .bool false := hF 40 _ _ rfl rfl
      have f0 := hold 0 (by kernel_rfl)
      have f1 := hold 1 (by kernel_rfl)
      have f2 := hold 2 (by kernel_rfl)
      have f3 := hold 3 (by kernel_rfl)
      have f4 := hold 4 (by kernel_rfl)
      have f5 := hold 5 (by kernel_rfl)
      have f6 := hold 6 (by kernel_rfl)
      have f7 := hold 7 (by kernel_rfl)
      have f8 := hold 8 (by kernel_rfl)
      have f9 := hold 9 (by kernel_rfl)
      have f10 := hold 10 (by kernel_rfl)
      have f11 := hold 11 (by kernel_rfl)
      have f12 := hold 12 (by kernel_rfl)
      have f13 := hold 13 (by kernel_rfl)
      have f14 := hold 14 (by kernel_rfl)
      have f15 := hold 15 (by kernel_rfl)
      have f16 := hold 16 (by kernel_rfl)
      have f17 := hold 17 (by kernel_rfl)
      have f18 := hold 18 (by kernel_rfl)
      have f19 := hold 19 (by kernel_rfl)
      have f20 := hold 20 (by kernel_rfl)
      have f21 := hold 21 (by kernel_rfl)
      have f22 := hold 22 (by kernel_rfl)
      have f23 := hold 23 (by kernel_rfl)
      have f24 := hold 24 (by kernel_rfl)
      have f25 := hold 25 (by kernel_rfl)
      have f26 := hold 26 (by kernel_rfl)
      have f27 := hold 27 (by kernel_rfl)
      have f28 := hold 28 (by kernel_rfl)
      have f29 := hold 29 (by kernel_rfl)
      have f30 := hold 30 (by kernel_rfl)
      have f31 := hold 31 (by kernel_rfl)
      have f32 := hold 32 (by kernel_rfl)
      have f33 := hold 33 (by kernel_rfl)
      have f34 := hold 34 (by kernel_rfl)
      have f35 := hold 35 (by kernel_rfl)
      have f36 := hold 36 (by kernel_rfl)
      have f37 := hold 37 (by kernel_rfl)
      have f38 := hold 38 (by kernel_rfl)
      have f39 := hold 39 (by kernel_rfl)
      have f40 := hold 40 (by kernel_rfl)
      have f41 := hold 41 (by kernel_rfl)
      have f42 := hold 42 (by kernel_rfl)
      have f43 := hold 43 (by kernel_rfl)
      have f44 := hold 44 (by kernel_rfl)
      have f45 := hold 45 (by kernel_rfl)
      have f46 := hold 46 (by kernel_rfl)
      have f47 := hold 47 (by kernel_rfl)
      have f48 := hold 48 (by kernel_rfl)
      have hB : b = _ := act_list b (show b.tmps.size = 90 from hsz) hdf
      rw [hB]
      simp only [List.range, List.range.loop, List.map_cons, List.map_nil, f0, f1, f2, f3, f4, f5, f6, f7, f8, f9, f10, f11, f12, f13, f14, f15, f16, f17, f18, f19, f20, f21, f22, f23, f24, f25, f26, f27, f28, f29, f30, f31, f32, f33, f34, f35, f36, f37, f38, f39, f40, f41, f42, f43, f44, f45, f46, f47, f48, f89]
      generalize sl b 49 = v49, sl b 50 = v50, sl b 51 = v51, sl b 52 = v52, sl b 53 = v53, sl b 54 = v54, sl b 55 = v55, sl b 56 = v56, sl b 57 = v57, sl b 58 = v58, sl b 59 = v59, sl b 60 = v60, sl b 61 = v61, sl b 62 = v62, sl b 63 = v63, sl b 64 = v64, sl b 65 = v65, sl b 66 = v66, sl b 67 = v67, sl b 68 = v68, sl b 69 = v69, sl b 70 = v70, sl b 71 = v71, sl b 72 = v72, sl b 73 = v73, sl b 74 = v74, sl b 75 = v75, sl b 76 = v76, sl b 77 = v77, sl b 78 = v78, sl b 79 = v79, sl b 80 = v80, sl b 81 = v81, sl b 82 = v82, sl b 83 = v83, sl b 84 = v84, sl b 85 = v85, sl b 86 = v86, sl b 87 = v87, sl b 88 = v88
      simp only [sl, List.getElem?_toArray, List.getElem?_cons_succ, List.getElem?_cons_zero, Option.getD_some]
      clear hB hold hsz hdf hF f0 f1 f2 f3 f4 f5 f6 f7 f8 f9 f10 f11 f12 f13 f14 f15 f16 f17 f18 f19 f20 f21 f22 f23 f24 f25 f26 f27 f28 f29 f30 f31 f32 f33 f34 f35 f36 f37 f38 f39 f40 f41 f42 f43 f44 f45 f46 f47 f48 f89
      go_wp2
      go_roundw
      case rel => exact ⟨k + 1, by omega, by go_num, qS.later hR, fin hR hW⟩
      case measure => simp [intOf]; omega
  · have e1 : k = 4 := by omega
    subst e1
    go_wp2
    go_ret
    exact ⟨rfl, hbr⟩

end Go.Proofs.YtmkbllkfipcghaaDoor
