/- The walk of ScoreKnown. -/
import Derived.Test.YtmkbllkfipcghaaDoorKN
import Derived.Test.YtmkbllkfipcghaaDoorSO
namespace Go.Proofs.YtmkbllkfipcghaaDoor
open Go.RowKit

theorem strs_box {w : World} {B : Nat} {t : TypeId} {ss : List ByteArray} (h : Box w B (ss.map Value.string).toArray t) (hl : ss.length ≤ 1000) : Strs w (some ⟨B, 0, none⟩) ss :=
  ⟨hl, fun i hi => ⟨_, rfl, by
    have := h.cell (i := i) (v := .string (ss.getD i ByteArray.empty)) (by simp [hi])
    rcases Nat.eq_zero_or_pos i with rfl | h0
    · simpa [Addr.add] using this
    · simpa [Addr.add, show i ≠ 0 by omega] using this⟩⟩
theorem row_box {w : World} {B n : Nat} {t : TypeId} {zs : List Int} (h : Box w B (zs.map (Value.int .i64)).toArray t) (hl : zs.length = n ∧ n ≤ maxLen) : HasRow w (some ⟨B, 0, none⟩) n zs :=
  ⟨hl.2, fun i hi => ⟨_, rfl, by
    have hi' : i < zs.length := by omega
    have := h.cell (i := i) (v := .int .i64 (zs.getD i 0)) (by simp [hi'])
    rcases Nat.eq_zero_or_pos i with rfl | h0
    · simpa [Addr.add] using this
    · simpa [Addr.add, show i ≠ 0 by omega] using this⟩⟩
theorem below_drewN {B : Nat} {w W : World} (h : Below B w W) (n : Nat) : Below B w (W.drewN n) := by
  induction n with
  | zero => exact h
  | succ n ih => exact ih.drew

def knownF  : Nat → Value → World → Prop
  | 0, r, _ => r = .agg #[.int .i64 3, .int .i64 7]
  | 1, r, _ => r = .agg #[.int .i64 1, .int .i64 2]
  | 2, r, _ => r = .agg #[.int .i64 1, .int .i64 2]
  | 3, r, _ => r = .int .i64 75
  | 4, r, _ => r = .agg #[.int .i64 3, .int .i64 7]
  | 5, r, _ => r = .agg #[.int .i64 1, .int .i64 2]
  | 6, r, _ => r = .agg #[.int .i64 1, .int .i64 2]
  | 7, r, _ => r = .int .i64 75
  | 8, r, _ => r = .agg #[.int .i64 3, .int .i64 7]
  | 9, r, _ => r = .agg #[.int .i64 1, .int .i64 2]
  | 10, r, _ => r = .agg #[.int .i64 1, .int .i64 2]
  | 11, r, _ => r = .int .i64 125
  | 12, r, _ => r = .agg #[.int .i64 3, .int .i64 7]
  | 13, r, _ => r = .agg #[.int .i64 1, .int .i64 2]
  | 14, r, _ => r = .agg #[.int .i64 1, .int .i64 2]
  | 15, r, _ => r = .int .i64 996
  | 16, r, _ => r = .agg #[.int .i64 3, .int .i64 7]
  | 17, r, _ => r = .agg #[.int .i64 1, .int .i64 2]
  | 18, r, _ => r = .agg #[.int .i64 1, .int .i64 2]
  | 19, r, _ => r = .int .i64 0
  | 20, r, _ => r = .agg #[.int .i64 0, .int .i64 10]
  | 21, r, _ => r = .agg #[.int .i64 0, .int .i64 0]
  | 22, r, _ => r = .agg #[.int .i64 0, .int .i64 10]
  | 23, r, _ => r = .int .i64 100
  | 24, r, w => ∃ B, r = .slice (some ⟨B, 0, none⟩) 3 3 ∧ Box w B #[.string ⟨#[98]⟩, .string ⟨#[97]⟩, .string ⟨#[99]⟩] 9
  | 25, r, w => ∃ B, r = .slice (some ⟨B, 0, none⟩) 3 3 ∧ Box w B #[.int .i64 5, .int .i64 5, .int .i64 4] 3
  | 26, r, _ => r = .int .i64 1
  | 27, r, w => ∃ B, r = .slice (some ⟨B, 0, none⟩) 3 3 ∧ Box w B #[.string ⟨#[98]⟩, .string ⟨#[97]⟩, .string ⟨#[97]⟩] 9
  | 28, r, w => ∃ B, r = .slice (some ⟨B, 0, none⟩) 3 3 ∧ Box w B #[.int .i64 (-3), .int .i64 (-3), .int .i64 (-3)] 3
  | 29, r, _ => r = .int .i64 1
  | 30, r, w => ∃ B, r = .slice (some ⟨B, 0, none⟩) 2 2 ∧ Box w B #[.string ⟨#[206, 178]⟩, .string ⟨#[122]⟩] 9
  | 31, r, w => ∃ B, r = .slice (some ⟨B, 0, none⟩) 2 2 ∧ Box w B #[.int .i64 1, .int .i64 1] 3
  | 32, r, _ => r = .int .i64 1
  | 33, r, _ => r = .agg #[.int .i64 1099511627776, .int .i64 1]
  | 34, r, _ => r = .agg #[.int .i64 1099511627775, .int .i64 0]
  | 35, r, _ => r = .agg #[.int .i64 1, .int .i64 0]
  | 36, r, _ => r = .int .i64 100
  | 37, r, w => ∃ B, r = .slice (some ⟨B, 0, none⟩) 10 10 ∧ Box w B #[.int .i64 75, .int .i64 75, .int .i64 125, .int .i64 996, .int .i64 0, .int .i64 100, .int .i64 1, .int .i64 1, .int .i64 1, .int .i64 100] 3
  | 38, r, w => ∃ B, r = .slice (some ⟨B, 0, none⟩) 10 10 ∧ Box w B #[.int .i64 75, .int .i64 75, .int .i64 125, .int .i64 996, .int .i64 0, .int .i64 100, .int .i64 1, .int .i64 1, .int .i64 1, .int .i64 100] 3
  | _, _, _ => True

set_option maxRecDepth 100000 in
set_option maxHeartbeats 4000000 in
theorem scoreKnown_walk (which : Int) (w : World) (hT : Tab w) :
    Calls Tryd.prog 5 #[.int .i64 which] w fun e w' => e = .returned (.bool true) ∧ Below w.heap.size w w' := by
  obtain ⟨kn, hkn⟩ : ∃ k : Nat, which % 10 = k := ⟨(which % 10).toNat, by omega⟩
  have hk9 : kn < 10 := by omega
  have kw := fun W => within6_any which 10 kn (by decide) (by decide) hkn W
  clear hkn
  go_enter Tryd.func5, Tryd.ntmps5
  go_upto_region 4 with (first
    | (go_at_call 6; refine (known_any _).mono ?_; rintro e w2 ⟨rfl, hW2⟩))
  have qx : Box (((w2.alloc (V 3 7)).alloc (V 1 2)).alloc (V 1 2)) w2.heap.size #[.int .i64 3, .int .i64 7] 25 := ((Box.new w2 _ _ rfl).up _).up _
  have qu : Box (((w2.alloc (V 3 7)).alloc (V 1 2)).alloc (V 1 2)) (w2.heap.size + 1) #[.int .i64 1, .int .i64 2] 25 := (Box.new _ _ _ (by simp)).up _
  have qp : Box (((w2.alloc (V 3 7)).alloc (V 1 2)).alloc (V 1 2)) (w2.heap.size + 1 + 1) #[.int .i64 1, .int .i64 2] 25 := Box.new _ _ _ (by simp)
  have hW := up (up (up hW2 (V 3 7)) (V 1 2)) (V 1 2)
  generalize ((w2.alloc (V 3 7)).alloc (V 1 2)).alloc (V 1 2) = W at *
  generalize w2.heap.size = A at *
  have hTW := hT.later hW
  clear hW2 hT
  refine wp_region_rely (fun w1 => Below W.heap.size W w1) (fun w1 w2 => Below w1.heap.size w1 w2) (knownF ) (by kernel_rfl) (by kernel_rfl) (Below.refl _ _).drew ?keep ?step ?rest
  case keep =>
    intro i v w1 w2 hS hF
    unfold knownF at *
    split at hF <;> try exact hF
    all_goals
      obtain ⟨B, hv, hp⟩ := hF
      exact ⟨B, hv, hp.later hS⟩
  case step =>
    intro i o d ho hd b w1 hR hold hdep
    have o3 : sl b 3 = .pointer (some ⟨A, 0, none⟩) := hold 3 (by kernel_rfl)
    have o4 : sl b 4 = .pointer (some ⟨A + 1, 0, none⟩) := hold 4 (by kernel_rfl)
    have o5 : sl b 5 = .pointer (some ⟨A + 1 + 1, 0, none⟩) := hold 5 (by kernel_rfl)
    have hb0 := Below.refl w1.heap.size w1
    obtain ⟨x0, x1⟩ := (qx.later hR).cells2
    obtain ⟨u0, u1⟩ := (qu.later hR).cells2
    obtain ⟨p0, p1⟩ := (qp.later hR).cells2
    rcases i with _ | _ | _ | _ | _ | _ | _ | _ | _ | _ | _ | _ | _ | _ | _ | _ | _ | _ | _ | _ | _ | _ | _ | _ | _ | _ | _ | _ | _ | _ | _ | _ | _ | _ | _ | _ | _ | _ | _ | i
    all_goals try (cases ho; cases hd)
    · exact ok_val' rfl rfl (want_none rfl b) (by simp [go_sem, o3, x0, x1]) hR hb0 rfl
    · exact ok_val' rfl rfl (want_none rfl b) (by simp [go_sem, o4, u0, u1]) hR hb0 rfl
    · exact ok_val' rfl rfl (want_none rfl b) (by simp [go_sem, o5, p0, p1]) hR hb0 rfl
    · have f14 : sl b 14 = .agg #[.int .i64 3, .int .i64 7] := hdep 0 _ _ rfl rfl (by kernel_rfl)
      have f15 : sl b 15 = .agg #[.int .i64 1, .int .i64 2] := hdep 1 _ _ rfl rfl (by kernel_rfl)
      have f16 : sl b 16 = .agg #[.int .i64 1, .int .i64 2] := hdep 2 _ _ rfl rfl (by kernel_rfl)
      refine ok_enter' rfl rfl (want_none rfl b) ?_ ((left_any 3 7 1 2 1 2 75 (by unfold Good; omega) (by decide) w1).mono ?_)
      · simp [go_sem, f14, f15, f16]
      rintro e w2 ⟨rfl, hb2⟩
      exact ⟨_, rfl, hR.trans (hb2.mono hR.size), hb2, rfl⟩
    · exact ok_val' rfl rfl (want_none rfl b) (by simp [go_sem, o3, x0, x1]) hR hb0 rfl
    · exact ok_val' rfl rfl (want_none rfl b) (by simp [go_sem, o4, u0, u1]) hR hb0 rfl
    · exact ok_val' rfl rfl (want_none rfl b) (by simp [go_sem, o5, p0, p1]) hR hb0 rfl
    · have f18 : sl b 18 = .agg #[.int .i64 3, .int .i64 7] := hdep 4 _ _ rfl rfl (by kernel_rfl)
      have f19 : sl b 19 = .agg #[.int .i64 1, .int .i64 2] := hdep 5 _ _ rfl rfl (by kernel_rfl)
      have f20 : sl b 20 = .agg #[.int .i64 1, .int .i64 2] := hdep 6 _ _ rfl rfl (by kernel_rfl)
      refine ok_enter' rfl rfl (want_none rfl b) ?_ ((score_any 0 3 7 1 2 1 2 4 75 (by unfold Good; omega) (by decide) (by decide) w1 (hTW.later hR)).mono ?_)
      · simp [go_sem, f18, f19, f20]
      rintro e w2 ⟨rfl, hb2⟩
      exact ⟨_, rfl, hR.trans (hb2.mono hR.size), hb2, rfl⟩
    · exact ok_val' rfl rfl (want_none rfl b) (by simp [go_sem, o3, x0, x1]) hR hb0 rfl
    · exact ok_val' rfl rfl (want_none rfl b) (by simp [go_sem, o4, u0, u1]) hR hb0 rfl
    · exact ok_val' rfl rfl (want_none rfl b) (by simp [go_sem, o5, p0, p1]) hR hb0 rfl
    · have f22 : sl b 22 = .agg #[.int .i64 3, .int .i64 7] := hdep 8 _ _ rfl rfl (by kernel_rfl)
      have f23 : sl b 23 = .agg #[.int .i64 1, .int .i64 2] := hdep 9 _ _ rfl rfl (by kernel_rfl)
      have f24 : sl b 24 = .agg #[.int .i64 1, .int .i64 2] := hdep 10 _ _ rfl rfl (by kernel_rfl)
      refine ok_enter' rfl rfl (want_none rfl b) ?_ ((score_any 1 3 7 1 2 1 2 4 125 (by unfold Good; omega) (by decide) (by decide) w1 (hTW.later hR)).mono ?_)
      · simp [go_sem, f22, f23, f24]
      rintro e w2 ⟨rfl, hb2⟩
      exact ⟨_, rfl, hR.trans (hb2.mono hR.size), hb2, rfl⟩
    · exact ok_val' rfl rfl (want_none rfl b) (by simp [go_sem, o3, x0, x1]) hR hb0 rfl
    · exact ok_val' rfl rfl (want_none rfl b) (by simp [go_sem, o4, u0, u1]) hR hb0 rfl
    · exact ok_val' rfl rfl (want_none rfl b) (by simp [go_sem, o5, p0, p1]) hR hb0 rfl
    · have f26 : sl b 26 = .agg #[.int .i64 3, .int .i64 7] := hdep 12 _ _ rfl rfl (by kernel_rfl)
      have f27 : sl b 27 = .agg #[.int .i64 1, .int .i64 2] := hdep 13 _ _ rfl rfl (by kernel_rfl)
      have f28 : sl b 28 = .agg #[.int .i64 1, .int .i64 2] := hdep 14 _ _ rfl rfl (by kernel_rfl)
      refine ok_enter' rfl rfl (want_none rfl b) ?_ ((score_any 2 3 7 1 2 1 2 4 996 (by unfold Good; omega) (by decide) (by decide) w1 (hTW.later hR)).mono ?_)
      · simp [go_sem, f26, f27, f28]
      rintro e w2 ⟨rfl, hb2⟩
      exact ⟨_, rfl, hR.trans (hb2.mono hR.size), hb2, rfl⟩
    · exact ok_val' rfl rfl (want_none rfl b) (by simp [go_sem, o3, x0, x1]) hR hb0 rfl
    · exact ok_val' rfl rfl (want_none rfl b) (by simp [go_sem, o4, u0, u1]) hR hb0 rfl
    · exact ok_val' rfl rfl (want_none rfl b) (by simp [go_sem, o5, p0, p1]) hR hb0 rfl
    · have f30 : sl b 30 = .agg #[.int .i64 3, .int .i64 7] := hdep 16 _ _ rfl rfl (by kernel_rfl)
      have f31 : sl b 31 = .agg #[.int .i64 1, .int .i64 2] := hdep 17 _ _ rfl rfl (by kernel_rfl)
      have f32 : sl b 32 = .agg #[.int .i64 1, .int .i64 2] := hdep 18 _ _ rfl rfl (by kernel_rfl)
      refine ok_enter' rfl rfl (want_none rfl b) ?_ ((score_any 3 3 7 1 2 1 2 4 0 (by unfold Good; omega) (by decide) (by decide) w1 (hTW.later hR)).mono ?_)
      · simp [go_sem, f30, f31, f32]
      rintro e w2 ⟨rfl, hb2⟩
      exact ⟨_, rfl, hR.trans (hb2.mono hR.size), hb2, rfl⟩
    · exact ok_val' rfl rfl (want_none rfl b) (by simp [go_sem]) hR hb0 rfl
    · exact ok_val' rfl rfl (want_none rfl b) (by simp [go_sem]) hR hb0 rfl
    · exact ok_val' rfl rfl (want_none rfl b) (by simp [go_sem]) hR hb0 rfl
    · have f34 : sl b 34 = .agg #[.int .i64 0, .int .i64 10] := hdep 20 _ _ rfl rfl (by kernel_rfl)
      have f35 : sl b 35 = .agg #[.int .i64 0, .int .i64 0] := hdep 21 _ _ rfl rfl (by kernel_rfl)
      have f36 : sl b 36 = .agg #[.int .i64 0, .int .i64 10] := hdep 22 _ _ rfl rfl (by kernel_rfl)
      refine ok_enter' rfl rfl (want_none rfl b) ?_ ((left_any 0 10 0 0 0 10 100 (by unfold Good; omega) (by decide) w1).mono ?_)
      · simp [go_sem, f34, f35, f36]
      rintro e w2 ⟨rfl, hb2⟩
      exact ⟨_, rfl, hR.trans (hb2.mono hR.size), hb2, rfl⟩
    · exact ok_val' rfl rfl (want_none rfl b) (by simp [go_sem] <;> first | rfl | exact ⟨rfl, rfl⟩) (hR.alloc hR.size _) (hb0.alloc (Nat.le_refl _) _) ⟨_, rfl, Box.new _ _ _ rfl⟩
    · exact ok_val' rfl rfl (want_none rfl b) (by simp [go_sem] <;> first | rfl | exact ⟨rfl, rfl⟩) (hR.alloc hR.size _) (hb0.alloc (Nat.le_refl _) _) ⟨_, rfl, Box.new _ _ _ rfl⟩
    · obtain ⟨B24, f38, g38⟩ : ∃ B, sl b 38 = .slice (some ⟨B, 0, none⟩) 3 3 ∧ Box w1 B #[.string ⟨#[98]⟩, .string ⟨#[97]⟩, .string ⟨#[99]⟩] 9 := hdep 24 _ _ rfl rfl (by kernel_rfl)
      obtain ⟨B25, f39, g39⟩ : ∃ B, sl b 39 = .slice (some ⟨B, 0, none⟩) 3 3 ∧ Box w1 B #[.int .i64 5, .int .i64 5, .int .i64 4] 3 := hdep 25 _ _ rfl rfl (by kernel_rfl)
      refine ok_enter' rfl rfl (want_none rfl b) ?_ ((best_any (some ⟨B24, 0, none⟩) (some ⟨B25, 0, none⟩) 3 3 3 [⟨#[98]⟩, ⟨#[97]⟩, ⟨#[99]⟩] [5, 5, 4] 1 w1 (strs_box g38 (by decide)) (row_box g39 (by decide)) rfl (by decide +kernel)).mono ?_)
      · simp [go_sem, f38, f39]
      rintro e w2 ⟨rfl, hb2⟩
      exact ⟨_, rfl, hR.trans (hb2.mono hR.size), hb2, rfl⟩
    · exact ok_val' rfl rfl (want_none rfl b) (by simp [go_sem] <;> first | rfl | exact ⟨rfl, rfl⟩) (hR.alloc hR.size _) (hb0.alloc (Nat.le_refl _) _) ⟨_, rfl, Box.new _ _ _ rfl⟩
    · exact ok_val' rfl rfl (want_none rfl b) (by simp [go_sem] <;> first | rfl | exact ⟨rfl, rfl⟩) (hR.alloc hR.size _) (hb0.alloc (Nat.le_refl _) _) ⟨_, rfl, Box.new _ _ _ rfl⟩
    · obtain ⟨B27, f41, g41⟩ : ∃ B, sl b 41 = .slice (some ⟨B, 0, none⟩) 3 3 ∧ Box w1 B #[.string ⟨#[98]⟩, .string ⟨#[97]⟩, .string ⟨#[97]⟩] 9 := hdep 27 _ _ rfl rfl (by kernel_rfl)
      obtain ⟨B28, f42, g42⟩ : ∃ B, sl b 42 = .slice (some ⟨B, 0, none⟩) 3 3 ∧ Box w1 B #[.int .i64 (-3), .int .i64 (-3), .int .i64 (-3)] 3 := hdep 28 _ _ rfl rfl (by kernel_rfl)
      refine ok_enter' rfl rfl (want_none rfl b) ?_ ((best_any (some ⟨B27, 0, none⟩) (some ⟨B28, 0, none⟩) 3 3 3 [⟨#[98]⟩, ⟨#[97]⟩, ⟨#[97]⟩] [-3, -3, -3] 1 w1 (strs_box g41 (by decide)) (row_box g42 (by decide)) rfl (by decide +kernel)).mono ?_)
      · simp [go_sem, f41, f42]
      rintro e w2 ⟨rfl, hb2⟩
      exact ⟨_, rfl, hR.trans (hb2.mono hR.size), hb2, rfl⟩
    · exact ok_val' rfl rfl (want_none rfl b) (by simp [go_sem] <;> first | rfl | exact ⟨rfl, rfl⟩) (hR.alloc hR.size _) (hb0.alloc (Nat.le_refl _) _) ⟨_, rfl, Box.new _ _ _ rfl⟩
    · exact ok_val' rfl rfl (want_none rfl b) (by simp [go_sem] <;> first | rfl | exact ⟨rfl, rfl⟩) (hR.alloc hR.size _) (hb0.alloc (Nat.le_refl _) _) ⟨_, rfl, Box.new _ _ _ rfl⟩
    · obtain ⟨B30, f44, g44⟩ : ∃ B, sl b 44 = .slice (some ⟨B, 0, none⟩) 2 2 ∧ Box w1 B #[.string ⟨#[206, 178]⟩, .string ⟨#[122]⟩] 9 := hdep 30 _ _ rfl rfl (by kernel_rfl)
      obtain ⟨B31, f45, g45⟩ : ∃ B, sl b 45 = .slice (some ⟨B, 0, none⟩) 2 2 ∧ Box w1 B #[.int .i64 1, .int .i64 1] 3 := hdep 31 _ _ rfl rfl (by kernel_rfl)
      refine ok_enter' rfl rfl (want_none rfl b) ?_ ((best_any (some ⟨B30, 0, none⟩) (some ⟨B31, 0, none⟩) 2 2 2 [⟨#[206, 178]⟩, ⟨#[122]⟩] [1, 1] 1 w1 (strs_box g44 (by decide)) (row_box g45 (by decide)) rfl (by decide +kernel)).mono ?_)
      · simp [go_sem, f44, f45]
      rintro e w2 ⟨rfl, hb2⟩
      exact ⟨_, rfl, hR.trans (hb2.mono hR.size), hb2, rfl⟩
    · exact ok_val' rfl rfl (want_none rfl b) (by simp [go_sem]) hR hb0 rfl
    · exact ok_val' rfl rfl (want_none rfl b) (by simp [go_sem]) hR hb0 rfl
    · exact ok_val' rfl rfl (want_none rfl b) (by simp [go_sem]) hR hb0 rfl
    · have f47 : sl b 47 = .agg #[.int .i64 1099511627776, .int .i64 1] := hdep 33 _ _ rfl rfl (by kernel_rfl)
      have f48 : sl b 48 = .agg #[.int .i64 1099511627775, .int .i64 0] := hdep 34 _ _ rfl rfl (by kernel_rfl)
      have f49 : sl b 49 = .agg #[.int .i64 1, .int .i64 0] := hdep 35 _ _ rfl rfl (by kernel_rfl)
      refine ok_enter' rfl rfl (want_none rfl b) ?_ ((left_any 1099511627776 1 1099511627775 0 1 0 100 (by unfold Good; omega) (by decide) w1).mono ?_)
      · simp [go_sem, f47, f48, f49]
      rintro e w2 ⟨rfl, hb2⟩
      exact ⟨_, rfl, hR.trans (hb2.mono hR.size), hb2, rfl⟩
    · have f17 : sl b 17 = .int .i64 75 := hdep 3 _ _ rfl rfl (by kernel_rfl)
      have f21 : sl b 21 = .int .i64 75 := hdep 7 _ _ rfl rfl (by kernel_rfl)
      have f25 : sl b 25 = .int .i64 125 := hdep 11 _ _ rfl rfl (by kernel_rfl)
      have f29 : sl b 29 = .int .i64 996 := hdep 15 _ _ rfl rfl (by kernel_rfl)
      have f33 : sl b 33 = .int .i64 0 := hdep 19 _ _ rfl rfl (by kernel_rfl)
      have f37 : sl b 37 = .int .i64 100 := hdep 23 _ _ rfl rfl (by kernel_rfl)
      have f40 : sl b 40 = .int .i64 1 := hdep 26 _ _ rfl rfl (by kernel_rfl)
      have f43 : sl b 43 = .int .i64 1 := hdep 29 _ _ rfl rfl (by kernel_rfl)
      have f46 : sl b 46 = .int .i64 1 := hdep 32 _ _ rfl rfl (by kernel_rfl)
      have f50 : sl b 50 = .int .i64 100 := hdep 36 _ _ rfl rfl (by kernel_rfl)
      exact ok_val' rfl rfl (want_none rfl b) (by simp [go_sem, f17, f21, f25, f29, f33, f37, f40, f43, f46, f50] <;> first | rfl | exact ⟨rfl, rfl⟩) (hR.alloc hR.size _) (hb0.alloc (Nat.le_refl _) _) ⟨_, rfl, Box.new _ _ _ rfl⟩
    · obtain ⟨B37, f51, g51⟩ : ∃ B, sl b 51 = .slice (some ⟨B, 0, none⟩) 10 10 ∧ Box w1 B #[.int .i64 75, .int .i64 75, .int .i64 125, .int .i64 996, .int .i64 0, .int .i64 100, .int .i64 1, .int .i64 1, .int .i64 1, .int .i64 100] 3 := hdep 37 _ _ rfl rfl (by kernel_rfl)
      exact ok_val' rfl rfl (want_none rfl b) (by simp [go_sem, f51]) hR hb0 ⟨_, rfl, g51⟩
    · cases ho
  case rest =>
    intro b w1 hR hsz hdf hold hF
    have f0 : sl b 0 = .int .i64 which := hold 0 (by kernel_rfl)
    obtain ⟨B38, f6, g6⟩ : ∃ B, sl b 6 = .slice (some ⟨B, 0, none⟩) 10 10 ∧ Box w1 B #[.int .i64 75, .int .i64 75, .int .i64 125, .int .i64 996, .int .i64 0, .int .i64 100, .int .i64 1, .int .i64 1, .int .i64 1, .int .i64 100] 3 := hF 38 _ _ rfl rfl
    have hB : b = _ := act_list b (show b.tmps.size = 66 from hsz) hdf
    rw [hB]
    simp only [List.range, List.range.loop, List.map_cons, List.map_nil, f0, f6]
    generalize sl b 1 = v1, sl b 2 = v2, sl b 3 = v3, sl b 4 = v4, sl b 5 = v5, sl b 7 = v7, sl b 8 = v8, sl b 9 = v9, sl b 10 = v10, sl b 11 = v11, sl b 12 = v12, sl b 13 = v13, sl b 14 = v14, sl b 15 = v15, sl b 16 = v16, sl b 17 = v17, sl b 18 = v18, sl b 19 = v19, sl b 20 = v20, sl b 21 = v21, sl b 22 = v22, sl b 23 = v23, sl b 24 = v24, sl b 25 = v25, sl b 26 = v26, sl b 27 = v27, sl b 28 = v28, sl b 29 = v29, sl b 30 = v30, sl b 31 = v31, sl b 32 = v32, sl b 33 = v33, sl b 34 = v34, sl b 35 = v35, sl b 36 = v36, sl b 37 = v37, sl b 38 = v38, sl b 39 = v39, sl b 40 = v40, sl b 41 = v41, sl b 42 = v42, sl b 43 = v43, sl b 44 = v44, sl b 45 = v45, sl b 46 = v46, sl b 47 = v47, sl b 48 = v48, sl b 49 = v49, sl b 50 = v50, sl b 51 = v51, sl b 52 = v52, sl b 53 = v53, sl b 54 = v54, sl b 55 = v55, sl b 56 = v56, sl b 57 = v57, sl b 58 = v58, sl b 59 = v59, sl b 60 = v60, sl b 61 = v61, sl b 62 = v62, sl b 63 = v63, sl b 64 = v64, sl b 65 = v65
    clear hB hold hsz hdf hF f0 f6
    have hW5 := fin hR hW
    go_upto_region 7 with (first
      | (go_at_call 8; refine (kw _).mono ?_; rintro e w9 ⟨rfl, rfl⟩))
    have s1 := g6.up (.cells #[.int .i64 75, .int .i64 75, .int .i64 125, .int .i64 996, .int .i64 0, .int .i64 100, .int .i64 1, .int .i64 1, .int .i64 1, .int .i64 100] 3)
    have s2 := Box.new w1 #[.int .i64 75, .int .i64 75, .int .i64 125, .int .i64 996, .int .i64 0, .int .i64 100, .int .i64 1, .int .i64 1, .int .i64 1, .int .i64 100] 3 rfl
    have hW6 := up hW5 (.cells #[.int .i64 75, .int .i64 75, .int .i64 125, .int .i64 996, .int .i64 0, .int .i64 100, .int .i64 1, .int .i64 1, .int .i64 1, .int .i64 100] 3)
    generalize w1.alloc (.cells #[.int .i64 75, .int .i64 75, .int .i64 125, .int .i64 996, .int .i64 0, .int .i64 100, .int .i64 1, .int .i64 1, .int .i64 1, .int .i64 100] 3) = W6 at *
    generalize w1.heap.size = D6 at *
    obtain ⟨r, c1, c2⟩ : ∃ r, W6.cell? ⟨B38, kn, none⟩ = some (.int .i64 r) ∧ W6.cell? ⟨D6, kn, none⟩ = some (.int .i64 r) := by
      rcases (by omega : kn = 0 ∨ kn = 1 ∨ kn = 2 ∨ kn = 3 ∨ kn = 4 ∨ kn = 5 ∨ kn = 6 ∨ kn = 7 ∨ kn = 8 ∨ kn = 9) with rfl | rfl | rfl | rfl | rfl | rfl | rfl | rfl | rfl | rfl <;> exact ⟨_, s1.cell rfl, s2.cell rfl⟩
    have i1 : (0 : Int) ≤ (kn : Int) := by omega
    have i2 : (kn : Int) < 10 := by omega
    clear s1 s2 g6
    go_quiet (fail)
    go_wp2
    go_ret
    exact ⟨rfl, below_drewN hW6 _⟩

end Go.Proofs.YtmkbllkfipcghaaDoor
