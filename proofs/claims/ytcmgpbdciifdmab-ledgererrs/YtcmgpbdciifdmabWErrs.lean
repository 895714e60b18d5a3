/- The walk of LedgerErrs. -/
import Derived.Test.YtcmgpbdciifdmabER
import Derived.Test.YtcmgpbdciifdmabRL
import Derived.Deep.DeepCutAuto
import Derived.Deep.QuietTactic
namespace Go.Proofs.Ytcmgpbdciifdmab
open Go.RowKit Go.Maps
set_option linter.unusedSimpArgs false
set_option linter.unusedVariables false

abbrev errRow : Array Value := #[.int .i64 4, .int .i64 3, .int .i64 5, .int .i64 2, .int .i64 6, .int .i64 6, .int .i64 6, .int .i64 5, .int .i64 5, .int .i64 7, .int .i64 6, .int .i64 1, .int .i64 2]
def errs : List Int := [4, 3, 5, 2, 6, 6, 6, 5, 5, 7, 6, 1, 2]
theorem cf10 (args : Array Value) (w : World) : (callFunc 10 args).run Try.prog w = .ok (.enter 10 args) w := by kernel_rfl
theorem cf13 (args : Array Value) (w : World) : (callFunc 13 args).run Try.prog w = .ok (.enter 13 args) w := by kernel_rfl
theorem cf14 (args : Array Value) (w : World) : (callFunc 14 args).run Try.prog w = .ok (.enter 14 args) w := by kernel_rfl
theorem cf15 (args : Array Value) (w : World) : (callFunc 15 args).run Try.prog w = .ok (.enter 15 args) w := by kernel_rfl
theorem errRow_at (K : Nat) (hK : K < 13) : errRow[K]? = some (.int .i64 (errs.getD K 0)) := by
  rcases (by omega : K = 0 ∨ K = 1 ∨ K = 2 ∨ K = 3 ∨ K = 4 ∨ K = 5 ∨ K = 6 ∨ K = 7 ∨ K = 8 ∨ K = 9 ∨ K = 10 ∨ K = 11 ∨ K = 12) with rfl | rfl | rfl | rfl | rfl | rfl | rfl | rfl | rfl | rfl | rfl | rfl | rfl <;> rfl
theorem cf16 (args : Array Value) (w : World) : (callFunc 16 args).run Try.prog w = .ok (.enter 16 args) w := by kernel_rfl
def errF (L : Nat) (fp : Nat → Prop) : Nat → Value → World → Prop
  | 0, v, _ => v = .pointer (some ⟨L, 0, none⟩)
  | 1, v, _ => v = .int .i64 4
  | 2, v, _ => v = .pointer (some ⟨L, 0, none⟩)
  | 3, v, _ => v = .int .i64 3
  | 4, v, _ => v = .pointer (some ⟨L, 0, none⟩)
  | 5, v, _ => v = .agg #[.string ⟨#[98]⟩, .string ⟨#[109]⟩, .int .i64 0, .int .i64 0, .bool false]
  | 6, v, w => ∃ B, v = .slice (some ⟨B, 0, none⟩) 1 1 ∧ (PlB fp [⟨⟨#[98]⟩, ⟨#[109]⟩, 0, 0, false⟩] B w)
  | 7, v, _ => v = .int .i64 5
  | 8, v, _ => v = .pointer (some ⟨L, 0, none⟩)
  | 9, v, _ => v = .agg #[.int .i64 0, .int .i64 (-1)]
  | 10, v, _ => v = .agg #[.string ⟨#[98]⟩, .string ⟨#[110]⟩, .int .i64 0, .int .i64 (-1), .bool false]
  | 11, v, w => ∃ B, v = .slice (some ⟨B, 0, none⟩) 1 1 ∧ (PlB fp [⟨⟨#[98]⟩, ⟨#[110]⟩, 0, (-1), false⟩] B w)
  | 12, v, _ => v = .int .i64 2
  | 13, v, _ => v = .pointer (some ⟨L, 0, none⟩)
  | 14, v, _ => v = .agg #[.int .i64 2, .int .i64 0]
  | 15, v, _ => v = .agg #[.string ⟨#[98]⟩, .string ⟨#[110]⟩, .int .i64 2, .int .i64 0, .bool false]
  | 16, v, w => ∃ B, v = .slice (some ⟨B, 0, none⟩) 1 1 ∧ (PlB fp [⟨⟨#[98]⟩, ⟨#[110]⟩, 2, 0, false⟩] B w)
  | 17, v, _ => v = .int .i64 6
  | 18, v, _ => v = .pointer (some ⟨L, 0, none⟩)
  | 19, v, _ => v = .agg #[.int .i64 9223372036854775807, .int .i64 0]
  | 20, v, _ => v = .agg #[.string ⟨#[98]⟩, .string ⟨#[110]⟩, .int .i64 9223372036854775807, .int .i64 0, .bool false]
  | 21, v, w => ∃ B, v = .slice (some ⟨B, 0, none⟩) 1 1 ∧ (PlB fp [⟨⟨#[98]⟩, ⟨#[110]⟩, 9223372036854775807, 0, false⟩] B w)
  | 22, v, _ => v = .int .i64 6
  | 23, v, _ => v = .pointer (some ⟨L, 0, none⟩)
  | 24, v, _ => v = .agg #[.int .i64 1, .int .i64 3]
  | 25, v, _ => v = .agg #[.string ⟨#[98]⟩, .string ⟨#[110]⟩, .int .i64 1, .int .i64 3, .bool false]
  | 26, v, _ => v = .agg #[.int .i64 0, .int .i64 2]
  | 27, v, _ => v = .agg #[.string ⟨#[99]⟩, .string ⟨#[110]⟩, .int .i64 0, .int .i64 2, .bool false]
  | 28, v, w => ∃ B, v = .slice (some ⟨B, 0, none⟩) 2 2 ∧ (PlB fp [⟨⟨#[98]⟩, ⟨#[110]⟩, 1, 3, false⟩, ⟨⟨#[99]⟩, ⟨#[110]⟩, 0, 2, false⟩] B w)
  | 29, v, _ => v = .int .i64 6
  | 30, v, _ => v = .pointer (some ⟨L, 0, none⟩)
  | 31, v, _ => v = .int .i64 5
  | 32, v, _ => v = .pointer (some ⟨L, 0, none⟩)
  | 33, v, _ => v = .int .i64 5
  | 34, v, _ => v = .pointer (some ⟨L, 0, none⟩)
  | 35, v, _ => v = .int .i64 7
  | 36, v, _ => v = .pointer (some ⟨L, 0, none⟩)
  | 37, v, _ => v = .agg #[.int .i64 2, .int .i64 9]
  | 38, v, _ => v = .agg #[.string ⟨#[110]⟩, .int .i64 2, .int .i64 9, .slice none 0 0, .slice none 0 0, .bool false]
  | 39, v, _ => v = .int .i64 6
  | 40, v, _ => v = .pointer (some ⟨L, 0, none⟩)
  | 41, v, _ => v = .agg #[.string ⟨#[78]⟩, .int .i64 0, .int .i64 0, .slice none 0 0, .slice none 0 0, .bool false]
  | 42, v, _ => v = .int .i64 1
  | 43, v, _ => v = .pointer (some ⟨L, 0, none⟩)
  | 44, v, _ => v = .agg #[.int .i64 (-1), .int .i64 0]
  | 45, v, _ => v = .agg #[.string ⟨#[109]⟩, .int .i64 (-1), .int .i64 0, .slice none 0 0, .slice none 0 0, .bool false]
  | 46, v, _ => v = .int .i64 2
  | 47, v, w => ∃ Q, v = .slice (some ⟨Q, 0, none⟩) 13 13 ∧ Box w Q errRow 27
  | 48, v, w => ∃ Q, v = .slice (some ⟨Q, 0, none⟩) 13 13 ∧ Box w Q errRow 27
  | _, _, _ => True

def errG (L Q Q2 K : Nat) : Nat → Value → World → Prop
  | 0, v, _ => v = .slice (some ⟨Q, 0, none⟩) 13 13
  | 1, v, _ => v = .int .i64 K
  | 2, v, _ => v = .pointer (some ⟨Q, K, none⟩)
  | 3, v, _ => v = .int .i64 (errs.getD K 0)
  | 4, v, _ => v = .slice (some ⟨Q2, 0, none⟩) 13 13
  | 5, v, _ => v = .int .i64 K
  | 6, v, _ => v = .pointer (some ⟨Q2, K, none⟩)
  | 7, v, _ => v = .int .i64 (errs.getD K 0)
  | 8, v, _ => v = .bool true
  | 9, v, _ => v = .bool true
  | 10, v, _ => v = .agg #[.int .i64 3, .int .i64 0]
  | 11, v, _ => v = .agg #[.int .i64 3, .int .i64 0]
  | 12, v, _ => v = .bool true
  | 13, v, _ => v = .bool true
  | 14, v, _ => v = .bool true
  | 15, v, _ => v = .int .i64 1
  | 16, v, _ => v = .bool true
  | 17, v, _ => v = .bool true
  | 18, v, _ => v = .bool true
  | 19, v, _ => v = .pointer (some ⟨L, 0, none⟩)
  | 20, v, w => ∃ B c, v = .slice (some ⟨B, 0, none⟩) 1 c ∧ True
  | 21, v, _ => v = .int .i64 1
  | 22, v, _ => v = .bool true
  | 23, v, _ => v = .bool true
  | 24, v, _ => v = .bool true
  | _, _, _ => True

set_option maxRecDepth 100000 in
set_option maxHeartbeats 16000000 in
theorem ledgerErrs_walk (wh : Int) (w : World) :
    Calls Try.prog 5 #[.int .i64 wh] w fun e w' => e = .returned (.bool true) ∧ Below w.heap.size w w' := by
  have he := eqVec
  go_enter Try.func5, Try.ntmps5
  go_upto_region 4 with (first
    | (go_at_call 7; refine (known_any w).mono ?_; rintro e w1 ⟨rfl, hb1⟩; have kr := room_any 4 4 (by decide) (by decide) w1)
    | (go_at_call 9; refine kr.mono ?_; rintro e w3 ⟨L, fp3, r, rfl, hO3, hc3, hu3, hm3, hk3, hf3, hb3⟩))
  have hcp : r.cpu = 4 := congrArg (fun x => x.2.1) hc3
  have hcm : r.mem = 4 := congrArg (fun x => x.2.2.1) hc3
  have hbw : Below w.heap.size w w3 := hb1.trans (hb3.mono hb1.size)
  have hfw : ∀ b, fp3 b → w.heap.size ≤ b := fun b hb => Nat.le_trans hb1.size (hf3 b hb)
  have hO4 := hO3.later (up (Below.refl _ _) (.cells #[.string ⟨#[97]⟩, .string nB, .int .i64 3, .int .i64 0, .bool false] 32))
  have hb4 := up hbw (.cells #[.string ⟨#[97]⟩, .string nB, .int .i64 3, .int .i64 0, .bool false] 32)
  have k3 := take_ok _ L fp3 r [] hO4 1 (by decide) rfl (by simp) w3.heap.size 0 1 ⟨⟨#[97]⟩, nB, 3, 0, false⟩ (pls_lit w3 _) hO3.outs rfl (by decide) (by rw [hu3, hm3, hcp, hcm]; decide)
  go_upto_region 7 with (go_at_call 10; refine k3.mono ?_; rintro e w5 ⟨rfl, fp, a5, c5, hO5, hf5, hK5⟩)
  have hb5 : Below w.heap.size w w5 := hb4.trans (hK5.below hb4.size hfw)
  have hA5 : Asked w5 L fp (r.plus ⟨⟨#[97]⟩, nB, 3, 0, false⟩) ⟨a5, c5, [⟨⟨#[97]⟩, nB, 3, 0, false⟩]⟩ := ⟨hO5, by show r.u + 3 = 3; rw [hu3]; rfl, by show r.m + 0 = 0; rw [hm3]; rfl, hcp, hcm, by show wrap64 (r.k + 1) = 1; rw [hk3]; unfold wrap64; omega⟩
  generalize r.plus ⟨⟨#[97]⟩, nB, 3, 0, false⟩ = r5 at hA5
  generalize (⟨a5, c5, [⟨⟨#[97]⟩, nB, 3, 0, false⟩]⟩ : Grp) = g1 at hA5
  have hAs := hA5.later (up (Below.refl _ _) (.cells #[.int .i64 9223372036854775807, .int .i64 0] 30))
  have hV : Box (w5.alloc (.cells #[.int .i64 9223372036854775807, .int .i64 0] 30)) w5.heap.size #[.int .i64 9223372036854775807, .int .i64 0] 30 := Box.new w5 _ _ rfl
  have hbW := up hb5 (.cells #[.int .i64 9223372036854775807, .int .i64 0] 30)
  generalize w5.alloc (.cells #[.int .i64 9223372036854775807, .int .i64 0] 30) = W at hAs hV hbW ⊢
  generalize w5.heap.size = V4 at hV ⊢
  clear k3 hO3 hO4 hO5 hA5 hc3 hu3 hm3 hk3 hcp hcm hbw hb4 hf5 hK5 hf3 hb3 hb1 kr hfw hb5 he
  refine wp_region_rely (fun w1 => Below W.heap.size W w1) (fun w1 w2 => Below w1.heap.size w1 w2) (errF L fp) (by kernel_rfl) (by kernel_rfl) (Below.refl _ _).drew ?keep ?step ?rest
  case keep =>
    intro i v w1 w2 hS hF
    unfold errF at *
    split at hF <;> try exact hF
    all_goals
      obtain ⟨B, hv, hc⟩ := hF
      exact ⟨B, hv, hc.later hS⟩
  case step =>
    intro i o d ho hd b w1 hR hold hdep
    have o0 : sl b 0 = .int .i64 wh := hold 0 (by kernel_rfl)
    have o2 : sl b 2 = .bool false := hold 2 (by kernel_rfl)
    have o3 : sl b 3 = .pointer (some ⟨L, 0, none⟩) := hold 3 (by kernel_rfl)
    have o4 : sl b 4 = .pointer (some ⟨V4, 0, none⟩) := hold 4 (by kernel_rfl)
    have hb0 := Below.refl w1.heap.size w1
    have z0 := (hV.later hR).cell (i := 0) rfl
    have z1 := (hV.later hR).cell (i := 1) rfl
    rcases i with _ | _ | _ | _ | _ | _ | _ | _ | _ | _ | _ | _ | _ | _ | _ | _ | _ | _ | _ | _ | _ | _ | _ | _ | _ | _ | _ | _ | _ | _ | _ | _ | _ | _ | _ | _ | _ | _ | _ | _ | _ | _ | _ | _ | _ | _ | _ | _ | _ | i
    all_goals try (cases ho; cases hd)
    · exact ok_val' rfl rfl (want_none rfl b) (by simp [go_sem, o3]) hR hb0 rfl
    · have f24 : sl b 24 = .pointer (some ⟨L, 0, none⟩) := hdep 0 _ _ rfl rfl (by kernel_rfl)
      refine ok_enter' rfl rfl (want_none rfl b) ?_ ((e1 (hAs.later hR)).mono ?_)
      · simp [go_sem, f24, cf10]
      rintro e w2 ⟨rfl, hb2⟩
      exact ⟨_, rfl, hR.trans (hb2.mono hR.size), hb2, rfl⟩
    · exact ok_val' rfl rfl (want_none rfl b) (by simp [go_sem, o3]) hR hb0 rfl
    · have f26 : sl b 26 = .pointer (some ⟨L, 0, none⟩) := hdep 2 _ _ rfl rfl (by kernel_rfl)
      refine ok_enter' rfl rfl (want_none rfl b) ?_ ((e2 (hAs.later hR)).mono ?_)
      · simp [go_sem, f26, cf10]
      rintro e w2 ⟨rfl, hb2⟩
      exact ⟨_, rfl, hR.trans (hb2.mono hR.size), hb2, rfl⟩
    · exact ok_val' rfl rfl (want_none rfl b) (by simp [go_sem, o3]) hR hb0 rfl
    · exact ok_val' rfl rfl (want_none rfl b) (by simp [go_sem]) hR hb0 rfl
    · have f29 : sl b 29 = .agg #[.string ⟨#[98]⟩, .string ⟨#[109]⟩, .int .i64 0, .int .i64 0, .bool false] := hdep 5 _ _ rfl rfl (by kernel_rfl)
      exact ok_val' rfl rfl (want_none rfl b) (by simp [go_sem, f29] <;> first | rfl | exact ⟨rfl, rfl⟩) (hR.alloc hR.size _) (hb0.alloc (Nat.le_refl _) _) ⟨_, rfl, PlB.new (hAs.later hR) [⟨⟨#[98]⟩, ⟨#[109]⟩, 0, 0, false⟩] _ rfl (by simp)⟩
    · have f28 : sl b 28 = .pointer (some ⟨L, 0, none⟩) := hdep 4 _ _ rfl rfl (by kernel_rfl)
      obtain ⟨B6, f30, g30⟩ : ∃ B, sl b 30 = .slice (some ⟨B, 0, none⟩) 1 1 ∧ (PlB fp [⟨⟨#[98]⟩, ⟨#[109]⟩, 0, 0, false⟩] B w1) := hdep 6 _ _ rfl rfl (by kernel_rfl)
      refine ok_enter' rfl rfl (want_none rfl b) ?_ ((e3 (hAs.later hR) _ g30).mono ?_)
      · simp [go_sem, f28, f30, cf10]
      rintro e w2 ⟨rfl, hb2⟩
      exact ⟨_, rfl, hR.trans (hb2.mono hR.size), hb2, rfl⟩
    · exact ok_val' rfl rfl (want_none rfl b) (by simp [go_sem, o3]) hR hb0 rfl
    · exact ok_val' rfl rfl (want_none rfl b) (by simp [go_sem]) hR hb0 rfl
    · have f33 : sl b 33 = .agg #[.int .i64 0, .int .i64 (-1)] := hdep 9 _ _ rfl rfl (by kernel_rfl)
      exact ok_val' rfl rfl (want_none rfl b) (by simp [go_sem, f33]) hR hb0 rfl
    · have f34 : sl b 34 = .agg #[.string ⟨#[98]⟩, .string ⟨#[110]⟩, .int .i64 0, .int .i64 (-1), .bool false] := hdep 10 _ _ rfl rfl (by kernel_rfl)
      exact ok_val' rfl rfl (want_none rfl b) (by simp [go_sem, f34] <;> first | rfl | exact ⟨rfl, rfl⟩) (hR.alloc hR.size _) (hb0.alloc (Nat.le_refl _) _) ⟨_, rfl, PlB.new (hAs.later hR) [⟨⟨#[98]⟩, ⟨#[110]⟩, 0, (-1), false⟩] _ rfl (by simp)⟩
    · have f32 : sl b 32 = .pointer (some ⟨L, 0, none⟩) := hdep 8 _ _ rfl rfl (by kernel_rfl)
      obtain ⟨B11, f35, g35⟩ : ∃ B, sl b 35 = .slice (some ⟨B, 0, none⟩) 1 1 ∧ (PlB fp [⟨⟨#[98]⟩, ⟨#[110]⟩, 0, (-1), false⟩] B w1) := hdep 11 _ _ rfl rfl (by kernel_rfl)
      refine ok_enter' rfl rfl (want_none rfl b) ?_ ((e4 (hAs.later hR) _ g35).mono ?_)
      · simp [go_sem, f32, f35, cf10]
      rintro e w2 ⟨rfl, hb2⟩
      exact ⟨_, rfl, hR.trans (hb2.mono hR.size), hb2, rfl⟩
    · exact ok_val' rfl rfl (want_none rfl b) (by simp [go_sem, o3]) hR hb0 rfl
    · exact ok_val' rfl rfl (want_none rfl b) (by simp [go_sem]) hR hb0 rfl
    · have f38 : sl b 38 = .agg #[.int .i64 2, .int .i64 0] := hdep 14 _ _ rfl rfl (by kernel_rfl)
      exact ok_val' rfl rfl (want_none rfl b) (by simp [go_sem, f38]) hR hb0 rfl
    · have f39 : sl b 39 = .agg #[.string ⟨#[98]⟩, .string ⟨#[110]⟩, .int .i64 2, .int .i64 0, .bool false] := hdep 15 _ _ rfl rfl (by kernel_rfl)
      exact ok_val' rfl rfl (want_none rfl b) (by simp [go_sem, f39] <;> first | rfl | exact ⟨rfl, rfl⟩) (hR.alloc hR.size _) (hb0.alloc (Nat.le_refl _) _) ⟨_, rfl, PlB.new (hAs.later hR) [⟨⟨#[98]⟩, ⟨#[110]⟩, 2, 0, false⟩] _ rfl (by simp)⟩
    · have f37 : sl b 37 = .pointer (some ⟨L, 0, none⟩) := hdep 13 _ _ rfl rfl (by kernel_rfl)
      obtain ⟨B16, f40, g40⟩ : ∃ B, sl b 40 = .slice (some ⟨B, 0, none⟩) 1 1 ∧ (PlB fp [⟨⟨#[98]⟩, ⟨#[110]⟩, 2, 0, false⟩] B w1) := hdep 16 _ _ rfl rfl (by kernel_rfl)
      refine ok_enter' rfl rfl (want_none rfl b) ?_ ((e5' (hAs.later hR) 2 (by decide) _ g40).mono ?_)
      · simp [go_sem, f37, f40, cf10]
      rintro e w2 ⟨rfl, hb2⟩
      exact ⟨_, rfl, hR.trans (hb2.mono hR.size), hb2, rfl⟩
    · exact ok_val' rfl rfl (want_none rfl b) (by simp [go_sem, o3]) hR hb0 rfl
    · exact ok_val' rfl rfl (want_none rfl b) (by simp [go_sem, o4, z0, z1]) hR hb0 rfl
    · have f43 : sl b 43 = .agg #[.int .i64 9223372036854775807, .int .i64 0] := hdep 19 _ _ rfl rfl (by kernel_rfl)
      exact ok_val' rfl rfl (want_none rfl b) (by simp [go_sem, f43]) hR hb0 rfl
    · have f44 : sl b 44 = .agg #[.string ⟨#[98]⟩, .string ⟨#[110]⟩, .int .i64 9223372036854775807, .int .i64 0, .bool false] := hdep 20 _ _ rfl rfl (by kernel_rfl)
      exact ok_val' rfl rfl (want_none rfl b) (by simp [go_sem, f44] <;> first | rfl | exact ⟨rfl, rfl⟩) (hR.alloc hR.size _) (hb0.alloc (Nat.le_refl _) _) ⟨_, rfl, PlB.new (hAs.later hR) [⟨⟨#[98]⟩, ⟨#[110]⟩, 9223372036854775807, 0, false⟩] _ rfl (by simp)⟩
    · have f42 : sl b 42 = .pointer (some ⟨L, 0, none⟩) := hdep 18 _ _ rfl rfl (by kernel_rfl)
      obtain ⟨B21, f45, g45⟩ : ∃ B, sl b 45 = .slice (some ⟨B, 0, none⟩) 1 1 ∧ (PlB fp [⟨⟨#[98]⟩, ⟨#[110]⟩, 9223372036854775807, 0, false⟩] B w1) := hdep 21 _ _ rfl rfl (by kernel_rfl)
      refine ok_enter' rfl rfl (want_none rfl b) ?_ ((e5' (hAs.later hR) 9223372036854775807 (by decide) _ g45).mono ?_)
      · simp [go_sem, f42, f45, cf10]
      rintro e w2 ⟨rfl, hb2⟩
      exact ⟨_, rfl, hR.trans (hb2.mono hR.size), hb2, rfl⟩
    · exact ok_val' rfl rfl (want_none rfl b) (by simp [go_sem, o3]) hR hb0 rfl
    · exact ok_val' rfl rfl (want_none rfl b) (by simp [go_sem]) hR hb0 rfl
    · have f48 : sl b 48 = .agg #[.int .i64 1, .int .i64 3] := hdep 24 _ _ rfl rfl (by kernel_rfl)
      exact ok_val' rfl rfl (want_none rfl b) (by simp [go_sem, f48]) hR hb0 rfl
    · exact ok_val' rfl rfl (want_none rfl b) (by simp [go_sem]) hR hb0 rfl
    · have f50 : sl b 50 = .agg #[.int .i64 0, .int .i64 2] := hdep 26 _ _ rfl rfl (by kernel_rfl)
      exact ok_val' rfl rfl (want_none rfl b) (by simp [go_sem, f50]) hR hb0 rfl
    · have f49 : sl b 49 = .agg #[.string ⟨#[98]⟩, .string ⟨#[110]⟩, .int .i64 1, .int .i64 3, .bool false] := hdep 25 _ _ rfl rfl (by kernel_rfl)
      have f51 : sl b 51 = .agg #[.string ⟨#[99]⟩, .string ⟨#[110]⟩, .int .i64 0, .int .i64 2, .bool false] := hdep 27 _ _ rfl rfl (by kernel_rfl)
      exact ok_val' rfl rfl (want_none rfl b) (by simp [go_sem, f49, f51] <;> first | rfl | exact ⟨rfl, rfl⟩) (hR.alloc hR.size _) (hb0.alloc (Nat.le_refl _) _) ⟨_, rfl, PlB.new (hAs.later hR) [⟨⟨#[98]⟩, ⟨#[110]⟩, 1, 3, false⟩, ⟨⟨#[99]⟩, ⟨#[110]⟩, 0, 2, false⟩] _ rfl (by simp)⟩
    · have f47 : sl b 47 = .pointer (some ⟨L, 0, none⟩) := hdep 23 _ _ rfl rfl (by kernel_rfl)
      obtain ⟨B28, f52, g52⟩ : ∃ B, sl b 52 = .slice (some ⟨B, 0, none⟩) 2 2 ∧ (PlB fp [⟨⟨#[98]⟩, ⟨#[110]⟩, 1, 3, false⟩, ⟨⟨#[99]⟩, ⟨#[110]⟩, 0, 2, false⟩] B w1) := hdep 28 _ _ rfl rfl (by kernel_rfl)
      refine ok_enter' rfl rfl (want_none rfl b) ?_ ((e7 (hAs.later hR) _ g52).mono ?_)
      · simp [go_sem, f47, f52, cf10]
      rintro e w2 ⟨rfl, hb2⟩
      exact ⟨_, rfl, hR.trans (hb2.mono hR.size), hb2, rfl⟩
    · exact ok_val' rfl rfl (want_none rfl b) (by simp [go_sem, o3]) hR hb0 rfl
    · have f54 : sl b 54 = .pointer (some ⟨L, 0, none⟩) := hdep 30 _ _ rfl rfl (by kernel_rfl)
      refine ok_enter' rfl rfl (want_none rfl b) ?_ ((e8 (hAs.later hR)).mono ?_)
      · simp [go_sem, f54, cf13]
      rintro e w2 ⟨rfl, hb2⟩
      exact ⟨_, rfl, hR.trans (hb2.mono hR.size), hb2, rfl⟩
    · exact ok_val' rfl rfl (want_none rfl b) (by simp [go_sem, o3]) hR hb0 rfl
    · have f56 : sl b 56 = .pointer (some ⟨L, 0, none⟩) := hdep 32 _ _ rfl rfl (by kernel_rfl)
      refine ok_enter' rfl rfl (want_none rfl b) ?_ ((e9 (hAs.later hR)).mono ?_)
      · simp [go_sem, f56, cf14]
      rintro e w2 ⟨rfl, hb2⟩
      exact ⟨_, rfl, hR.trans (hb2.mono hR.size), hb2, rfl⟩
    · exact ok_val' rfl rfl (want_none rfl b) (by simp [go_sem, o3]) hR hb0 rfl
    · have f58 : sl b 58 = .pointer (some ⟨L, 0, none⟩) := hdep 34 _ _ rfl rfl (by kernel_rfl)
      refine ok_enter' rfl rfl (want_none rfl b) ?_ ((e10 (hAs.later hR)).mono ?_)
      · simp [go_sem, f58, cf14]
      rintro e w2 ⟨rfl, hb2⟩
      exact ⟨_, rfl, hR.trans (hb2.mono hR.size), hb2, rfl⟩
    · exact ok_val' rfl rfl (want_none rfl b) (by simp [go_sem, o3]) hR hb0 rfl
    · exact ok_val' rfl rfl (want_none rfl b) (by simp [go_sem]) hR hb0 rfl
    · have f61 : sl b 61 = .agg #[.int .i64 2, .int .i64 9] := hdep 37 _ _ rfl rfl (by kernel_rfl)
      exact ok_val' rfl rfl (want_none rfl b) (by simp [go_sem, f61]) hR hb0 rfl
    · have f60 : sl b 60 = .pointer (some ⟨L, 0, none⟩) := hdep 36 _ _ rfl rfl (by kernel_rfl)
      have f62 : sl b 62 = .agg #[.string ⟨#[110]⟩, .int .i64 2, .int .i64 9, .slice none 0 0, .slice none 0 0, .bool false] := hdep 38 _ _ rfl rfl (by kernel_rfl)
      refine ok_enter' rfl rfl (want_none rfl b) ?_ ((e11 (hAs.later hR)).mono ?_)
      · simp [go_sem, f60, f62, cf15]
      rintro e w2 ⟨rfl, hb2⟩
      exact ⟨_, rfl, hR.trans (hb2.mono hR.size), hb2, rfl⟩
    · exact ok_val' rfl rfl (want_none rfl b) (by simp [go_sem, o3]) hR hb0 rfl
    · exact ok_val' rfl rfl (want_none rfl b) (by simp [go_sem]) hR hb0 rfl
    · have f64 : sl b 64 = .pointer (some ⟨L, 0, none⟩) := hdep 40 _ _ rfl rfl (by kernel_rfl)
      have f65 : sl b 65 = .agg #[.string ⟨#[78]⟩, .int .i64 0, .int .i64 0, .slice none 0 0, .slice none 0 0, .bool false] := hdep 41 _ _ rfl rfl (by kernel_rfl)
      refine ok_enter' rfl rfl (want_none rfl b) ?_ ((e12 (hAs.later hR)).mono ?_)
      · simp [go_sem, f64, f65, cf15]
      rintro e w2 ⟨rfl, hb2⟩
      exact ⟨_, rfl, hR.trans (hb2.mono hR.size), hb2, rfl⟩
    · exact ok_val' rfl rfl (want_none rfl b) (by simp [go_sem, o3]) hR hb0 rfl
    · exact ok_val' rfl rfl (want_none rfl b) (by simp [go_sem]) hR hb0 rfl
    · have f68 : sl b 68 = .agg #[.int .i64 (-1), .int .i64 0] := hdep 44 _ _ rfl rfl (by kernel_rfl)
      exact ok_val' rfl rfl (want_none rfl b) (by simp [go_sem, f68]) hR hb0 rfl
    · have f67 : sl b 67 = .pointer (some ⟨L, 0, none⟩) := hdep 43 _ _ rfl rfl (by kernel_rfl)
      have f69 : sl b 69 = .agg #[.string ⟨#[109]⟩, .int .i64 (-1), .int .i64 0, .slice none 0 0, .slice none 0 0, .bool false] := hdep 45 _ _ rfl rfl (by kernel_rfl)
      refine ok_enter' rfl rfl (want_none rfl b) ?_ ((e13 (hAs.later hR)).mono ?_)
      · simp [go_sem, f67, f69, cf15]
      rintro e w2 ⟨rfl, hb2⟩
      exact ⟨_, rfl, hR.trans (hb2.mono hR.size), hb2, rfl⟩
    · have f25 : sl b 25 = .int .i64 4 := hdep 1 _ _ rfl rfl (by kernel_rfl)
      have f27 : sl b 27 = .int .i64 3 := hdep 3 _ _ rfl rfl (by kernel_rfl)
      have f31 : sl b 31 = .int .i64 5 := hdep 7 _ _ rfl rfl (by kernel_rfl)
      have f36 : sl b 36 = .int .i64 2 := hdep 12 _ _ rfl rfl (by kernel_rfl)
      have f41 : sl b 41 = .int .i64 6 := hdep 17 _ _ rfl rfl (by kernel_rfl)
      have f46 : sl b 46 = .int .i64 6 := hdep 22 _ _ rfl rfl (by kernel_rfl)
      have f53 : sl b 53 = .int .i64 6 := hdep 29 _ _ rfl rfl (by kernel_rfl)
      have f55 : sl b 55 = .int .i64 5 := hdep 31 _ _ rfl rfl (by kernel_rfl)
      have f57 : sl b 57 = .int .i64 5 := hdep 33 _ _ rfl rfl (by kernel_rfl)
      have f59 : sl b 59 = .int .i64 7 := hdep 35 _ _ rfl rfl (by kernel_rfl)
      have f63 : sl b 63 = .int .i64 6 := hdep 39 _ _ rfl rfl (by kernel_rfl)
      have f66 : sl b 66 = .int .i64 1 := hdep 42 _ _ rfl rfl (by kernel_rfl)
      have f70 : sl b 70 = .int .i64 2 := hdep 46 _ _ rfl rfl (by kernel_rfl)
      exact ok_val' rfl rfl (want_none rfl b) (by simp [go_sem, f25, f27, f31, f36, f41, f46, f53, f55, f57, f59, f63, f66, f70] <;> first | rfl | exact ⟨rfl, rfl⟩) (hR.alloc hR.size _) (hb0.alloc (Nat.le_refl _) _) ⟨_, rfl, Box.new _ _ _ rfl⟩
    · obtain ⟨Q47, f71, g71⟩ : ∃ Q, sl b 71 = .slice (some ⟨Q, 0, none⟩) 13 13 ∧ Box w1 Q errRow 27 := hdep 47 _ _ rfl rfl (by kernel_rfl)
      exact ok_val' rfl rfl (want_none rfl b) (by simp [go_sem, f71] <;> rfl) hR hb0 ⟨_, rfl, g71⟩
    · cases ho
  case rest =>
    intro b w1 hR hsz hdf hold hF
    have f0 : sl b 0 = .int .i64 wh := hold 0 (by kernel_rfl)
    have f2 : sl b 2 = .bool false := hold 2 (by kernel_rfl)
    have f3 : sl b 3 = .pointer (some ⟨L, 0, none⟩) := hold 3 (by kernel_rfl)
    have f4 : sl b 4 = .pointer (some ⟨V4, 0, none⟩) := hold 4 (by kernel_rfl)
    obtain ⟨Q48, f5, g5⟩ : ∃ Q, sl b 5 = .slice (some ⟨Q, 0, none⟩) 13 13 ∧ Box w1 Q errRow 27 := hF 48 _ _ rfl rfl
    have hB : b = _ := act_list b (show b.tmps.size = 106 from hsz) hdf
    rw [hB]
    simp only [List.range, List.range.loop, List.map_cons, List.map_nil, f0, f2, f3, f4, f5]
    generalize sl b 1 = v1, sl b 6 = v6, sl b 7 = v7, sl b 8 = v8, sl b 9 = v9, sl b 10 = v10, sl b 11 = v11, sl b 12 = v12, sl b 13 = v13, sl b 14 = v14, sl b 15 = v15, sl b 16 = v16, sl b 17 = v17, sl b 18 = v18, sl b 19 = v19, sl b 20 = v20, sl b 21 = v21, sl b 22 = v22, sl b 23 = v23, sl b 24 = v24, sl b 25 = v25, sl b 26 = v26, sl b 27 = v27, sl b 28 = v28, sl b 29 = v29, sl b 30 = v30, sl b 31 = v31, sl b 32 = v32, sl b 33 = v33, sl b 34 = v34, sl b 35 = v35, sl b 36 = v36, sl b 37 = v37, sl b 38 = v38, sl b 39 = v39, sl b 40 = v40, sl b 41 = v41, sl b 42 = v42, sl b 43 = v43, sl b 44 = v44, sl b 45 = v45, sl b 46 = v46, sl b 47 = v47, sl b 48 = v48, sl b 49 = v49, sl b 50 = v50, sl b 51 = v51, sl b 52 = v52, sl b 53 = v53, sl b 54 = v54, sl b 55 = v55, sl b 56 = v56, sl b 57 = v57, sl b 58 = v58, sl b 59 = v59, sl b 60 = v60, sl b 61 = v61, sl b 62 = v62, sl b 63 = v63, sl b 64 = v64, sl b 65 = v65, sl b 66 = v66, sl b 67 = v67, sl b 68 = v68, sl b 69 = v69, sl b 70 = v70, sl b 71 = v71, sl b 72 = v72, sl b 73 = v73, sl b 74 = v74, sl b 75 = v75, sl b 76 = v76, sl b 77 = v77, sl b 78 = v78, sl b 79 = v79, sl b 80 = v80, sl b 81 = v81, sl b 82 = v82, sl b 83 = v83, sl b 84 = v84, sl b 85 = v85, sl b 86 = v86, sl b 87 = v87, sl b 88 = v88, sl b 89 = v89, sl b 90 = v90, sl b 91 = v91, sl b 92 = v92, sl b 93 = v93, sl b 94 = v94, sl b 95 = v95, sl b 96 = v96, sl b 97 = v97, sl b 98 = v98, sl b 99 = v99, sl b 100 = v100, sl b 101 = v101, sl b 102 = v102, sl b 103 = v103, sl b 104 = v104, sl b 105 = v105
    clear hB hold hsz hdf hF f0 f2 f3 f4 f5
    obtain ⟨Q, hQ0⟩ : ∃ Q, Q48 = Q := ⟨_, rfl⟩
    rw [hQ0] at g5 ⊢
    clear hQ0
    obtain ⟨q, hq⟩ : ∃ q, wh % 13 = q := ⟨_, rfl⟩
    have kW := fun W => within_any wh 13 q (by decide) (by decide) hq W
    obtain ⟨K, rfl⟩ : ∃ K : Nat, q = K := ⟨q.toNat, by omega⟩
    have hK : K < 13 := by omega
    clear hq
    have hA2 := (hAs.later hR).later (up (Below.refl _ _) (.cells errRow 27))
    have hQ1 := Box.up g5 (.cells errRow 27)
    have hQ2 : Box (w1.alloc (.cells errRow 27)) w1.heap.size errRow 27 := Box.new w1 errRow 27 rfl
    have hb2 := up (hbW.trans (hR.mono hbW.size)) (.cells errRow 27)
    have ku := used_one (w1.alloc (.cells errRow 27)) L fp r5 _ hA2.one
    rw [hA2.u, hA2.m, hA2.k] at ku
    clear hR g5 hAs hV hbW
    go_upto_region 11 with (first
      | (go_at_call 8; refine (kW _).mono ?_; rintro e w8 ⟨rfl, rfl⟩)
      | (go_at_call 12; refine ku.mono ?_; rintro e w9 ⟨rfl, h9⟩))
    have h9u := up h9 (.cells #[.int .i64 3, .int .i64 0] 30)
    have hA8 := hA2.later h9u
    have x0 : (w9.alloc (.cells #[.int .i64 3, .int .i64 0] 30)).cell? ⟨Q, K, none⟩ = some (.int .i64 (errs.getD K 0)) := (hQ1.later h9u).cell (errRow_at K hK)
    have x2 : (w9.alloc (.cells #[.int .i64 3, .int .i64 0] 30)).cell? ⟨w1.heap.size, K, none⟩ = some (.int .i64 (errs.getD K 0)) := (hQ2.later h9u).cell (errRow_at K hK)
    have hV8 : Box (w9.alloc (.cells #[.int .i64 3, .int .i64 0] 30)) w9.heap.size #[.int .i64 3, .int .i64 0] 30 := Box.new w9 _ _ rfl
    have hb8 := hb2.trans (h9u.mono hb2.size)
    generalize w9.alloc (.cells #[.int .i64 3, .int .i64 0] 30) = W8 at hA8 x0 x2 hV8 hb8 ⊢
    generalize w9.heap.size = V8 at hV8 ⊢
    generalize w1.heap.size = Q2 at x2 ⊢
    clear hA2 hQ1 hQ2 hb2 ku h9 h9u kW
    refine wp_region_rely (fun w1 => Below W8.heap.size W8 w1) (fun w1 w2 => Below w1.heap.size w1 w2) (errG L Q Q2 K) (by kernel_rfl) (by kernel_rfl) (Below.refl _ _).drew ?keep ?step ?rest
    case keep =>
      intro i v w1 w2 hS hF
      unfold errG at *
      split at hF <;> try exact hF
    case step =>
      intro i o d ho hd b w1 hR hold hdep
      have o3 : sl b 3 = .pointer (some ⟨L, 0, none⟩) := hold 3 (by kernel_rfl)
      have o5 : sl b 5 = .slice (some ⟨Q, 0, none⟩) 13 13 := hold 5 (by kernel_rfl)
      have o6 : sl b 6 = .slice (some ⟨Q2, 0, none⟩) 13 13 := hold 6 (by kernel_rfl)
      have o7 : sl b 7 = .int .i64 K := hold 7 (by kernel_rfl)
      have o8 : sl b 8 = .pointer (some ⟨V8, 0, none⟩) := hold 8 (by kernel_rfl)
      have o9 : sl b 9 = .int .i64 1 := hold 9 (by kernel_rfl)
      have hb0 := Below.refl w1.heap.size w1
      have y0 : w1.cell? ⟨Q, K, none⟩ = some (.int .i64 (errs.getD K 0)) := cell_below hR x0 (block_lt x0)
      have y2 : w1.cell? ⟨Q2, K, none⟩ = some (.int .i64 (errs.getD K 0)) := cell_below hR x2 (block_lt x2)
      have y4 := (hV8.later hR).cell (i := 0) rfl
      have y5 := (hV8.later hR).cell (i := 1) rfl
      have hK' : (K : Int) < 13 := by omega
      rcases i with _ | _ | _ | _ | _ | _ | _ | _ | _ | _ | _ | _ | _ | _ | _ | _ | _ | _ | _ | _ | _ | _ | _ | _ | _ | i
      all_goals try (cases ho; cases hd)
      · exact ok_val' rfl rfl (want_none rfl b) (by simp [go_sem, o5]) hR hb0 rfl
      · exact ok_val' rfl rfl (want_none rfl b) (by simp [go_sem, o7]) hR hb0 rfl
      · have f82 : sl b 82 = .slice (some ⟨Q, 0, none⟩) 13 13 := hdep 0 _ _ rfl rfl (by kernel_rfl)
        have f83 : sl b 83 = .int .i64 K := hdep 1 _ _ rfl rfl (by kernel_rfl)
        exact ok_val' rfl rfl (want_none rfl b) (by simp [go_sem, f82, f83, hK']) hR hb0 rfl
      · have f84 : sl b 84 = .pointer (some ⟨Q, K, none⟩) := hdep 2 _ _ rfl rfl (by kernel_rfl)
        exact ok_val' rfl rfl (want_none rfl b) (by simp [go_sem, f84, y0]) hR hb0 rfl
      · exact ok_val' rfl rfl (want_none rfl b) (by simp [go_sem, o6]) hR hb0 rfl
      · exact ok_val' rfl rfl (want_none rfl b) (by simp [go_sem, o7]) hR hb0 rfl
      · have f86 : sl b 86 = .slice (some ⟨Q2, 0, none⟩) 13 13 := hdep 4 _ _ rfl rfl (by kernel_rfl)
        have f87 : sl b 87 = .int .i64 K := hdep 5 _ _ rfl rfl (by kernel_rfl)
        exact ok_val' rfl rfl (want_none rfl b) (by simp [go_sem, f86, f87, hK']) hR hb0 rfl
      · have f88 : sl b 88 = .pointer (some ⟨Q2, K, none⟩) := hdep 6 _ _ rfl rfl (by kernel_rfl)
        exact ok_val' rfl rfl (want_none rfl b) (by simp [go_sem, f88, y2]) hR hb0 rfl
      · have f85 : sl b 85 = .int .i64 (errs.getD K 0) := hdep 3 _ _ rfl rfl (by kernel_rfl)
        have f89 : sl b 89 = .int .i64 (errs.getD K 0) := hdep 7 _ _ rfl rfl (by kernel_rfl)
        exact ok_val' rfl rfl (want_none rfl b) (by simp [go_sem, f85, f89]) hR hb0 rfl
      · have f90 : sl b 90 = .bool true := hdep 8 _ _ rfl rfl (by kernel_rfl)
        exact ok_val' rfl rfl (want_none rfl b) (by simp [go_sem, f90]) hR hb0 rfl
      · have f91 : sl b 91 = .bool true := hdep 9 _ _ rfl rfl (by kernel_rfl)
        exact ok_val' rfl rfl (want 9 91 rfl rfl f91) (by simp [go_sem, o8, y4, y5]) hR hb0 rfl
      · have f91 : sl b 91 = .bool true := hdep 9 _ _ rfl rfl (by kernel_rfl)
        exact ok_val' rfl rfl (want 9 91 rfl rfl f91) (by simp [go_sem]) hR hb0 rfl
      · have f92 : sl b 92 = .agg #[.int .i64 3, .int .i64 0] := hdep 10 _ _ rfl rfl (by kernel_rfl)
        have f93 : sl b 93 = .agg #[.int .i64 3, .int .i64 0] := hdep 11 _ _ rfl rfl (by kernel_rfl)
        have f91 : sl b 91 = .bool true := hdep 9 _ _ rfl rfl (by kernel_rfl)
        exact ok_val' rfl rfl (want 9 91 rfl rfl f91) (by simp [go_sem, f92, f93, eqVec]) hR hb0 rfl
      · have f91 : sl b 91 = .bool true := hdep 9 _ _ rfl rfl (by kernel_rfl)
        have f94 : sl b 94 = .bool true := hdep 12 _ _ rfl rfl (by kernel_rfl)
        exact ok_val' rfl rfl (want_none rfl b) (by simp [go_sem, f91, f94]) hR hb0 rfl
      · have f95 : sl b 95 = .bool true := hdep 13 _ _ rfl rfl (by kernel_rfl)
        exact ok_val' rfl rfl (want_none rfl b) (by simp [go_sem, f95]) hR hb0 rfl
      · have f96 : sl b 96 = .bool true := hdep 14 _ _ rfl rfl (by kernel_rfl)
        exact ok_val' rfl rfl (want 14 96 rfl rfl f96) (by simp [go_sem, o9]) hR hb0 rfl
      · have f97 : sl b 97 = .int .i64 1 := hdep 15 _ _ rfl rfl (by kernel_rfl)
        have f96 : sl b 96 = .bool true := hdep 14 _ _ rfl rfl (by kernel_rfl)
        exact ok_val' rfl rfl (want 14 96 rfl rfl f96) (by simp [go_sem, f97]) hR hb0 rfl
      · have f96 : sl b 96 = .bool true := hdep 14 _ _ rfl rfl (by kernel_rfl)
        have f98 : sl b 98 = .bool true := hdep 16 _ _ rfl rfl (by kernel_rfl)
        exact ok_val' rfl rfl (want_none rfl b) (by simp [go_sem, f96, f98]) hR hb0 rfl
      · have f99 : sl b 99 = .bool true := hdep 17 _ _ rfl rfl (by kernel_rfl)
        exact ok_val' rfl rfl (want_none rfl b) (by simp [go_sem, f99]) hR hb0 rfl
      · have f100 : sl b 100 = .bool true := hdep 18 _ _ rfl rfl (by kernel_rfl)
        exact ok_val' rfl rfl (want 18 100 rfl rfl f100) (by simp [go_sem, o3]) hR hb0 rfl
      · have f101 : sl b 101 = .pointer (some ⟨L, 0, none⟩) := hdep 19 _ _ rfl rfl (by kernel_rfl)
        have f100 : sl b 100 = .bool true := hdep 18 _ _ rfl rfl (by kernel_rfl)
        refine ok_enter' rfl rfl (want 18 100 rfl rfl f100) ?_ ((nodes_one w1 L fp r5 _ (hA8.later hR).one).mono ?_)
        · simp [go_sem, f101, cf16]
        rintro e w2 ⟨g, c, r1, rfl, _, _, _, hb2⟩
        exact ⟨_, rfl, hR.trans (hb2.mono hR.size), hb2, g, c, rfl, trivial⟩
      · obtain ⟨B20, c20, f102, g102⟩ : ∃ B c, sl b 102 = .slice (some ⟨B, 0, none⟩) 1 c ∧ True := hdep 20 _ _ rfl rfl (by kernel_rfl)
        have f100 : sl b 100 = .bool true := hdep 18 _ _ rfl rfl (by kernel_rfl)
        exact ok_val' rfl rfl (want 18 100 rfl rfl f100) (by simp [go_sem, f102]) hR hb0 rfl
      · have f103 : sl b 103 = .int .i64 1 := hdep 21 _ _ rfl rfl (by kernel_rfl)
        have f100 : sl b 100 = .bool true := hdep 18 _ _ rfl rfl (by kernel_rfl)
        exact ok_val' rfl rfl (want 18 100 rfl rfl f100) (by simp [go_sem, f103]) hR hb0 rfl
      · have f100 : sl b 100 = .bool true := hdep 18 _ _ rfl rfl (by kernel_rfl)
        have f104 : sl b 104 = .bool true := hdep 22 _ _ rfl rfl (by kernel_rfl)
        exact ok_val' rfl rfl (want_none rfl b) (by simp [go_sem, f100, f104]) hR hb0 rfl
      · have f105 : sl b 105 = .bool true := hdep 23 _ _ rfl rfl (by kernel_rfl)
        exact ok_val' rfl rfl (want_none rfl b) (by simp [go_sem, f105]) hR hb0 rfl
      · cases ho
    case rest =>
      intro b w1 hR hsz hdf hold hF
      have f3 : sl b 3 = .pointer (some ⟨L, 0, none⟩) := hold 3 (by kernel_rfl)
      have f5 : sl b 5 = .slice (some ⟨Q, 0, none⟩) 13 13 := hold 5 (by kernel_rfl)
      have f6 : sl b 6 = .slice (some ⟨Q2, 0, none⟩) 13 13 := hold 6 (by kernel_rfl)
      have f7 : sl b 7 = .int .i64 K := hold 7 (by kernel_rfl)
      have f8 : sl b 8 = .pointer (some ⟨V8, 0, none⟩) := hold 8 (by kernel_rfl)
      have f9 : sl b 9 = .int .i64 1 := hold 9 (by kernel_rfl)
      have f2 : sl b 2 = .bool true := hF 24 _ _ rfl rfl
      go_wp2
      exact bodyPost_ret (by simp [results, Try.results5, go_sem, f2]) hdf ⟨rfl, hb8.trans (hR.mono hb8.size)⟩

end Go.Proofs.Ytcmgpbdciifdmab
