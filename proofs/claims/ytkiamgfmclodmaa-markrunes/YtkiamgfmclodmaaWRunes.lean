/- The walk of MarkRunes: it returns true. -/
import Derived.Test.YtkiamgfmclodmaaR
import Derived.Test.YtkiamgfmclodmaaP
namespace Go.Proofs.Ytkiamgfmclodmaa
open Go.RowKit

/-- Any piece. -/
abbrev Any : ByteArray → Nat → Prop := fun _ _ => True

theorem runes_piece (s : ByteArray) (k : Nat) (hB : Built Any k s) (q : Int) (h0 : 0 ≤ q) (h : q < 6) :
    (q = 0 ∧ Built Any (k + 1) (s ++ ⟨#[97]⟩)) ∨ (q = 1 ∧ Built Any (k + 1) (s ++ ⟨#[206, 177]⟩)) ∨ (q = 2 ∧ Built Any (k + 1) (s ++ ⟨#[226, 130, 172]⟩)) ∨ (q = 3 ∧ Built Any (k + 1) (s ++ ⟨#[240, 159, 152, 128]⟩)) ∨ (q = 4 ∧ Built Any (k + 1) (s ++ ⟨#[255]⟩)) ∨ (q = 5 ∧ Built Any (k + 1) (s ++ ⟨#[32]⟩)) := by
  rcases (by omega : q = 0 ∨ q = 1 ∨ q = 2 ∨ q = 3 ∨ q = 4 ∨ q = 5) with rfl | rfl | rfl | rfl | rfl | rfl
  · exact .inl ⟨rfl, hB.snoc (whole1 97 (by decide)) (by decide) trivial⟩
  · exact .inr (.inl ⟨rfl, hB.snoc (whole2 206 177 (by decide) (by decide) (by decide)) (by decide) trivial⟩)
  · exact .inr (.inr (.inl ⟨rfl, hB.snoc (whole3 226 130 172 (by decide) (by decide) (by decide) (by decide) (by decide)) (by decide) trivial⟩))
  · exact .inr (.inr (.inr (.inl ⟨rfl, hB.snoc (whole4 240 159 152 128 (by decide) (by decide) (by decide) (by decide) (by decide) (by decide)) (by decide) trivial⟩)))
  · exact .inr (.inr (.inr (.inr (.inl ⟨rfl, hB.snoc (whole0 255 (by decide)) (by decide) trivial⟩))))
  · exact .inr (.inr (.inr (.inr (.inr ⟨rfl, hB.snoc (whole1 32 (by decide)) (by decide) trivial⟩))))

theorem runes_piece2 (s : ByteArray) (k : Nat) (hB : Built Any k s) (q : Int) (h0 : 0 ≤ q) (h : q < 4) :
    (q = 0 ∧ Built Any (k + 1) (s ++ ⟨#[98]⟩)) ∨ (q = 1 ∧ Built Any (k + 1) (s ++ ⟨#[207, 137]⟩)) ∨ (q = 2 ∧ Built Any (k + 1) (s ++ ⟨#[237, 149, 156]⟩)) ∨ (q = 3 ∧ Built Any (k + 1) (s ++ ⟨#[240, 157, 132, 158]⟩)) := by
  rcases (by omega : q = 0 ∨ q = 1 ∨ q = 2 ∨ q = 3) with rfl | rfl | rfl | rfl
  · exact .inl ⟨rfl, hB.snoc (whole1 98 (by decide)) (by decide) trivial⟩
  · exact .inr (.inl ⟨rfl, hB.snoc (whole2 207 137 (by decide) (by decide) (by decide)) (by decide) trivial⟩)
  · exact .inr (.inr (.inl ⟨rfl, hB.snoc (whole3 237 149 156 (by decide) (by decide) (by decide) (by decide) (by decide)) (by decide) trivial⟩))
  · exact .inr (.inr (.inr ⟨rfl, hB.snoc (whole4 240 157 132 158 (by decide) (by decide) (by decide) (by decide) (by decide) (by decide)) (by decide) trivial⟩))

theorem seven7 (k : Int) (h0 : 0 ≤ k) (h : k < 7) : k = 0 ∨ k = 1 ∨ k = 2 ∨ k = 3 ∨ k = 4 ∨ k = 5 ∨ k = 6 := by omega

theorem cut0 : (count ⟨#[]⟩ : Int) = 0 := by decide +kernel
theorem cut1 : (count ⟨#[206]⟩ : Int) = 1 := by decide +kernel
theorem cut2 : (count ⟨#[206, 177]⟩ : Int) = 1 := by decide +kernel
theorem cut3 : (count ⟨#[206, 177, 206]⟩ : Int) = 2 := by decide +kernel
theorem cut4 : (count ⟨#[206, 177, 206, 178]⟩ : Int) = 2 := by decide +kernel
theorem cut5 : (count ⟨#[206, 177, 206, 178, 206]⟩ : Int) = 3 := by decide +kernel
theorem cut6 : (count ⟨#[206, 177, 206, 178, 206, 179]⟩ : Int) = 3 := by decide +kernel

set_option maxRecDepth 100000 in
set_option maxHeartbeats 8000000 in
theorem markRunes_walk (a0 : Option Addr) (len0 cap0 : Nat) (z0 : List Int) (a1 : Option Addr) (len1 cap1 : Nat) (z1 : List Int) (a2 : Int) (w : World) (w0 : IsRow .i64 w a0 len0 cap0 z0) (w1 : IsRow .i64 w a1 len1 cap1 z1) (_w2 : (Lit.int .i64 a2).wf = true) :
    Calls Try.prog 5 #[.slice a0 len0 cap0, .slice a1 len1 cap1, .int .i64 a2] w fun e w' => e = .returned (.bool true) ∧ Below w.heap.size w w' := by
  replace w0 := w0.has
  replace w1 := w1.has
  obtain ⟨K, hK⟩ : ∃ K, a2 % 7 = K := ⟨_, rfl⟩
  have hb0 : Below w.heap.size w w := Below.refl _ _
  have l0 : len0 ≤ 9223372036854775807 := w0.1
  have l1 : len1 ≤ 9223372036854775807 := w1.1
  go_enter Try.func5, Try.ntmps5
  go_wp2_with (go_at_call 9; refine (known_on _ _ (by assumption)).mono ?_; rintro e w9 ⟨rfl, hb1⟩)
  go_loopw [7, 8, 9] (fun v n i wr => ∃ (k : Nat) (s : ByteArray), k ≤ 30 ∧ n = .int .i64 k ∧ i = .int .i64 k ∧ v = .string s ∧ Built Any k s ∧ Below w.heap.size w wr) (fun _ _ i _ => 30 - (intOf i).toNat)
  case atStart => exact ⟨0, _, Nat.zero_le _, rfl, rfl, rfl, Built.nil _, hb1⟩
  case round =>
    clear hb1 hb0
    obtain ⟨k, s, hk, rfl, rfl, rfl, hB, hbw⟩ := hrel
    have hsz := hB.size
    by_cases hlt : k < len0 ∧ k < 30
    · obtain ⟨hlen, h30⟩ := hlt
      obtain ⟨x, z, rfl, hcz⟩ := w0.at hbw (Nat.le_refl _) k hlen
      have hcz2 := fun o => cell_alloc hcz o
      clear w0 w1 hK
      obtain ⟨q, hq⟩ : ∃ q, z % 6 = q := ⟨_, rfl⟩
      rcases runes_piece s k hB q (by omega) (by omega) with ⟨rfl, hB2⟩ | ⟨rfl, hB2⟩ | ⟨rfl, hB2⟩ | ⟨rfl, hB2⟩ | ⟨rfl, hB2⟩ | ⟨rfl, hB2⟩
      all_goals
        go_wp2_with (go_at_call 11; refine (within_any _ _ _ (by decide) (by decide) (by assumption) _).mono ?_; rintro e w2 ⟨rfl, rfl⟩)
        go_roundw
        case rel => exact ⟨k + 1, _, h30, by go_num, by go_num, rfl, hB2, hbw.alloc hbw.size _⟩
        case measure => simp [intOf]; omega
    · rcases (by omega : len0 ≤ k ∨ (k < len0 ∧ 30 ≤ k)) with hx | ⟨hx, hx'⟩
      all_goals
        clear hlt w0
        go_wp2
        go_loopw [10, 11] (fun v i wr => ∃ (m : Nat) (t : ByteArray), m ≤ 30 ∧ i = .int .i64 m ∧ v = .string t ∧ Built Any m t ∧ Below w.heap.size w wr) (fun _ i _ => 30 - (intOf i).toNat)
        case atStart => exact ⟨0, _, Nat.zero_le _, rfl, rfl, Built.nil _, hbw⟩
        case round =>
          clear hbw
          obtain ⟨m, t, hm, rfl, rfl, hC, hbw⟩ := hrel
          have htz := hC.size
          by_cases hlt : m < len1 ∧ m < 30
          · obtain ⟨hlen, h30⟩ := hlt
            obtain ⟨x, z, rfl, hcz⟩ := w1.at hbw (Nat.le_refl _) m hlen
            have hcz2 := fun o => cell_alloc hcz o
            clear w1 hK
            obtain ⟨q, hq⟩ : ∃ q, z % 4 = q := ⟨_, rfl⟩
            rcases runes_piece2 t m hC q (by omega) (by omega) with ⟨rfl, hC2⟩ | ⟨rfl, hC2⟩ | ⟨rfl, hC2⟩ | ⟨rfl, hC2⟩
            all_goals
              go_wp2_with (go_at_call 11; refine (within_any _ _ _ (by decide) (by decide) (by assumption) _).mono ?_; rintro e w2 ⟨rfl, rfl⟩)
              go_roundw
              case rel => exact ⟨m + 1, _, h30, by go_num, rfl, hC2, hbw.alloc hbw.size _⟩
              case measure => simp [intOf]; omega
          · have c1 : (count s : Int) = k := by rw [hB.count]
            have c2 : (count t : Int) = m := by rw [hC.count]
            have c3 : (count (s ++ t) : Int) = (k : Int) + m := by rw [(hB.append hC).count]; omega
            have m1 : s.size ≤ maxLen := by unfold maxLen; omega
            have m2 : t.size ≤ maxLen := by unfold maxLen; omega
            have m3 : (s ++ t).size ≤ maxLen := by rw [ByteArray.size_append]; unfold maxLen; omega
            clear w1 hB hC
            rcases (by omega : len1 ≤ m ∨ (m < len1 ∧ 30 ≤ m)) with hy | ⟨hy, hy'⟩
            all_goals
              clear hlt
              rcases seven7 K (by omega) (by omega) with rfl | rfl | rfl | rfl | rfl | rfl | rfl
              all_goals
                go_wp2_with (first
                  | (go_at_call 11; refine (within_any _ _ _ (by decide) (by decide) (by assumption) _).mono ?_; rintro e w2 ⟨rfl, rfl⟩)
                  | (go_at_call 14; refine (runes_on _ _ _ _ (by assumption) (by first | assumption | decide) (by first | assumption | exact cut0 | exact cut1 | exact cut2 | exact cut3 | exact cut4 | exact cut5 | exact cut6)).mono ?_; rintro e w9 ⟨rfl, hb1⟩))
                go_ret
                exact ⟨rfl, by assumption⟩

end Go.Proofs.Ytkiamgfmclodmaa
