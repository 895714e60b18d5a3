/- The walk of MarkLong: it returns true. -/
import Derived.Test.YtkiamgfmclodmabR
import Derived.Test.YtkiamgfmclodmabP
namespace Go.Proofs.Ytkiamgfmclodmab
open Go.RowKit

/-- A piece that may stand in a name, first too. -/
abbrev Good : ByteArray → Nat → Prop := fun _ r => ∀ p, goodR p (r : Int) = true

theorem good_of (r : Nat) (h : (goodR 0 (r : Int) && goodR 1 (r : Int)) = true) (p : Nat) : goodR p (r : Int) = true := by
  rw [Bool.and_eq_true] at h
  cases p with
  | zero => exact h.1
  | succ p => rw [← h.2]; simp [goodR]

theorem long_piece (s : ByteArray) (k : Nat) (hB : Built Good k s) (q : Int) (h0 : 0 ≤ q) (h : q < 4) : 
    (q = 0 ∧ Built Good (k + 1) (s ++ ⟨#[97]⟩)) ∨ (q = 1 ∧ Built Good (k + 1) (s ++ ⟨#[206, 177]⟩)) ∨ (q = 2 ∧ Built Good (k + 1) (s ++ ⟨#[207, 137]⟩)) ∨ (q = 3 ∧ Built Good (k + 1) (s ++ ⟨#[107]⟩)) := by
  rcases (by omega : q = 0 ∨ q = 1 ∨ q = 2 ∨ q = 3) with rfl | rfl | rfl | rfl
  · exact .inl ⟨rfl, hB.snoc (whole1 97 (by decide)) (by decide) (good_of _ (by decide))⟩
  · exact .inr (.inl ⟨rfl, hB.snoc (whole2 206 177 (by decide) (by decide) (by decide)) (by decide) (good_of _ (by decide))⟩)
  · exact .inr (.inr (.inl ⟨rfl, hB.snoc (whole2 207 137 (by decide) (by decide) (by decide)) (by decide) (good_of _ (by decide))⟩))
  · exact .inr (.inr (.inr ⟨rfl, hB.snoc (whole1 107 (by decide)) (by decide) (good_of _ (by decide))⟩))

set_option maxRecDepth 100000 in
set_option maxHeartbeats 4000000 in
theorem markLong_walk (a0 : Int) (a1 : Option Addr) (len1 cap1 : Nat) (z1 : List Int) (w : World) (_w0 : (Lit.int .i64 a0).wf = true) (w1 : IsRow .i64 w a1 len1 cap1 z1) :
    Calls Try.prog 3 #[.int .i64 a0, .slice a1 len1 cap1] w fun e w' => e = .returned (.bool true) ∧ Below w.heap.size w w' := by
  obtain ⟨K, hK⟩ : ∃ K : Nat, a0 % 14 = (K : Int) := ⟨(a0 % 14).toNat, by omega⟩
  have hK1 : K < 14 := by omega
  have hb0 : Below w.heap.size w w := Below.refl _ _
  rcases w1 with ⟨rfl, rfl, rfl, rfl⟩ | ⟨x, rfl, hl, hm, hz, hc, hw⟩
  · go_enter Try.func3, Try.ntmps3
    go_wp2_with (first
      | (go_at_call 7; refine (known_on _ _ (by assumption)).mono ?_; rintro e w1 ⟨rfl, hb1⟩)
      | (go_at_call 8; refine (within_any _ _ _ (by decide) (by decide) (by assumption) _).mono ?_; rintro e w2 ⟨rfl, rfl⟩))
    go_loopw [6, 7] (fun v i wr => ∃ (k : Nat) (s : ByteArray), k ≤ K ∧ i = .int .i64 k ∧ v = .string s ∧ Built Good k s ∧ Below w.heap.size w wr) (fun _ i _ => K - (intOf i).toNat)
    case atStart => exact ⟨0, _, Nat.zero_le _, rfl, rfl, Built.nil _, hb1⟩
    case round =>
      clear hb1 hK hb0
      obtain ⟨k, s, hk, rfl, rfl, hB, hbw⟩ := hrel
      have hsz := hB.size
      by_cases hlt : k < K
      · obtain ⟨q, hq⟩ : ∃ q, (k : Int) % 4 = q := ⟨_, rfl⟩
        rcases long_piece s k hB q (by omega) (by omega) with ⟨rfl, hB2⟩ | ⟨rfl, hB2⟩ | ⟨rfl, hB2⟩ | ⟨rfl, hB2⟩
        all_goals
          go_wp2_with (go_at_call 8; refine (within_any _ _ _ (by decide) (by decide) (by assumption) _).mono ?_; rintro e w2 ⟨rfl, rfl⟩)
          go_roundw
          case rel => exact ⟨k + 1, _, hlt, by go_num, rfl, hB2, hbw.alloc hbw.size _⟩
          case measure => simp [intOf]; omega
      · have e1 : k = K := by omega
        subst e1
        have hn : isName s = (decide ((1 : Int) ≤ k) && decide ((k : Int) ≤ 8)) := by
          rw [hB.name, Bool.eq_iff_iff]; simp; omega
        have hct : (count s : Int) = k := by rw [hB.count]
        have m1 : s.size ≤ maxLen := by unfold maxLen; omega
        clear hB hK1 hsz hlt
        by_cases c1 : (1 : Int) ≤ k <;> by_cases c2 : (k : Int) ≤ 8 <;> simp only [c1, c2, decide_true, decide_false, Bool.and_true, Bool.and_false, Bool.and_self] at hn
        all_goals
          (go_wp2_with (first
            | (go_at_call 9; refine (name_on _ _ _ _ (by assumption) (by assumption)).mono ?_; rintro e w1 ⟨rfl, hb1⟩)
            | (go_at_call 10; refine (runes_on _ _ _ _ (by assumption) (by assumption) (by assumption)).mono ?_; rintro e w1 ⟨rfl, hb1⟩))) <;>
          (go_ret
           exact ⟨by first | rfl | (simp; omega), by assumption⟩)
  · go_enter Try.func3, Try.ntmps3
    go_wp2_with (first
      | (go_at_call 7; refine (known_on _ _ (by assumption)).mono ?_; rintro e w1 ⟨rfl, hb1⟩)
      | (go_at_call 8; refine (within_any _ _ _ (by decide) (by decide) (by assumption) _).mono ?_; rintro e w2 ⟨rfl, rfl⟩))
    go_loopw [6, 7] (fun v i wr => ∃ (k : Nat) (s : ByteArray), k ≤ K ∧ i = .int .i64 k ∧ v = .string s ∧ Built Good k s ∧ Below w.heap.size w wr) (fun _ i _ => K - (intOf i).toNat)
    case atStart => exact ⟨0, _, Nat.zero_le _, rfl, rfl, Built.nil _, hb1⟩
    case round =>
      clear hb1 hK hb0 hw
      obtain ⟨k, s, hk, rfl, rfl, hB, hbw⟩ := hrel
      have hsz := hB.size
      by_cases hlt : k < K
      · by_cases hlen : k < len1
        · obtain ⟨z, hz1⟩ : ∃ z, z1.getD k 0 = z := ⟨_, rfl⟩
          have hcz : wr.cell? (x.add k) = some (.int .i64 z) := by
            rw [← hz1]; exact cell_below hbw (hc k (by omega)) (block_lt (hc k (by omega)))
          obtain ⟨q, hq⟩ : ∃ q, z % 4 = q := ⟨_, rfl⟩
          clear hc hz1
          rcases long_piece s k hB q (by omega) (by omega) with ⟨rfl, hB2⟩ | ⟨rfl, hB2⟩ | ⟨rfl, hB2⟩ | ⟨rfl, hB2⟩
          all_goals
            go_wp2_with (go_at_call 8; refine (within_any _ _ _ (by decide) (by decide) (by assumption) _).mono ?_; rintro e w2 ⟨rfl, rfl⟩)
            go_roundw
            case rel => exact ⟨k + 1, _, hlt, by go_num, rfl, hB2, hbw.alloc hbw.size _⟩
            case measure => simp [intOf]; omega
        · obtain ⟨q, hq⟩ : ∃ q, (k : Int) % 4 = q := ⟨_, rfl⟩
          clear hc
          rcases long_piece s k hB q (by omega) (by omega) with ⟨rfl, hB2⟩ | ⟨rfl, hB2⟩ | ⟨rfl, hB2⟩ | ⟨rfl, hB2⟩
          all_goals
            go_wp2_with (go_at_call 8; refine (within_any _ _ _ (by decide) (by decide) (by assumption) _).mono ?_; rintro e w2 ⟨rfl, rfl⟩)
            go_roundw
            case rel => exact ⟨k + 1, _, hlt, by go_num, rfl, hB2, hbw.alloc hbw.size _⟩
            case measure => simp [intOf]; omega
      · have e1 : k = K := by omega
        subst e1
        clear hc
        have hn : isName s = (decide ((1 : Int) ≤ k) && decide ((k : Int) ≤ 8)) := by
          rw [hB.name, Bool.eq_iff_iff]; simp; omega
        have hct : (count s : Int) = k := by rw [hB.count]
        have m1 : s.size ≤ maxLen := by unfold maxLen; omega
        clear hB hK1 hsz hlt
        by_cases c1 : (1 : Int) ≤ k <;> by_cases c2 : (k : Int) ≤ 8 <;> simp only [c1, c2, decide_true, decide_false, Bool.and_true, Bool.and_false, Bool.and_self] at hn
        all_goals
          (go_wp2_with (first
            | (go_at_call 9; refine (name_on _ _ _ _ (by assumption) (by assumption)).mono ?_; rintro e w1 ⟨rfl, hb1⟩)
            | (go_at_call 10; refine (runes_on _ _ _ _ (by assumption) (by assumption) (by assumption)).mono ?_; rintro e w1 ⟨rfl, hb1⟩))) <;>
          (go_ret
           exact ⟨by first | rfl | (simp; omega), by assumption⟩)

end Go.Proofs.Ytkiamgfmclodmab
