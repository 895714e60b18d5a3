/- The walk of MarkFive: it returns true. -/
import Derived.Test.YtkiamgfmclodmabA
namespace Go.Proofs.Ytkiamgfmclodmab
open Go.RowKit Go.Maps

/-- The eight marks. -/
def five : List ByteArray := [⟨#[97]⟩, ⟨#[98]⟩, ⟨#[99]⟩, ⟨#[100]⟩, ⟨#[101]⟩, ⟨#[102]⟩, ⟨#[206, 177]⟩, ⟨#[206, 178]⟩]

/-- They lie in this block. -/
def Row8 (w : World) (L : Nat) : Prop := ∀ j, j < 8 → w.cell? ⟨L, j, none⟩ = some (.string (five.getD j ByteArray.empty))

theorem Row8.later {w w1 : World} {L : Nat} (h : Row8 w L) (hb : Below w.heap.size w w1) : Row8 w1 L := fun j hj => cell_below hb (h j hj) (block_lt (h j hj))

theorem row8_new (w : World) : Row8 (w.alloc (.cells #[.string ⟨#[97]⟩, .string ⟨#[98]⟩, .string ⟨#[99]⟩, .string ⟨#[100]⟩, .string ⟨#[101]⟩, .string ⟨#[102]⟩, .string ⟨#[206, 177]⟩, .string ⟨#[206, 178]⟩] 9)) w.heap.size := by
  intro j hj
  rcases (by omega : j = 0 ∨ j = 1 ∨ j = 2 ∨ j = 3 ∨ j = 4 ∨ j = 5 ∨ j = 6 ∨ j = 7) with rfl | rfl | rfl | rfl | rfl | rfl | rfl | rfl <;> simp [five]

/-- A part of them. -/
def part8 (t k : Nat) : List ByteArray := (five.drop t).take k

theorem part8_length (t k : Nat) (h : t + k ≤ 8) : (part8 t k).length = k := by simp [part8, five]; omega
theorem part8_at (t k i : Nat) (hi : i < k) : (part8 t k).getD i ByteArray.empty = five.getD (t + i) ByteArray.empty := by
  simp [part8, hi]

theorem Row8.strs {w : World} {L : Nat} (h : Row8 w L) (t k : Nat) (hk : t + k ≤ 8) : Strs w (some ⟨L, t, none⟩) (part8 t k) := by
  refine ⟨by rw [part8_length t k hk]; omega, fun i hi => ?_⟩
  rw [part8_length t k hk] at hi
  refine ⟨_, rfl, ?_⟩
  rw [part8_at t k i hi, ← h (t + i) (by omega)]
  congr 1
  unfold Addr.add
  split
  · next h => rw [h]; rfl
  · rfl

theorem five_sets : ((List.range 9).all fun t => (List.range 9).all fun k => !decide (t + k ≤ 8) || (setB (part8 t k) == decide (k ≤ 4))) = true := by decide +kernel
theorem five_alls : ((List.range 9).all fun t => (List.range 9).all fun k => !decide (t + k ≤ 8) || allB (part8 t k) five) = true := by decide +kernel

theorem five_set (t k : Nat) (h : t + k ≤ 8) : setB (part8 t k) = decide (k ≤ 4) := by
  have h1 := List.all_eq_true.1 (List.all_eq_true.1 five_sets t (List.mem_range.2 (by omega))) k (List.mem_range.2 (by omega))
  simpa [h] using h1
theorem five_all (t k : Nat) (h : t + k ≤ 8) : allB (part8 t k) five = true := by
  have h1 := List.all_eq_true.1 (List.all_eq_true.1 five_alls t (List.mem_range.2 (by omega))) k (List.mem_range.2 (by omega))
  simpa [h] using h1

theorem getD_size (l : List ByteArray) (h : l.all (fun s => decide (s.size ≤ 100)) = true) (i : Nat) : (l.getD i ByteArray.empty).size ≤ maxLen := by
  by_cases hi : i < l.length
  · have h1 := List.all_eq_true.1 h (l[i]) (List.getElem_mem hi)
    simp only [List.getD, List.getElem?_eq_getElem hi, Option.getD_some]
    have h2 : l[i].size ≤ 100 := of_decide_eq_true h1
    unfold maxLen
    omega
  · simp only [List.getD, List.getElem?_eq_none (Nat.le_of_not_lt hi), Option.getD_none]
    exact Nat.zero_le _

theorem five_size (i : Nat) : (five.getD i ByteArray.empty).size ≤ maxLen := getD_size five (by decide) i
theorem part8_size (t k i : Nat) : ((part8 t k).getD i ByteArray.empty).size ≤ maxLen := by
  refine getD_size _ (List.all_eq_true.2 fun x hx => ?_) i
  have h : five.all (fun s => decide (s.size ≤ 100)) = true := by decide
  exact List.all_eq_true.1 h x (List.mem_of_mem_drop (List.mem_of_mem_take hx))

theorem five_set_on (L t k cap : Nat) (b : Bool) (w0 W : World) (hR : Row8 W L) (hk : t + k ≤ 8) (hb : decide ((k : Int) ≤ 4) = b) (h0 : Below w0.heap.size w0 W) :
    Calls Try.prog 13 #[.slice (some ⟨L, t, none⟩) k cap] W fun e w' => e = .returned (.bool b) ∧ Row8 w' L ∧ Below w0.heap.size w0 w' := by
  have h := set_any (some ⟨L, t, none⟩) cap (part8 t k) W (hR.strs t k hk)
  rw [part8_length t k hk, five_set t k hk] at h
  refine h.mono fun e w' h => ⟨?_, hR.later h.2, h0.trans (h.2.mono h0.size)⟩
  rw [h.1, ← hb]
  congr 2
  exact decide_eq_decide.2 (by omega)

theorem five_all_on (L t k cap cap2 : Nat) (w0 W : World) (hR : Row8 W L) (hk : t + k ≤ 8) (h0 : Below w0.heap.size w0 W) :
    Calls Try.prog 14 #[.slice (some ⟨L, t, none⟩) k cap, .slice (some ⟨L, 0, none⟩) 8 cap2] W fun e w' => e = .returned (.bool true) ∧ Row8 w' L ∧ Below w0.heap.size w0 w' := by
  have h := all_any (some ⟨L, t, none⟩) cap (part8 t k) (some ⟨L, 0, none⟩) cap2 five W (hR.strs t k hk) (hR.strs 0 8 (by omega)) (part8_size t k) five_size
  rw [part8_length t k hk, five_all t k hk] at h
  exact h.mono fun e w' h => ⟨h.1, hR.later h.2, h0.trans (h.2.mono h0.size)⟩

set_option maxRecDepth 100000 in
set_option maxHeartbeats 4000000 in
theorem markFive_walk (n m : Int) (_h0 : (Lit.int .i64 n).wf = true) (_h1 : (Lit.int .i64 m).wf = true) (w : World) :
    Calls Try.prog 6 #[.int .i64 n, .int .i64 m] w fun e w' => e = .returned (.bool true) ∧ Below w.heap.size w w' := by
  obtain ⟨k, hk⟩ : ∃ k : Nat, n % 8 = (k : Int) := ⟨(n % 8).toNat, by omega⟩
  have k8 : (k : Int) < 8 := by omega
  obtain ⟨t, ht⟩ : ∃ t : Nat, m % (8 - (k : Int) + 1) = (t : Int) := ⟨(m % (8 - (k : Int) + 1)).toNat, by have := Int.emod_nonneg m (show 8 - (k : Int) + 1 ≠ 0 by omega); omega⟩
  have ht1 : (t : Int) ≤ 8 - (k : Int) := by have := Int.emod_lt_of_pos m (show 0 < 8 - (k : Int) + 1 by omega); omega
  have hb0 : Below w.heap.size w w := Below.refl _ _
  by_cases t8 : t = 8
  · obtain rfl : k = 0 := by omega
    subst t8
    clear ht1 k8
    go_enter Try.func6, Try.ntmps6
    go_wp2_with (first
      | (go_at_call 7; refine (known_on _ _ (by assumption)).mono ?_; rintro e w9 ⟨rfl, hb1⟩; have hR := row8_new w9; have hb2 := fun o => hb1.alloc hb1.size o)
      | (go_at_call 8; refine (within_any _ _ _ (by omega) (by omega) (by assumption) _).mono ?_; rintro e w2 ⟨rfl, rfl⟩)
      | (go_at_call 13; refine (five_set_on _ 0 0 _ _ _ _ (by assumption) (by decide) rfl (by first | assumption | exact hb2 _)).mono ?_; rintro e w8 ⟨rfl, hR8, hb8⟩)
      | (go_at_call 14; refine (five_all_on _ 0 0 _ _ _ _ (by assumption) (by decide) (by first | assumption | exact hb2 _)).mono ?_; rintro e w8 ⟨rfl, hR8, hb8⟩))
    go_ret
    exact ⟨rfl, by assumption⟩
  · have t7 : (t : Int) < 8 := by omega
    have tk : t + k ≤ 8 := by omega
    by_cases k4 : (k : Int) ≤ 4
    · have hbt : decide ((k : Int) ≤ 4) = true := by simpa using k4
      go_enter Try.func6, Try.ntmps6
      go_wp2_with (first
        | (go_at_call 7; refine (known_on _ _ (by assumption)).mono ?_; rintro e w9 ⟨rfl, hb1⟩; have hR := row8_new w9; have hb2 := fun o => hb1.alloc hb1.size o)
        | (go_at_call 8; refine (within_any _ _ _ (by omega) (by omega) (by assumption) _).mono ?_; rintro e w2 ⟨rfl, rfl⟩)
        | (go_at_call 13; refine (five_set_on _ t k _ _ _ _ (by assumption) (by omega) hbt (by first | assumption | exact hb2 _)).mono ?_; rintro e w8 ⟨rfl, hR8, hb8⟩)
        | (go_at_call 14; refine (five_all_on _ t k _ _ _ _ (by assumption) (by omega) (by first | assumption | exact hb2 _)).mono ?_; rintro e w8 ⟨rfl, hR8, hb8⟩))
      go_ret
      exact ⟨rfl, by assumption⟩
    · have hbt : decide ((k : Int) ≤ 4) = false := by simpa using k4
      go_enter Try.func6, Try.ntmps6
      go_wp2_with (first
        | (go_at_call 7; refine (known_on _ _ (by assumption)).mono ?_; rintro e w9 ⟨rfl, hb1⟩; have hR := row8_new w9; have hb2 := fun o => hb1.alloc hb1.size o)
        | (go_at_call 8; refine (within_any _ _ _ (by omega) (by omega) (by assumption) _).mono ?_; rintro e w2 ⟨rfl, rfl⟩)
        | (go_at_call 13; refine (five_set_on _ _ _ _ _ _ _ (by assumption) (by omega) (by first | exact hbt | exact rfl) (by first | assumption | exact hb2 _)).mono ?_; rintro e w8 ⟨rfl, hR8, hb8⟩)
        | (go_at_call 14; refine (five_all_on _ t k _ _ _ _ (by assumption) (by omega) (by first | assumption | exact hb2 _)).mono ?_; rintro e w8 ⟨rfl, hR8, hb8⟩))
      go_ret
      exact ⟨rfl, by assumption⟩

end Go.Proofs.Ytkiamgfmclodmab
