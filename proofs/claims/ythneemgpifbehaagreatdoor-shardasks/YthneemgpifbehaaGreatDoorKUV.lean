/- The statements' own Peers. -/
import Derived.Test.YthneemgpifbehaaGreatDoorMg24
import Derived.Test.YthneemgpifbehaaGreatDoorKi4
namespace Go.Proofs.YthneemgpifbehaaGreatDoor
open Go.RowKit
set_option linter.unusedSimpArgs false
set_option linter.unusedVariables false

/-- The shards by a number's bits, up to this one. -/
def peersTo (n : Int) : Nat → List Nat
  | 0 => []
  | k + 1 => peersTo n k ++ if n / 2 ^ (k + 1) % 2 = 1 ∨ (k + 1 = 4 ∧ peersTo n k = []) then [k + 1] else []

theorem peersTo_le (n : Int) : ∀ k, (peersTo n k).length ≤ k
  | 0 => by simp [peersTo]
  | k + 1 => by
    have := peersTo_le n k
    rw [peersTo, List.length_append]
    split
    · simp; omega
    · simp; omega

theorem peersTo_mem (n : Int) : ∀ k, ∀ x ∈ peersTo n k, 1 ≤ x ∧ x ≤ k
  | 0 => by simp [peersTo]
  | k + 1 => by
    intro x hx
    rw [peersTo] at hx
    rcases List.mem_append.1 hx with hx | hx
    · have := peersTo_mem n k x hx; omega
    · split at hx
      · simp at hx; omega
      · simp at hx

theorem rise_snoc (l : List Nat) : ∀ (q x : Nat), riseB q l = true → (∀ y ∈ l, y < x) → q < x → x ≤ 4 → riseB q (l ++ [x]) = true := by
  induction l with
  | nil => intro q x _ _ h1 h2; simp [riseB, h1, h2]
  | cons p l ih =>
    intro q x h hy hq hx
    simp only [riseB, Bool.and_eq_true, decide_eq_true_eq] at h
    simp only [List.cons_append, riseB, Bool.and_eq_true, decide_eq_true_eq]
    exact ⟨h.1, ih p x h.2 (fun y hm => hy y (by simp [hm])) (hy p (by simp)) hx⟩

theorem peersTo_rise (n : Int) : ∀ k, k ≤ 4 → riseB 0 (peersTo n k) = true
  | 0, _ => rfl
  | k + 1, h => by
    have h1 := peersTo_rise n k (by omega)
    rw [peersTo]
    split
    · exact rise_snoc _ 0 (k + 1) h1 (fun y hy => by have := peersTo_mem n k y hy; omega) (by omega) h
    · simpa using h1

theorem peersTo_pos (n : Int) : 0 < (peersTo n 4).length := by
  rw [peersTo]
  by_cases h : peersTo n 3 = []
  · rw [if_pos (.inr ⟨rfl, h⟩)]; simp
  · have : 0 < (peersTo n 3).length := List.length_pos_iff.2 h
    rw [List.length_append]; omega

theorem infoInt : (Tryz.prog.info? 3).map (fun i => (i.zero, i.size, i.bytes)) = some (some (.int .i64 0), 1, 8) := by kernel_rfl

set_option maxRecDepth 100000 in
set_option maxHeartbeats 8000000 in
theorem lPeers_any (n : Int) (w : World) :
    Calls Tryz.prog 28 #[.int .i64 n] w fun e w' => ∃ v, e = .returned v ∧ w'.ownsRow w.heap.size 3 1 v (peersTo n 4).length ((peersTo n 4).map natV) ∧ Below w.heap.size w w' := by
  obtain ⟨i0, hi, hz0, hz1, hz2⟩ := info_parts infoInt
  go_enter Tryz.func28, Tryz.ntmps28
  go_wp2
  go_loopw [3, 4] (fun v i wr => ∃ k : Nat, k ≤ 4 ∧ i = .int .i64 ((k : Int) + 1) ∧ wr.ownsRow w.heap.size 3 1 v (peersTo n k).length ((peersTo n k).map natV) ∧ Below w.heap.size w wr) (fun _ i _ => (6 - (intOf i)).toNat)
  case atStart => exact ⟨0, Nat.zero_le _, rfl, World.ownsRow_nil _ _ _ _, Below.refl _ _⟩
  case round =>
    obtain ⟨k, hk, rfl, hrow, hbw⟩ := hrel
    by_cases hlt : k < 4
    · obtain ⟨q, hq⟩ : ∃ q, n / 2 ^ (k + 1) % 2 = q := ⟨_, rfl⟩
      have hle := peersTo_le n k
      obtain ⟨ms, hms⟩ : ∃ ms, peersTo n k = ms := ⟨_, rfl⟩
      have hstep : Hid (peersTo n (k + 1) = ms ++ if q = 1 ∨ (k + 1 = 4 ∧ ms = []) then [k + 1] else []) := by
        show _ = _
        rw [peersTo, hq, hms]
      rw [hms] at hrow hle
      obtain ⟨a, c, rfl⟩ := tslice_of_own hrow
      have hsz := hbw.size
      clear hms
      rcases (by omega : q = 1 ∨ q = 0) with rfl | rfl
      · rcases (by omega : k = 0 ∨ k = 1 ∨ k = 2 ∨ k = 3) with rfl | rfl | rfl | rfl
        all_goals
          simp only [Int.pow_zero, Int.ediv_one, Int.reducePow, Nat.reduceAdd] at hq
          go_wp2_with (first
            | (go_at_call 67; refine (within4_any _ _ _ (by decide) (by decide) (by assumption) _).mono ?_; rintro e w2 ⟨rfl, rfl⟩)
            | (at_builtin; refine wpList_append_own _ rfl _ _ 22 rfl w.heap.size 3 i0 (.int .i64 0) 1 8 Tryz.underlying22 hi hz0 hz1 hz2 rfl (by decide) _ _ _ rfl (hrow.alloc _) ⟨_, 0, none⟩ 1 1 [.int .i64 _] rfl rfl (cell_one_new _ _ _) (fun u hu => by simp at hu; subst hu; rfl) (by unfold maxLen; omega) (by omega) (by simp; omega) ?_
               intro v2 w3 ho3 hg3 hnil))
          go_roundw
          case rel => exact ⟨_, hlt, rfl, by rw [hstep.out, if_pos (by simp)]; simpa [natV] using ho3, (hbw.alloc hsz _).grown hg3 (by simp; omega) (fun j hj => (hrow.lt j hj).1)⟩
          case measure => simp [intOf]
      · rcases (by omega : k = 0 ∨ k = 1 ∨ k = 2 ∨ k = 3) with rfl | rfl | rfl | rfl
        · simp only [Int.pow_zero, Int.ediv_one, Int.reducePow, Nat.reduceAdd] at hq
          go_wp2_with (go_at_call 67; refine (within4_any _ _ _ (by decide) (by decide) (by assumption) _).mono ?_; rintro e w2 ⟨rfl, rfl⟩)
          go_roundw
          case rel => exact ⟨_, hlt, rfl, by rw [hstep.out, if_neg (by simp)]; simpa using hrow, hbw⟩
          case measure => simp [intOf]
        · simp only [Int.pow_zero, Int.ediv_one, Int.reducePow, Nat.reduceAdd] at hq
          go_wp2_with (go_at_call 67; refine (within4_any _ _ _ (by decide) (by decide) (by assumption) _).mono ?_; rintro e w2 ⟨rfl, rfl⟩)
          go_roundw
          case rel => exact ⟨_, hlt, rfl, by rw [hstep.out, if_neg (by simp)]; simpa using hrow, hbw⟩
          case measure => simp [intOf]
        · simp only [Int.pow_zero, Int.ediv_one, Int.reducePow, Nat.reduceAdd] at hq
          go_wp2_with (go_at_call 67; refine (within4_any _ _ _ (by decide) (by decide) (by assumption) _).mono ?_; rintro e w2 ⟨rfl, rfl⟩)
          go_roundw
          case rel => exact ⟨_, hlt, rfl, by rw [hstep.out, if_neg (by simp)]; simpa using hrow, hbw⟩
          case measure => simp [intOf]
        · simp only [Int.pow_zero, Int.ediv_one, Int.reducePow, Nat.reduceAdd] at hq
          cases ms with
          | nil =>
            go_wp2_with (first
              | (go_at_call 67; refine (within4_any _ _ _ (by decide) (by decide) (by assumption) _).mono ?_; rintro e w2 ⟨rfl, rfl⟩)
              | (at_builtin; refine wpList_append_own _ rfl _ _ 22 rfl w.heap.size 3 i0 (.int .i64 0) 1 8 Tryz.underlying22 hi hz0 hz1 hz2 rfl (by decide) _ _ _ rfl (hrow.alloc _) ⟨_, 0, none⟩ 1 1 [.int .i64 _] rfl rfl (cell_one_new _ _ _) (fun u hu => by simp at hu; subst hu; rfl) (by unfold maxLen; simp) (by simp) (by simp; omega) ?_
                 intro v2 w3 ho3 hg3 hnil))
            go_roundw
            case rel => exact ⟨_, hlt, rfl, by rw [hstep.out, if_pos (by simp)]; simpa [natV] using ho3, (hbw.alloc hsz _).grown hg3 (by simp; omega) (fun j hj => (hrow.lt j hj).1)⟩
            case measure => simp [intOf]
          | cons m ms =>
            obtain ⟨len, hlen⟩ : ∃ len, (m :: ms).length = len := ⟨_, rfl⟩
            have hl0 : len ≠ 0 := by rw [← hlen]; simp
            have hrow' : Hid (wr.ownsRow w.heap.size 3 1 (.slice a len c) len ((m :: ms).map natV)) := by show wr.ownsRow _ _ _ _ _ _; rw [← hlen]; exact hrow
            have hlen' : Hid ((m :: ms).length = len) := hlen
            rw [hlen]
            clear hlen hrow hle
            go_wp2_with (go_at_call 67; refine (within4_any _ _ _ (by decide) (by decide) (by assumption) _).mono ?_; rintro e w2 ⟨rfl, rfl⟩)
            go_roundw
            case rel => exact ⟨_, hlt, rfl, by rw [hstep.out, if_neg (by simp), List.append_nil, hlen'.out]; exact hrow'.out, hbw⟩
            case measure => simp [intOf]
    · have e4 : k = 4 := by omega
      subst e4
      go_wp2
      go_ret
      exact ⟨_, rfl, hrow, hbw⟩

end Go.Proofs.YthneemgpifbehaaGreatDoor
