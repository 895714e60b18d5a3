/- The contract of the chapter's own Best. -/
import Derived.Test.YtmkbllkfipcghaaBE
namespace Go.Proofs.Ytmkbllkfipcghaa
open Go.RowKit

theorem below_drewN {B : Nat} {w W : World} (h : Below B w W) (n : Nat) : Below B w (W.drewN n) := by
  induction n with
  | zero => exact h
  | succ n ih => exact ih.drew

set_option maxRecDepth 100000 in
set_option maxHeartbeats 4000000 in
theorem rBest_any (a b : Option Addr) (ca cb n : Nat) (ss : List ByteArray) (zs : List Int) (z : Int) (w : World) (hS : Strs w a ss) (hZ : HasRow w b n zs) (hl : ss.length = n) (hz : bstAt ss zs n = z) :
    Calls Try.prog 12 #[.slice a n ca, .slice b n cb] w fun e w' => e = .returned (.int .i64 z) ∧ Below w.heap.size w w' := by
  have hn := hS.1
  rw [hl] at hn
  subst hz
  go_enter Try.func12, Try.ntmps12
  go_wp2
  go_loopw [5, 6] (fun c i wr => ∃ k : Nat, k ≤ n ∧ i = .int .i64 k ∧ c = .int .i64 (bstAt ss zs k) ∧ Below w.heap.size w wr) (fun _ i _ => n - (intOf i).toNat)
  case atStart => exact ⟨0, Nat.zero_le _, rfl, rfl, Below.refl _ _⟩
  case round =>
    obtain ⟨k, hk, rfl, rfl, hbw⟩ := hrel
    have hSr := hS.later hbw
    by_cases hlt : k < n
    · obtain ⟨x, rfl, hcx⟩ := hSr.2 k (by omega)
      obtain ⟨y, hy, hcy0⟩ := hZ.2 k (by omega)
      subst hy
      have hcy := cell_below hbw hcy0 (block_lt hcy0)
      by_cases hk0 : k = 0
      · subst hk0
        have e1 : bstAt ss zs 1 = 0 := by simp [bstAt]
        have e0 : bstAt ss zs 0 = -1 := rfl
        rw [e0]
        clear hcx hcy hcy0 hS hSr hZ
        go_wp2
        go_quiet (fail)
        go_wp2
        go_roundw
        case rel => exact ⟨1, hlt, rfl, by rw [e1]; rfl, below_drewN hbw _⟩
        case measure => simp [intOf]; omega
      · obtain ⟨j, hj⟩ : ∃ j : Nat, bstAt ss zs k = j := ⟨(bstAt ss zs k).toNat, by have := bst_ge ss zs k (by omega); omega⟩
        have hjk : j < k := by have := bst_lt ss zs k; omega
        obtain ⟨x', hx', hdx⟩ := hSr.2 j (by omega)
        obtain rfl : x = x' := by simpa using hx'
        obtain ⟨y', hy', hdy0⟩ := hZ.2 j (by omega)
        obtain rfl : y = y' := by simpa using hy'
        have hdy := cell_below hbw hdy0 (block_lt hdy0)
        obtain ⟨t, ht⟩ : ∃ t, betB (ss.getD k ByteArray.empty) (zs.getD k 0) (ss.getD j ByteArray.empty) (zs.getD j 0) = t := ⟨_, rfl⟩
        have e1 : bstAt ss zs (k + 1) = if t then (k : Int) else (j : Int) := by
          have : ¬ bstAt ss zs k < 0 := by omega
          rw [bstAt, if_neg this, hj, Int.toNat_natCast, ht]
        unfold betB at ht
        generalize ss.getD k ByteArray.empty = s1 at *
        generalize zs.getD k 0 = z1 at *
        generalize ss.getD j ByteArray.empty = s2 at *
        generalize zs.getD j 0 = z2 at *
        have i1 : (0 : Int) ≤ (k : Int) := by omega
        have i2 : (k : Int) < (n : Int) := by omega
        have i3 : (0 : Int) ≤ (j : Int) := by omega
        have i4 : (j : Int) < (n : Int) := by omega
        have i5 : decide ((j : Int) < 0) = false := by simp
        rw [hj]
        obtain ⟨l, hls⟩ : ∃ l, Op.bytesLess s1.toList s2.toList = l := ⟨_, rfl⟩
        rw [hls] at ht
        clear hcy0 hdy0 hS hSr hZ hx' hy' hj
        by_cases h1 : z2 < z1
        · obtain rfl : t = true := by rw [← ht]; simp [h1]
          have h1' : decide (z2 < z1) = true := by simp [h1]
          clear ht hls hcx hdx
          go_wp2
          go_quiet (fail)
          go_wp2
          go_roundw
          case rel => exact ⟨k + 1, hlt, by go_num, by rw [e1]; rfl, below_drewN hbw _⟩
          case measure => simp [intOf]; omega
        · by_cases h2 : z1 = z2
          · subst h2
            obtain rfl : t = l := by rw [← ht]; simp
            clear ht
            have h1' : decide (z1 < z1) = false := by simp
            cases t
            all_goals
              go_wp2
              go_quiet (fail)
              go_wp2
              go_roundw
              case rel => exact ⟨k + 1, hlt, by go_num, by rw [e1]; rfl, below_drewN hbw _⟩
              case measure => simp [intOf]; omega
          · obtain rfl : t = false := by rw [← ht]; simp [h1, h2]
            have h3 : (z1 == z2) = false := by simp [h2]
            have h1' : decide (z2 < z1) = false := by simp [h1]
            clear ht hls hcx hdx
            go_wp2
            go_quiet (fail)
            go_wp2
            go_roundw
            case rel => exact ⟨k + 1, hlt, by go_num, by rw [e1]; rfl, below_drewN hbw _⟩
            case measure => simp [intOf]; omega
    · obtain rfl : k = n := by omega
      go_wp2
      go_ret
      exact ⟨rfl, hbw⟩

end Go.Proofs.Ytmkbllkfipcghaa
