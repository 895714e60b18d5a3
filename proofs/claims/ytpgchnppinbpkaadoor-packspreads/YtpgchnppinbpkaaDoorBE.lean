/- The contracts of better and Best of package score, and of the chapter's own Best. -/
import Derived.Test.YtpgchnppinbpkaaDoorSC
import Derived.BigRegion
import Derived.Deep.QuietTactic
import Derived.BigQuiet
namespace Go.Proofs.YtpgchnppinbpkaaDoor
open Go.RowKit

/-- Does the one go ahead of the other? -/
def betB (n : ByteArray) (s : Int) (bn : ByteArray) (bs : Int) : Bool := decide (bs < s) || (decide (s = bs) && Op.bytesLess n.toList bn.toList)
/-- The best one of the first ones. -/
def bstAt (ss : List ByteArray) (zs : List Int) : Nat → Int
  | 0 => -1
  | k + 1 => if bstAt ss zs k < 0 then k else if betB (ss.getD k ByteArray.empty) (zs.getD k 0) (ss.getD (bstAt ss zs k).toNat ByteArray.empty) (zs.getD (bstAt ss zs k).toNat 0) then k else bstAt ss zs k

theorem bst_lt (ss : List ByteArray) (zs : List Int) (k : Nat) : bstAt ss zs k < k := by
  induction k with
  | zero => simp [bstAt]
  | succ k ih => unfold bstAt; split; omega; split <;> omega
theorem bst_ge (ss : List ByteArray) (zs : List Int) (k : Nat) (h : 0 < k) : 0 ≤ bstAt ss zs k := by
  induction k with
  | zero => omega
  | succ k ih => unfold bstAt; split; omega; split <;> omega

theorem better_any (n bn : ByteArray) (s bs : Int) (b : Bool) (h : betB n s bn bs = b) (w : World) :
    Calls Tryd.prog 81 #[.string n, .int .i64 s, .string bn, .int .i64 bs] w fun e w' => e = .returned (.bool b) ∧ w' = w := by
  unfold betB at h
  obtain ⟨l, hl⟩ : ∃ l, Op.bytesLess n.toList bn.toList = l := ⟨_, rfl⟩
  rw [hl] at h
  by_cases h1 : bs < s
  · obtain rfl : b = true := by rw [← h]; simp [h1]
    clear h hl
    go_enter Tryd.func81, Tryd.ntmps81
    go_wp2
    go_ret
    exact ⟨rfl, rfl⟩
  · by_cases h2 : s = bs
    · subst h2
      obtain rfl : b = l := by rw [← h]; simp
      clear h
      go_enter Tryd.func81, Tryd.ntmps81
      go_wp2
      go_ret
      exact ⟨rfl, rfl⟩
    · obtain rfl : b = false := by rw [← h]; simp [h1, h2]
      have h3 : (s == bs) = false := by simp [h2]
      clear h hl
      go_enter Tryd.func81, Tryd.ntmps81
      go_wp2
      go_ret
      exact ⟨rfl, rfl⟩

set_option maxRecDepth 100000 in
set_option maxHeartbeats 4000000 in
theorem best_any (a b : Option Addr) (ca cb n : Nat) (ss : List ByteArray) (zs : List Int) (z : Int) (w : World) (hS : Strs w a ss) (hZ : HasRow w b n zs) (hl : ss.length = n) (hz : bstAt ss zs n = z) :
    Calls Tryd.prog 69 #[.slice a n ca, .slice b n cb] w fun e w' => e = .returned (.int .i64 z) ∧ Below w.heap.size w w' := by
  have hn := hS.1
  rw [hl] at hn
  subst hz
  go_enter Tryd.func69, Tryd.ntmps69
  go_wp2
  go_loopw [5, 12] (fun c i wr => ∃ k : Nat, k ≤ n ∧ i = .int .i64 k ∧ c = .int .i64 (bstAt ss zs k) ∧ Below w.heap.size w wr) (fun _ i _ => n - (intOf i).toNat)
  case atStart => exact ⟨0, Nat.zero_le _, rfl, rfl, Below.refl _ _⟩
  case round =>
    obtain ⟨k, hk, rfl, rfl, hbw⟩ := hrel
    have hSr := hS.later hbw
    by_cases hlt : k < n
    · obtain ⟨x, rfl, hcx⟩ := hSr.2 k (by omega)
      obtain ⟨y, hy, hcy0⟩ := hZ.2 k (by omega)
      subst hy
      have hcy := cell_below hbw hcy0 (block_lt hcy0)
      by_cases hk0 : k = 0
      · subst hk0
        have e1 : bstAt ss zs 1 = 0 := by simp [bstAt]
        have e0 : bstAt ss zs 0 = -1 := rfl
        rw [e0]
        clear hcx hcy hcy0 hS hSr hZ
        go_wp2
        go_region
        go_wp2
        go_roundw
        case rel => exact ⟨1, hlt, rfl, by rw [e1]; rfl, hbw.drew⟩
        case measure => simp [intOf]; omega
      · obtain ⟨j, hj⟩ : ∃ j : Nat, bstAt ss zs k = j := ⟨(bstAt ss zs k).toNat, by have := bst_ge ss zs k (by omega); omega⟩
        have hjk : j < k := by have := bst_lt ss zs k; omega
        obtain ⟨x', hx', hdx⟩ := hSr.2 j (by omega)
        obtain rfl : x = x' := by simpa using hx'
        obtain ⟨y', hy', hdy0⟩ := hZ.2 j (by omega)
        obtain rfl : y = y' := by simpa using hy'
        have hdy := cell_below hbw hdy0 (block_lt hdy0)
        obtain ⟨t, ht⟩ : ∃ t, betB (ss.getD k ByteArray.empty) (zs.getD k 0) (ss.getD j ByteArray.empty) (zs.getD j 0) = t := ⟨_, rfl⟩
        have e1 : bstAt ss zs (k + 1) = if t then (k : Int) else (j : Int) := by
          have : ¬ bstAt ss zs k < 0 := by omega
          rw [bstAt, if_neg this, hj, Int.toNat_natCast, ht]
        have kb := fun W => better_any _ _ _ _ t ht W
        generalize ss.getD k ByteArray.empty = s1 at *
        generalize zs.getD k 0 = z1 at *
        generalize ss.getD j ByteArray.empty = s2 at *
        generalize zs.getD j 0 = z2 at *
        have i1 : (0 : Int) ≤ (k : Int) := by omega
        have i2 : (k : Int) < (n : Int) := by omega
        have i3 : (0 : Int) ≤ (j : Int) := by omega
        have i4 : (j : Int) < (n : Int) := by omega
        have i5 : ¬ (j : Int) < 0 := by omega
        rw [hj]
        have d1 : wr.drew.cell? (x.add k) = _ := hcx
        have d2 : wr.drew.cell? (y.add k) = _ := hcy
        have d3 : wr.drew.cell? (x.add j) = _ := hdx
        have d4 : wr.drew.cell? (y.add j) = _ := hdy
        have hbd := hbw.drew
        clear hcx hcy hcy0 hdx hdy hdy0 hS hSr hZ hx' hy' ht hj
        go_wp2
        go_region_held3 (fun w' => w'.cell? (x.add k) = some (.string s1) ∧ w'.cell? (y.add k) = some (.int .i64 z1) ∧ w'.cell? (x.add j) = some (.string s2) ∧ w'.cell? (y.add j) = some (.int .i64 z2))
          (exact ⟨by assumption, by assumption, by assumption, by assumption⟩)
          (first
            | (go_at_call 81; refine (kb _).mono ?_; rintro e w8 ⟨rfl, rfl⟩)
            | fail)
        cases t
        all_goals go_wp2
        all_goals first
          | (exfalso; rename_i hh; simp at hh; done)
          | (exfalso; rename_i hh; simp at hh; omega)
          | (go_roundw
             case rel => exact ⟨k + 1, hlt, by go_num, by rw [e1]; rfl, hbd⟩
             case measure => simp [intOf]; omega)
    · obtain rfl : k = n := by omega
      go_wp2
      go_ret
      exact ⟨rfl, hbw⟩

end Go.Proofs.YtpgchnppinbpkaaDoor
