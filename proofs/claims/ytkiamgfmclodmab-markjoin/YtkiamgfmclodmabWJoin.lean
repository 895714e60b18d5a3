/- The walk of MarkJoin: it returns true. -/
import Derived.Test.YtkiamgfmclodmabN
namespace Go.Proofs.Ytkiamgfmclodmab
open Go.RowKit

/-- What the statement asks of two names. -/
def joins (a b : ByteArray) : Bool :=
  isName a && isName b && (isName (a ++ b) == decide (count a + count b ≤ 8)) && (count (a ++ b) == count a + count b) && !isName (a ++ ⟨#[32]⟩ ++ b) && decide (a.size ≤ 16) && decide (b.size ≤ 16)

theorem joins_all : (names.all fun a => names.all fun b => joins a b) = true := by decide +kernel

theorem joins_of (n m : Int) : joins (nameAt n) (nameAt m) = true :=
  List.all_eq_true.1 (List.all_eq_true.1 joins_all _ (nameAt_mem n)) _ (nameAt_mem m)

set_option maxRecDepth 100000 in
set_option maxHeartbeats 1000000 in
theorem markJoin_way (n m i j : Int) (a b : ByteArray) (q : Bool) (han : nameAt n = a) (hbn : nameAt m = b) (ha : isName a = true) (hb : isName b = true) (hq : isName (a ++ b) = q)
    (hi : (count a : Int) = i) (hj : (count b : Int) = j) (hs : (count (a ++ b) : Int) = i + j) (hz : isName (a ++ ⟨#[32]⟩ ++ b) = false) (sa : a.size ≤ 16) (sb : b.size ≤ 16) (hd : decide (i + j ≤ 8) = q) (w : World) :
    Calls Try.prog 5 #[.int .i64 n, .int .i64 m] w fun e w' => e = .returned (.bool true) ∧ Below w.heap.size w w' := by
  have hi0 : 0 ≤ i ∧ i ≤ 16 := by have := count_le a; omega
  have hj0 : 0 ≤ j ∧ j ≤ 16 := by have := count_le b; omega
  have hb0 : Below w.heap.size w w := Below.refl _ _
  have m1 : a.size ≤ maxLen := by unfold maxLen; omega
  have m2 : b.size ≤ maxLen := by unfold maxLen; omega
  have m3 : (a ++ b).size ≤ maxLen := by rw [ByteArray.size_append]; unfold maxLen; omega
  go_enter Try.func5, Try.ntmps5
  go_wp2_with (first
    | (go_at_call 7; refine (known_on _ _ (by assumption)).mono ?_; rintro e w1 ⟨rfl, hb1⟩)
    | (go_at_call 11; refine (lName_is _ _ _ _ (by assumption) (by assumption)).mono ?_; rintro e w1 ⟨rfl, hb1⟩)
    | (go_at_call 9; refine (name_on _ _ _ _ (by assumption) (by assumption)).mono ?_; rintro e w1 ⟨rfl, hb1⟩)
    | (go_at_call 12; refine (rName_on _ _ _ _ (by assumption) (by assumption) (by assumption)).mono ?_; rintro e w1 ⟨rfl, hb1⟩)
    | (go_at_call 10; refine (runes_on _ _ _ _ (by assumption) (by assumption) (by assumption)).mono ?_; rintro e w1 ⟨rfl, hb1⟩))
  all_goals
    go_ret
    exact ⟨rfl, by assumption⟩

theorem markJoin_walk (a b : Int) (_h0 : (Lit.int .i64 a).wf = true) (_h1 : (Lit.int .i64 b).wf = true) (w : World) :
    Calls Try.prog 5 #[.int .i64 a, .int .i64 b] w fun e w' => e = .returned (.bool true) ∧ Below w.heap.size w w' := by
  have h := joins_of a b
  unfold joins at h
  simp only [Bool.and_eq_true, beq_iff_eq, Bool.not_eq_true', decide_eq_true_eq] at h
  obtain ⟨⟨⟨⟨⟨⟨h1, h2⟩, h3⟩, h4⟩, h5⟩, h6⟩, h7⟩ := h
  exact markJoin_way a b _ _ _ _ _ rfl rfl h1 h2 h3 rfl rfl (by omega) h5 h6 h7 (by congr 1; exact propext (by omega)) w

end Go.Proofs.Ytkiamgfmclodmab
