/- The walk of MarkAll: it returns true. -/
import Derived.Test.YtkiamgfmclodmaaL
namespace Go.Proofs.Ytkiamgfmclodmaa
open Go.RowKit Go.Maps

theorem all_is (a1 a2 : Option Addr) (n1 n2 c1 c2 : Nat) (of l : List ByteArray) (b : Bool) (W : World) (h1 : Strs W a1 of) (h2 : Strs W a2 l) (e1 : of.length = n1) (e2 : l.length = n2)
    (z1 : ∀ i, (of.getD i ByteArray.empty).size ≤ maxLen) (z2 : ∀ i, (l.getD i ByteArray.empty).size ≤ maxLen) (hb : allB of l = b) :
    Calls Try.prog 20 #[.slice a1 n1 c1, .slice a2 n2 c2] W fun e w' => e = .returned (.bool b) ∧ Below W.heap.size W w' := by
  subst e1 e2 hb
  exact all_any a1 c1 of a2 c2 l W h1 h2 z1 z2

theorem strs_nil (w : World) : Strs w none [] := ⟨by simp, fun i hi => by simp at hi⟩

theorem getD_size (l : List ByteArray) (h : ∀ s ∈ l, s.size ≤ 100) (i : Nat) : (l.getD i ByteArray.empty).size ≤ maxLen := by
  by_cases hi : i < l.length
  · have h1 := h (l[i]) (List.getElem_mem hi)
    simp only [List.getD, List.getElem?_eq_getElem hi, Option.getD_some]
    unfold maxLen
    omega
  · simp only [List.getD, List.getElem?_eq_none (Nat.le_of_not_lt hi), Option.getD_none]
    exact Nat.zero_le _

theorem marksTo_mem (n : Int) : ∀ k, ∀ s ∈ marksTo n k, s.size ≤ 100
  | 0, s, h => by simp [marksTo] at h
  | k + 1, s, h => by
    rw [marksTo] at h
    rcases List.mem_append.1 h with h | h
    · exact marksTo_mem n k s h
    · split at h
      · simp only [List.mem_singleton] at h
        subst h
        by_cases hk : k < 4
        · rcases (by omega : k = 0 ∨ k = 1 ∨ k = 2 ∨ k = 3) with rfl | rfl | rfl | rfl <;> decide
        · simp only [List.getD, List.getElem?_eq_none (show four.length ≤ k by simp [four]; omega), Option.getD_none]
          exact Nat.zero_le _
      · cases h

theorem nameAt_size (n : Int) : (nameAt n).size ≤ 100 := by
  have h : (names.all fun s => decide (s.size ≤ 100)) = true := by decide
  exact of_decide_eq_true (List.all_eq_true.1 h _ (nameAt_mem n))

/-- The bits of a number and of its rest by 16 are the same. -/
theorem bit_rest (n : Int) (k : Nat) (h : k < 4) : bit n k = bit (n % 16) k := by
  unfold bit
  rcases (by omega : k = 0 ∨ k = 1 ∨ k = 2 ∨ k = 3) with rfl | rfl | rfl | rfl <;> exact decide_eq_decide.2 (by simp only [Int.pow_zero, Int.ediv_one, Int.reducePow]; omega)
theorem marks_rest (n : Int) : marksTo n 4 = marksTo (n % 16) 4 := by
  simp only [marksTo, bit_rest n 0 (by omega), bit_rest n 1 (by omega), bit_rest n 2 (by omega), bit_rest n 3 (by omega)]

theorem alls : ((List.range 16).all fun i => (List.range 16).all fun j => allB (marksTo (i : Int) 4) (marksTo (j : Int) 4) == (bits .andNot .i64 (i : Int) (j : Int) == 0)) = true := by decide +kernel
theorem alls_of (n m : Int) : allB (marksTo n 4) (marksTo m 4) = (bits .andNot .i64 (n % 16) (m % 16) == 0) := by
  have h := List.all_eq_true.1 (List.all_eq_true.1 alls (n % 16).toNat (List.mem_range.2 (by omega))) (m % 16).toNat (List.mem_range.2 (by omega))
  rw [Int.toNat_of_nonneg (by omega), Int.toNat_of_nonneg (by omega)] at h
  rw [marks_rest n, marks_rest m]
  exact eq_of_beq h

theorem all_self (l : List ByteArray) : allB l l = true := by
  unfold allB inB
  rw [List.all_eq_true]
  intro s hs
  rw [List.any_eq_true]
  exact ⟨s, hs, beq_self_eq_true _⟩
theorem all_more (l k : List ByteArray) (x : ByteArray) (h : allB l k = true) : allB l (k ++ [x]) = true := by
  unfold allB inB at *
  rw [List.all_eq_true] at *
  intro s hs
  have := h s hs
  simp only [List.any_append, this, Bool.true_or]
theorem all_none (l : List ByteArray) : allB l [] = decide (l.length = 0) := by
  cases l <;> simp [allB, inB]

set_option maxRecDepth 100000 in
set_option maxHeartbeats 4000000 in
theorem markAll_way (n m x i j z : Int) (xs bs ms : List ByteArray) (s : ByteArray) (b e0 : Bool) (hi : n % 16 = i) (hj : m % 16 = j) (hz : bits .andNot .i64 i j = z) (hzb : (z == 0) = b)
    (ha : marksTo n 4 = xs) (hb : marksTo m 4 = bs) (hx : nameAt x = s) (hab : allB xs bs = b) (hn : allB [] bs = true) (h0 : allB xs [] = e0) (he0 : ((xs.length : Int) == 0) = e0) (hmore : b = true → allB xs ms = true) (haa : allB xs xs = true) (hms : ms = bs ++ [s])
    (za : ∀ i, (xs.getD i ByteArray.empty).size ≤ maxLen) (zb : ∀ i, (bs.getD i ByteArray.empty).size ≤ maxLen) (zm : ∀ i, (ms.getD i ByteArray.empty).size ≤ maxLen) (zn : ∀ i, (([] : List ByteArray).getD i ByteArray.empty).size ≤ maxLen) (lb : bs.length ≤ 4) (w : World) :
    Calls Try.prog 8 #[.int .i64 n, .int .i64 m, .int .i64 x] w fun e w' => e = .returned (.bool true) ∧ Below w.heap.size w w' := by
  have hb0 : Below w.heap.size w w := Below.refl _ _
  have zm' : ∀ i, ((bs ++ [s]).getD i ByteArray.empty).size ≤ maxLen := hms ▸ zm
  have hlm : (bs ++ [s]).length = bs.length + 1 := by simp
  rw [hms] at hmore
  cases b
  all_goals
    go_enter Try.func8, Try.ntmps8
    go_wp2_with (first
      | (go_at_call 9; refine (known_on _ _ hb0).mono ?_; rintro e w9 ⟨rfl, hb1⟩)
      | (go_at_call_of 17 (Value.int .i64 n); refine (lSet_is _ _ ha _).mono ?_; rintro e w7 ⟨a1, c1, rfl, hS1, _, _, hb7⟩; replace hb1 := hb1.trans (hb7.mono hb1.size))
      | (go_at_call_of 17 (Value.int .i64 m); refine (lSet_is _ _ hb _).mono ?_; rintro e w8 ⟨a2, c2, rfl, hS2, hc2, _, hb8⟩; replace hb1 := hb1.trans (hb8.mono hb1.size); replace hS1 := hS1.later hb8)
      | (at_builtin; refine append_strs rfl _ _ rfl w8.heap.size (.slice (some ⟨w8.heap.size, 0, none⟩) 0 0) 0 [] rfl (World.ownsRow_lit _ _ _ (Nat.le_refl _) (Nat.zero_le _) rfl) a2 bs.length c2 bs rfl (hS2.later ((Below.refl _ _).alloc (Nat.le_refl _) _)) rfl hc2 (by simp) (by simp) ?_; intro v1 w1 hown1 hgrow1
         have hA : Below w8.heap.size w8 w1 := ((Below.refl _ _).alloc (Nat.le_refl _) _).grown hgrow1 (by simp) (fun j hj => by cases hj; exact Nat.le_refl _)
         replace hown1 : w1.ownsRow w8.heap.size 9 1 v1 bs.length (bs.map Value.string) := by simpa using hown1
         clear hgrow1)
      | (go_at_call 16; refine (lName_is _ _ _ _ (Below.refl _ _) hx).mono ?_; rintro e w2 ⟨rfl, hb2⟩; replace hA := hA.trans (hb2.mono hA.size); replace hown1 := own_later hown1 hb2)
      | (at_builtin; refine append_strs rfl _ _ rfl w8.heap.size v1 bs.length bs rfl (hown1.alloc _) (some ⟨w2.heap.size, 0, none⟩) 1 1 [s] rfl ⟨by simp, fun i hi => by simp at hi; subst hi; exact ⟨_, rfl, by simp [Addr.add]⟩⟩ rfl (fun h => by cases h) (by omega) (by have := hA.size; simp; omega) ?_; intro v2 w3 hown2 hgrow2
         have hA2 : Below w8.heap.size w8 w3 := (hA.alloc hA.size _).grown hgrow2 (by have := hA.size; simp; omega) (fun j hj => (hown1.lt j hj).1)
         obtain ⟨a3, c3, rfl, hS3, _⟩ := strs_of_own hown2 (by simp; omega)
         replace hS1 := hS1.later hA2
         replace hS2 := hS2.later hA2
         replace hb1 := hb1.trans (hA2.mono hb1.size)
         have hN := strs_nil w3
         clear hgrow2 hown1 hown2 hA2)
      | (go_at_call 20; refine (all_is _ _ _ _ _ _ _ _ _ _ (by assumption) (by assumption) (by first | rfl | assumption) (by first | rfl | assumption) (by assumption) (by assumption) (by first | assumption | exact hmore rfl | exact hmore trivial)).mono ?_; rintro e w5 ⟨rfl, hb5⟩; replace hS1 := hS1.later hb5; replace hS2 := hS2.later hb5; replace hS3 := hS3.later hb5; replace hN := hN.later hb5; replace hb1 := hb1.trans (hb5.mono hb1.size))
      | (go_at_call 11; refine (within_any _ _ _ (by decide) (by decide) (by assumption) _).mono ?_; rintro e w6 ⟨rfl, rfl⟩)
      | go_in)
    go_ret
    exact ⟨rfl, hb1⟩

theorem markAll_walk (a b c : Int) (_h0 : (Lit.int .i64 a).wf = true) (_h1 : (Lit.int .i64 b).wf = true) (_h2 : (Lit.int .i64 c).wf = true) (w : World) :
    Calls Try.prog 8 #[.int .i64 a, .int .i64 b, .int .i64 c] w fun e w' => e = .returned (.bool true) ∧ Below w.heap.size w w' := by
  refine markAll_way a b c _ _ _ _ _ _ _ _ _ rfl rfl rfl rfl rfl rfl rfl (alls_of a b) (by rfl) (all_none _) ?_ (fun h => all_more _ _ _ ((alls_of a b).trans h)) (all_self _) rfl
    (getD_size _ (marksTo_mem a 4)) (getD_size _ (marksTo_mem b 4)) (getD_size _ (fun s hs => ?_)) (getD_size _ (fun s hs => by cases hs)) (marksTo_le b 4) w
  · rw [Bool.eq_iff_iff]; simp
  · rcases List.mem_append.1 hs with hs | hs
    · exact marksTo_mem b 4 s hs
    · simp only [List.mem_singleton] at hs
      subst hs
      exact nameAt_size c

end Go.Proofs.Ytkiamgfmclodmaa
