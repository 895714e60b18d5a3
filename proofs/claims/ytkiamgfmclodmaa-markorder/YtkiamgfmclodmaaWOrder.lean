/- The walk of MarkOrder: it returns true. -/
import Derived.Test.YtkiamgfmclodmaaO
import Derived.Deep.RegionHeld3
import Derived.Deep.DrawnRows
import Derived.StillTactics
import Derived.Laws.Pointers
namespace Go.Proofs.Ytkiamgfmclodmaa
open Go.RowKit Go.Maps
attribute [local go_sem ↓] Go.wp_at_zero Go.wp_at_succ

theorem alloc_below {w0 W : World} {B : Nat} (h : Below B w0 W) (hB : B ≤ w0.heap.size) (o : Obj) : Below B w0 (W.alloc o) := h.alloc (Nat.le_trans hB h.size) o

theorem own_zero {w : World} {base g : Nat} (h : w.heap[g]? = some (.cells #[] 9)) (hb : base ≤ g) : w.ownsRow base 9 1 (.slice (some ⟨g, 0, none⟩) 0 0) 0 (([] : List ByteArray).map Value.string) :=
  ⟨rfl, .inr ⟨g, 0, #[], rfl, hb, h, Nat.le_refl _, Nat.zero_le _, rfl, rfl⟩⟩

theorem hz1 (w : World) (o : Obj) : (w.alloc o).drew.heap[w.heap.size]? = some o := by
  show (w.heap.push o)[w.heap.size]? = some o
  simp
theorem hz2 (w : World) (o o' : Obj) : ((w.alloc o).alloc o').drew.heap[w.heap.size]? = some o := by
  show ((w.heap.push o).push o')[w.heap.size]? = some o
  rw [Array.getElem?_push_lt (by simp)]
  simp
theorem hz3 (w : World) (o o' : Obj) : ((w.alloc o).alloc o').drew.heap[w.heap.size + 1]? = some o' := by
  show ((w.heap.push o).push o')[w.heap.size + 1]? = some o'
  have : w.heap.size + 1 = (w.heap.push o).size := by simp
  rw [this, Array.getElem?_push_size]
theorem cz1 (w : World) (s : ByteArray) : (w.alloc (.cells #[.string s] 9)).cell? ⟨w.heap.size, 0, none⟩ = some (.string s) := by simp
theorem cz2 (w : World) (o : Obj) (s : ByteArray) : ((w.alloc o).alloc (.cells #[.string s] 9)).drew.cell? ⟨w.heap.size + 1, 0, none⟩ = some (.string s) := by simp
theorem cz3 (w : World) (o : Obj) (s : ByteArray) : ((w.alloc (.cells #[.string s] 9)).alloc o).drew.cell? ⟨w.heap.size, 0, none⟩ = some (.string s) := by
  have h : (w.alloc (.cells #[.string s] 9)).cell? ⟨w.heap.size, 0, none⟩ = some (.string s) := by simp
  exact cell_alloc h o

theorem grow_keep {w0 W w1 : World} {a : Addr} {v : Value} {row : Option Nat} (h : W.cell? a = some v ∧ Below w0.heap.size w0 W) (hg : W.grownBy w1 row) (hrow : ∀ j, row = some j → w0.heap.size ≤ j) (ha : a.block < w0.heap.size) :
    w1.cell? a = some v ∧ Below w0.heap.size w0 w1 :=
  ⟨hg.cell h.1 (fun e => by have := hrow _ e.symm; omega), h.2.grown hg h.2.size hrow⟩

set_option maxRecDepth 100000 in
set_option maxHeartbeats 8000000 in
theorem markOrder_way (n t : Int) (ss : List ByteArray) (N k : Nat) (s : ByteArray) (hss : marksTo n 4 = ss) (hN : ss.length = N) (hN0 : (0 : Int) < N) (hN4 : (N : Int) ≤ 4) (hk : t % (N : Int) = k) (hkN : (k : Int) < N) (hs : ss.getD k ByteArray.empty = s)
    (tw rv : List ByteArray) (e1 : Bool) (htw : ss.take (k + 1) ++ [s] ++ ss.drop (k + 1) = tw) (ltw : tw.length ≤ 1000) (hrv : ss.reverse = rv) (hrl : rv.length = N) (he1 : ((N : Int) == 1) = e1)
    (p1 : setB ss = true) (p2 : setB tw = false) (p3 : setB rv = e1) (p4 : allB rv ss = true) (p5 : allB ss rv = true) (p6 : allB tw ss = true)
    (z1 : ∀ i, (ss.getD i ByteArray.empty).size ≤ maxLen) (z2 : ∀ i, (rv.getD i ByteArray.empty).size ≤ maxLen) (z3 : ∀ i, (tw.getD i ByteArray.empty).size ≤ maxLen) (w : World) :
    Calls Try.prog 7 #[.int .i64 n, .int .i64 t] w fun e w' => e = .returned (.bool true) ∧ Below w.heap.size w w' := by
  have hb0 : Below w.heap.size w w := Below.refl _ _
  have k0 : (0 : Int) ≤ (k : Int) := by omega
  have k1 : (0 : Int) ≤ (k : Int) + 1 := by omega
  have k2 : (k : Int) + 1 ≤ N := by omega
  have nz : ((N : Int) == 0) = false := by simp; omega
  have kw : IntKind.i64.wrap ((k : Int) + 1) = (k : Int) + 1 := by rw [IntKind.wrap_i64]; omega
  go_enter Try.func7, Try.ntmps7
  go_wp2_with (first
    | (go_at_call 9; refine (known_on _ _ hb0).mono ?_; rintro e w9 ⟨rfl, hb1⟩)
    | (go_at_call 17; refine (lSet_len _ _ _ hss hN _).mono ?_; rintro e w7 ⟨a, c, rfl, hNc, hS, hb7⟩; replace hb1 := hb1.trans (hb7.mono hb1.size); obtain ⟨x, rfl, hx0⟩ := hS.2 0 (by omega))
    | (go_at_call 18; refine (set_is _ _ _ _ _ _ hS hN p1).mono ?_; rintro e w8 ⟨rfl, hb8⟩; replace hb1 := hb1.trans (hb8.mono hb1.size); replace hS := hS.later hb8)
    | (go_at_call 11; refine (within_any _ _ _ (by omega) (by omega) hk _).mono ?_; rintro e w6 ⟨rfl, rfl⟩)
    | go_in)
  obtain ⟨x', hx', hck⟩ := hS.2 k (by omega)
  obtain rfl : x = x' := by simpa using hx'
  rw [hs] at hck
  by_cases hc : c = k + 1
  · subst hc
    have c1 : (N : Int) ≤ (k : Int) + 1 := by omega
    have hA0 : Below w6.heap.size w6 w6.drew := (Below.refl _ _).drew
    have hckd : w6.drew.cell? (x.add k) = some (.string s) := hck
    have hp : w6.drew.cell? (x.add k) = some (.string s) ∧ Below w6.heap.size w6 w6.drew := ⟨hckd, hA0⟩
    have lt : (ss.take (k + 1)).length = k + 1 := by rw [List.length_take]; omega
    have ld : (ss.drop (k + 1)).length = 0 := by rw [List.length_drop]; omega
    have hxb : (x.add k).block < w6.heap.size := block_lt hck
    go_region_held3 (fun w' => w'.cell? (x.add k) = some (.string s) ∧ Below w6.heap.size w6 w') (first | assumption | (exact ⟨cell_alloc (by assumption : _ ∧ Below _ _ _).1 _, alloc_below (by assumption : _ ∧ Below _ _ _).2 (Nat.le_refl _) _⟩))
      (first
        | (refine step_append_strs (by rfl) _ _ (by rfl) w6.heap.size _ 0 [] (by rfl) (own_zero (by first | exact hz1 _ _ | exact hz2 _ _ _ | exact hz3 _ _ _) (by omega)) x (k + 1) (k + 1) (ss.take (k + 1)) (by rfl) (strs_take (hS.later (by assumption : _ ∧ Below w6.heap.size w6 _).2) (k + 1)) lt (by simp) (by assumption : _ ∧ Below w6.heap.size w6 _).2.size ?_
           intro v1 w1 hown1 hgrow1 hr1
           have h1 := grow_keep (by assumption) hgrow1 hr1 hxb
           replace hown1 : w1.ownsRow w6.heap.size 9 1 v1 (k + 1) ((ss.take (k + 1)).map Value.string) := by simpa using hown1)
        | (refine step_append_strs (by rfl) _ _ (by rfl) w6.heap.size v1 (k + 1) (ss.take (k + 1)) (by rfl) (by first | exact hown1 | exact hown1.alloc _) ⟨_, 0, none⟩ 1 1 [s] (by rfl) (strs_one (by first | exact cz1 _ _ | exact hgrow1.cell (cz2 _ _ _) (by simp [Value.ownBlock]) | exact hgrow1.cell (cz3 _ _ _) (by simp [Value.ownBlock]))) rfl (by omega) (by assumption : _ ∧ Below w6.heap.size w6 _).2.size ?_
           intro v2 w2 hown2 hgrow2 hr2
           have h2 := grow_keep (by assumption) hgrow2 hr2 hxb)
        | (refine step_append_strs (by rfl) _ _ (by rfl) w6.heap.size v2 (k + 1 + 1) (ss.take (k + 1) ++ [s]) (by rfl) hown2 x 0 0 (ss.drop (k + 1)) (by rfl) ⟨by omega, fun i hi => by omega⟩ ld (by simp; omega) h2.2.size ?_
           intro v3 w3 hown3 hgrow3 hr3
           have h3 := grow_keep (by assumption) hgrow3 hr3 hxb)
        | fail)
    all_goals
      have htw3 : w3.ownsRow w6.heap.size 9 1 v3 tw.length (tw.map Value.string) := by
        rw [← htw]
        have e : (ss.take (k + 1) ++ [s] ++ ss.drop (k + 1)).length = k + 1 + 1 + 0 := by simp; omega
        rw [e]
        simpa using hown3
      obtain ⟨a3, c3, rfl, hS3, _, _⟩ := strs_of_own htw3 ltw
      have hSw := hS.later h3.2
      have hbw := hb1.trans (h3.2.mono hb1.size)
      clear hown1 hown2 hown3 hgrow1 hgrow2 hgrow3 hr1 hr2 hr3 h1 h2 hp hA0 hckd hxb hck hx' htw3 hS hb1
      go_wp2
      go_loopw [8, 9] (fun v i wr => ∃ j : Nat, j ≤ N ∧ i = .int .i64 j ∧ wr.ownsRow w3.heap.size 9 1 v (N - j) (((ss.drop j).reverse).map Value.string) ∧ Below w3.heap.size w3 wr) (fun _ i _ => (intOf i).toNat)
      case atStart => exact ⟨N, Nat.le_refl _, rfl, by rw [← hN, List.drop_length]; simpa using World.ownsRow_nil _ _ _ _, Below.refl _ _⟩
      case round =>
        obtain ⟨j, hj, rfl, hrow, hbj⟩ := hrel
        cases j with
        | zero =>
          obtain ⟨a4, c4, rfl, hS4, _, _⟩ := strs_of_own hrow (by simp; omega)
          have hS5 := hS3.later hbj
          have hS6 := hSw.later hbj
          have hb6 := hbw.trans (hbj.mono hbw.size)
          simp only [List.drop_zero, hrv] at hS4
          clear hS3 hSw hbw hbj hrow h3 htw hss hs
          go_wp2_with (first
            | (go_at_call 18; refine (set_is _ _ _ _ _ _ (by assumption) (by first | rfl | assumption) (by assumption)).mono ?_; rintro e w5 ⟨rfl, hb5⟩; replace hS4 := hS4.later hb5; replace hS5 := hS5.later hb5; replace hS6 := hS6.later hb5; replace hb6 := hb6.trans (hb5.mono hb6.size))
            | (go_at_call 20; refine (all_is _ _ _ _ _ _ _ _ _ _ (by assumption) (by assumption) (by first | rfl | assumption) (by first | rfl | assumption) (by assumption) (by assumption) (by assumption)).mono ?_; rintro e w5 ⟨rfl, hb5⟩; replace hS4 := hS4.later hb5; replace hS5 := hS5.later hb5; replace hS6 := hS6.later hb5; replace hb6 := hb6.trans (hb5.mono hb6.size)))
          go_ret
          exact ⟨rfl, hb6⟩
        | succ m =>
          obtain ⟨x', hx', hcq⟩ := (hSw.later hbj).2 m (by omega)
          obtain rfl : x = x' := by simpa using hx'
          have hrev : (ss.drop m).reverse = (ss.drop (m + 1)).reverse ++ [ss.getD m ByteArray.empty] := by
            rw [drop_at ss m (by omega), List.reverse_cons]
          obtain ⟨q, hq⟩ : ∃ q, ss.getD m ByteArray.empty = q := ⟨_, rfl⟩
          rw [hq] at hcq hrev
          have HR : Hid ((ss.drop m).reverse = (ss.drop (m + 1)).reverse ++ [q]) := hrev
          have i0 : ((m : Int) + 1 - 1) = m := by omega
          have hll : (ss.drop (m + 1)).reverse.length ≤ 1000 := by simp; omega
          have hsz := hbj.size
          clear hrev hq hx' hss hk
          go_wp2_with (first
            | (at_builtin; refine append_strs rfl _ _ rfl w3.heap.size _ (N - (m + 1)) (ss.drop (m + 1)).reverse rfl (hrow.alloc _) (some ⟨_, 0, none⟩) 1 1 [q] rfl (strs_one (cz1 _ _)) rfl (fun h => by cases h) hll (by simp; omega) ?_; intro v' w' hown' hgrow')
            | go_in)
          go_roundw
          case rel =>
            refine ⟨m, by omega, rfl, ?_, (hbj.alloc hbj.size _).grown hgrow' (by simp; omega) (fun j hj => (hrow.lt j hj).1)⟩
            rw [HR.out]
            have e : N - m = N - (m + 1) + 1 := by omega
            rw [e]
            exact hown'
          case measure => simp [intOf]
  · have c0 : (0 : Int) < (c : Int) := by omega
    have c1 : (k : Int) + 1 ≤ c := by omega
    have c2 : ¬ (c = k + 1) := hc
    have c3 : ¬ (c = 0) := by omega
    have hA0 : Below w6.heap.size w6 w6.drew := (Below.refl _ _).drew
    have hckd : w6.drew.cell? (x.add k) = some (.string s) := hck
    have hp : w6.drew.cell? (x.add k) = some (.string s) ∧ Below w6.heap.size w6 w6.drew := ⟨hckd, hA0⟩
    have lt : (ss.take (k + 1)).length = k + 1 := by rw [List.length_take]; omega
    have ld : (ss.drop (k + 1)).length = N - (k + 1) := by rw [List.length_drop]; omega
    have hxb : (x.add k).block < w6.heap.size := block_lt hck
    go_region_held3 (fun w' => w'.cell? (x.add k) = some (.string s) ∧ Below w6.heap.size w6 w') (first | assumption | (exact ⟨cell_alloc (by assumption : _ ∧ Below _ _ _).1 _, alloc_below (by assumption : _ ∧ Below _ _ _).2 (Nat.le_refl _) _⟩))
      (first
        | (refine step_append_strs (by rfl) _ _ (by rfl) w6.heap.size _ 0 [] (by rfl) (own_zero (by first | exact hz1 _ _ | exact hz2 _ _ _ | exact hz3 _ _ _) (by omega)) x (k + 1) c (ss.take (k + 1)) (by rfl) (strs_take (hS.later (by assumption : _ ∧ Below w6.heap.size w6 _).2) (k + 1)) lt (by simp) (by assumption : _ ∧ Below w6.heap.size w6 _).2.size ?_
           intro v1 w1 hown1 hgrow1 hr1
           have h1 := grow_keep (by assumption) hgrow1 hr1 hxb
           replace hown1 : w1.ownsRow w6.heap.size 9 1 v1 (k + 1) ((ss.take (k + 1)).map Value.string) := by simpa using hown1)
        | (refine step_append_strs (by rfl) _ _ (by rfl) w6.heap.size v1 (k + 1) (ss.take (k + 1)) (by rfl) (by first | exact hown1 | exact hown1.alloc _) ⟨_, 0, none⟩ 1 1 [s] (by rfl) (strs_one (by first | exact cz1 _ _ | exact hgrow1.cell (cz2 _ _ _) (by simp [Value.ownBlock]) | exact hgrow1.cell (cz3 _ _ _) (by simp [Value.ownBlock]))) rfl (by omega) (by assumption : _ ∧ Below w6.heap.size w6 _).2.size ?_
           intro v2 w2 hown2 hgrow2 hr2
           have h2 := grow_keep (by assumption) hgrow2 hr2 hxb)
        | (refine step_append_strs (by rfl) _ _ (by rfl) w6.heap.size v2 (k + 1 + 1) (ss.take (k + 1) ++ [s]) (by rfl) hown2 ⟨x.block, x.off + (k + 1), none⟩ (N - (k + 1)) (c - (k + 1)) (ss.drop (k + 1)) (by rfl) (strs_drop (hS.later h2.2) k) ld (by simp; omega) h2.2.size ?_
           intro v3 w3 hown3 hgrow3 hr3
           have h3 := grow_keep (by assumption) hgrow3 hr3 hxb)
        | fail)
    all_goals
      have htw3 : w3.ownsRow w6.heap.size 9 1 v3 tw.length (tw.map Value.string) := by
        rw [← htw]
        have e : (ss.take (k + 1) ++ [s] ++ ss.drop (k + 1)).length = k + 1 + 1 + (N - (k + 1)) := by simp; omega
        rw [e]
        simpa using hown3
      obtain ⟨a3, c3, rfl, hS3, _, _⟩ := strs_of_own htw3 ltw
      have hSw := hS.later h3.2
      have hbw := hb1.trans (h3.2.mono hb1.size)
      clear hown1 hown2 hown3 hgrow1 hgrow2 hgrow3 hr1 hr2 hr3 h1 h2 hp hA0 hckd hxb hck hx' htw3 hS hb1
      go_wp2
      go_loopw [8, 9] (fun v i wr => ∃ j : Nat, j ≤ N ∧ i = .int .i64 j ∧ wr.ownsRow w3.heap.size 9 1 v (N - j) (((ss.drop j).reverse).map Value.string) ∧ Below w3.heap.size w3 wr) (fun _ i _ => (intOf i).toNat)
      case atStart => exact ⟨N, Nat.le_refl _, rfl, by rw [← hN, List.drop_length]; simpa using World.ownsRow_nil _ _ _ _, Below.refl _ _⟩
      case round =>
        obtain ⟨j, hj, rfl, hrow, hbj⟩ := hrel
        cases j with
        | zero =>
          obtain ⟨a4, c4, rfl, hS4, _, _⟩ := strs_of_own hrow (by simp; omega)
          have hS5 := hS3.later hbj
          have hS6 := hSw.later hbj
          have hb6 := hbw.trans (hbj.mono hbw.size)
          simp only [List.drop_zero, hrv] at hS4
          clear hS3 hSw hbw hbj hrow h3 htw hss hs
          go_wp2_with (first
            | (go_at_call 18; refine (set_is _ _ _ _ _ _ (by assumption) (by first | rfl | assumption) (by assumption)).mono ?_; rintro e w5 ⟨rfl, hb5⟩; replace hS4 := hS4.later hb5; replace hS5 := hS5.later hb5; replace hS6 := hS6.later hb5; replace hb6 := hb6.trans (hb5.mono hb6.size))
            | (go_at_call 20; refine (all_is _ _ _ _ _ _ _ _ _ _ (by assumption) (by assumption) (by first | rfl | assumption) (by first | rfl | assumption) (by assumption) (by assumption) (by assumption)).mono ?_; rintro e w5 ⟨rfl, hb5⟩; replace hS4 := hS4.later hb5; replace hS5 := hS5.later hb5; replace hS6 := hS6.later hb5; replace hb6 := hb6.trans (hb5.mono hb6.size)))
          go_ret
          exact ⟨rfl, hb6⟩
        | succ m =>
          obtain ⟨x', hx', hcq⟩ := (hSw.later hbj).2 m (by omega)
          obtain rfl : x = x' := by simpa using hx'
          have hrev : (ss.drop m).reverse = (ss.drop (m + 1)).reverse ++ [ss.getD m ByteArray.empty] := by
            rw [drop_at ss m (by omega), List.reverse_cons]
          obtain ⟨q, hq⟩ : ∃ q, ss.getD m ByteArray.empty = q := ⟨_, rfl⟩
          rw [hq] at hcq hrev
          have HR : Hid ((ss.drop m).reverse = (ss.drop (m + 1)).reverse ++ [q]) := hrev
          have i0 : ((m : Int) + 1 - 1) = m := by omega
          have hll : (ss.drop (m + 1)).reverse.length ≤ 1000 := by simp; omega
          have hsz := hbj.size
          clear hrev hq hx' hss hk
          go_wp2_with (first
            | (at_builtin; refine append_strs rfl _ _ rfl w3.heap.size _ (N - (m + 1)) (ss.drop (m + 1)).reverse rfl (hrow.alloc _) (some ⟨_, 0, none⟩) 1 1 [q] rfl (strs_one (cz1 _ _)) rfl (fun h => by cases h) hll (by simp; omega) ?_; intro v' w' hown' hgrow')
            | go_in)
          go_roundw
          case rel =>
            refine ⟨m, by omega, rfl, ?_, (hbj.alloc hbj.size _).grown hgrow' (by simp; omega) (fun j hj => (hrow.lt j hj).1)⟩
            rw [HR.out]
            have e : N - m = N - (m + 1) + 1 := by omega
            rw [e]
            exact hown'
          case measure => simp [intOf]

set_option maxRecDepth 100000 in
set_option maxHeartbeats 2000000 in
theorem markOrder_none (n t : Int) (hss : marksTo n 4 = []) (w : World) :
    Calls Try.prog 7 #[.int .i64 n, .int .i64 t] w fun e w' => e = .returned (.bool true) ∧ Below w.heap.size w w' := by
  have hb0 : Below w.heap.size w w := Below.refl _ _
  have p1 : setB [] = true := rfl
  go_enter Try.func7, Try.ntmps7
  go_wp2_with (first
    | (go_at_call 9; refine (known_on _ _ hb0).mono ?_; rintro e w9 ⟨rfl, hb1⟩)
    | (go_at_call 17; refine (lSet_len _ _ 0 hss rfl _).mono ?_; rintro e w7 ⟨a, c, rfl, hNc, hS, hb7⟩; replace hb1 := hb1.trans (hb7.mono hb1.size))
    | (go_at_call 18; refine (set_is _ _ _ [] _ _ ⟨by simp, fun i hi => by simp at hi⟩ rfl p1).mono ?_; rintro e w8 ⟨rfl, hb8⟩; replace hb1 := hb1.trans (hb8.mono hb1.size)))
  go_ret
  exact ⟨rfl, hb1⟩

theorem twice_mem (ss : List ByteArray) (k : Nat) (h : ∀ s ∈ ss, s.size ≤ 100) : ∀ s ∈ twiceL ss k, s.size ≤ 100 := by
  intro s hs
  unfold twiceL at hs
  rcases List.mem_append.1 hs with hs | hs
  · rcases List.mem_append.1 hs with hs | hs
    · exact h s (List.mem_of_mem_take hs)
    · simp only [List.mem_singleton] at hs
      subst hs
      by_cases hk : k < ss.length
      · simp only [List.getD, List.getElem?_eq_getElem hk, Option.getD_some]
        exact h _ (List.getElem_mem hk)
      · simp only [List.getD, List.getElem?_eq_none (Nat.le_of_not_lt hk), Option.getD_none]
        exact Nat.zero_le _
  · exact h s (List.mem_of_mem_drop hs)

theorem markOrder_walk (a b : Int) (_h0 : (Lit.int .i64 a).wf = true) (_h1 : (Lit.int .i64 b).wf = true) (w : World) :
    Calls Try.prog 7 #[.int .i64 a, .int .i64 b] w fun e w' => e = .returned (.bool true) ∧ Below w.heap.size w w' := by
  have hle := marksTo_le a 4
  rcases Nat.eq_zero_or_pos (marksTo a 4).length with h0 | h0
  · exact markOrder_none a b (List.length_eq_zero_iff.1 h0) w
  · obtain ⟨k, hk⟩ : ∃ k : Nat, b % ((marksTo a 4).length : Int) = k := ⟨(b % ((marksTo a 4).length : Int)).toNat, by have := Int.emod_nonneg b (show ((marksTo a 4).length : Int) ≠ 0 by omega); omega⟩
    have hk1 : (k : Int) < (marksTo a 4).length := by have := Int.emod_lt_of_pos b (show (0 : Int) < (marksTo a 4).length by omega); omega
    have ho := order_of a k (by omega)
    have hd : decide (k < (marksTo a 4).length) = true := by simp; omega
    unfold orderOk at ho
    simp only [hd, Bool.not_true, Bool.false_or, Bool.and_eq_true, Bool.not_eq_true', beq_iff_eq] at ho
    obtain ⟨q1, ⟨⟨⟨q2, q3⟩, q4⟩, q5⟩, q6⟩ := ho
    have hm := marksTo_mem a 4
    refine markOrder_way a b (marksTo a 4) _ k _ rfl rfl (by omega) (by omega) hk hk1 rfl (twiceL (marksTo a 4) k) _ _ rfl ?_ rfl (by simp) rfl q1 q2 ?_ q4 q5 q6
      (getD_size _ hm) (getD_size _ (fun s hs => hm s (List.mem_reverse.1 hs))) (getD_size _ (twice_mem _ k hm)) w
    · unfold twiceL
      simp
      omega
    · rw [q3, Bool.eq_iff_iff]
      simp
      omega

end Go.Proofs.Ytkiamgfmclodmaa
