/- The tape: New, hold. -/
import Derived.Test.YtmldpihjndafaabDoorUF
import Derived.Deep.RegionHeld3
namespace Go.Proofs.YtmldpihjndafaabDoor
open Go.RowKit
set_option linter.unusedSimpArgs false
set_option linter.unusedVariables false

/-- A tape's row: what lasts, the sign if there is one, the rest. -/
def rowOf (A B : List ByteArray) (s : Bool) : List TC := A.map TC.line ++ (if s then [TC.sgn] else []) ++ B.map TC.line

theorem rowOf_len (A B : List ByteArray) (s : Bool) : (rowOf A B s).length = A.length + (if s then 1 else 0) + B.length := by
  cases s <;> simp [rowOf] <;> omega

theorem lines_rowOf (A B : List ByteArray) (s : Bool) : linesC (rowOf A B s) = A ++ B := by
  have hm : ∀ l : List ByteArray, (l.map TC.line).filterMap lnC = l := by
    intro l
    induction l with
    | nil => rfl
    | cons x l ih => simp only [List.map_cons, List.filterMap_cons, lnC]; rw [ih]
  cases s
  · simp only [linesC, rowOf, List.filterMap_append, hm]; simp
  · simp only [linesC, rowOf, List.filterMap_append, hm]; simp [lnC]

theorem lastS_none (r : List TC) : ∀ k, (∀ i, i < k → isSg (r.getD i .nul) = false) → lastS r k = -1
  | 0, _ => rfl
  | k + 1, h => by
    rw [lastS, h k (Nat.lt_succ_self _)]
    exact lastS_none r k fun i hi => h i (by omega)

theorem lastS_find (r : List TC) (a : Nat) (ha : isSg (r.getD a .nul) = true) : ∀ k, a < k → (∀ i, a < i → i < k → isSg (r.getD i .nul) = false) → lastS r k = a
  | 0, h, _ => by omega
  | k + 1, h, hn => by
    rw [lastS]
    by_cases hk : k = a
    · subst hk; rw [ha]; rfl
    · rw [hn k (by omega) (Nat.lt_succ_self _)]
      exact lastS_find r a ha k (by omega) fun i h1 h2 => hn i h1 (by omega)

theorem line_not (l : List ByteArray) (i : Nat) : isSg ((l.map TC.line).getD i .nul) = false := by
  by_cases h : i < l.length
  · simp [List.getD, h, isSg]
  · simp [List.getD, h, isSg]

theorem at_false (B : List ByteArray) : lastS (rowOf [] B false) (rowOf [] B false).length = -1 := by
  refine lastS_none _ _ fun i _ => ?_
  simpa [rowOf] using line_not B i

theorem at_true (A B : List ByteArray) : lastS (rowOf A B true) (rowOf A B true).length = A.length := by
  have e : rowOf A B true = A.map TC.line ++ TC.sgn :: B.map TC.line := by simp [rowOf]
  rw [e]
  refine lastS_find _ _ ?_ _ (by simp) fun i h1 h2 => ?_
  · simp [List.getD, isSg]
  · have : (A.map TC.line ++ TC.sgn :: B.map TC.line).getD i .nul = (B.map TC.line).getD (i - (A.length + 1)) .nul := by
      simp only [List.getD]
      rw [List.getElem?_append_right (by simp; omega)]
      rw [show i - (A.map TC.line).length = (i - (A.length + 1)) + 1 by simp; omega]
      rfl
    rw [this]
    exact line_not B _

theorem new_any (w : World) : Calls Tryd.prog 5 #[] w fun e w' => e = .returned (.pointer (some ⟨w.heap.size, 0, none⟩)) ∧ IsTape w' w.heap.size (.slice none 0 0) (rowOf [] [] false) ∧ Below w.heap.size w w' := by
  go_enter Tryd.func5, Tryd.ntmps5
  go_wp2
  go_ret
  exact ⟨rfl, ⟨Box.new w _ _ rfl, by simp [World.ownsRow, rowOf], by simp [Value.ownBlock], by simp [rowOf]⟩, up (Below.refl _ _) _⟩

theorem cut_false (B : List ByteArray) (k : Nat) (hk : k ≤ B.length) : (rowOf [] B false).take k ++ (rowOf [] B false).drop (rowOf [] B false).length = rowOf [] (B.take k) false := by
  simp [rowOf, List.map_take]
theorem cut_true (A B : List ByteArray) (k : Nat) (hk : k ≤ B.length) : (rowOf A B true).take (A.length + 1 + k) ++ (rowOf A B true).drop (rowOf A B true).length = rowOf A (B.take k) true := by
  rw [List.drop_length, List.append_nil]
  simp only [rowOf, if_true, List.append_assoc]
  rw [List.take_append, List.take_of_length_le (by simp; omega)]
  simp only [List.length_map, List.singleton_append]
  rw [show A.length + 1 + k - A.length = k + 1 by omega, List.take_succ_cons, List.map_take]
theorem out_true (A B : List ByteArray) : (rowOf A B true).take A.length ++ (rowOf A B true).drop (A.length + 1) = (A ++ B).map TC.line := by
  have e : rowOf A B true = A.map TC.line ++ TC.sgn :: B.map TC.line := by simp [rowOf]
  rw [e, List.take_append, List.drop_append]
  rw [List.drop_eq_nil_of_le (by simp)]
  simp [List.take_of_length_le]
theorem put_sgn (l : List ByteArray) : l.map TC.line ++ [TC.sgn] = rowOf l [] true := by simp [rowOf]


theorem w64 (z : Int) (h0 : -9223372036854775808 ≤ z) (h1 : z ≤ 9223372036854775807) : IntKind.i64.wrap z = z := by
  simp [IntKind.wrap, IntKind.bits, IntKind.signed]; omega

theorem cell_first (w : World) (x : Value) (t : TypeId) : (w.alloc (.cells #[x] t)).cell? ⟨w.heap.size, 0, none⟩ = some x := (Box.new w #[x] t rfl).cell rfl

/-- Behind the append and the store. -/
theorem tape_put {w1 wc w4 : World} {T k : Nat} {v v3 v4 : Value} {R : List TC} {u : TC} {o : Obj} (hK3 : KT T v w1 wc) (hn3 : NewOr w1 v v3) (hX3 : Box wc T #[v3] 47) (hne3 : v3.ownBlock ≠ some T) (hX4 : Box w4 T #[v3] 47)
    (ho4 : w4.ownsRow 0 20 1 v4 (k + 1) (R.map encC ++ [encC u])) (hk : R.length = k) (hkl : k < 1000000) (hg4 : (wc.alloc o).grownBy w4 v3.ownBlock) (hn4 : NewOr (wc.alloc o) v3 v4) :
    IsTape (w4.setCell ⟨T, 0, none⟩ v4) T v4 (R ++ [u]) ∧ KT T v w1 (w4.setCell ⟨T, 0, none⟩ v4) ∧ NewOr w1 v v4 := by
  have hT := hX3.lt
  have hne4 : v4.ownBlock ≠ some T := by
    intro e
    rcases hn4 T e with h | h
    · exact hne3 h
    · simp at h; omega
  have hn4' : NewOr wc v3 v4 := fun g hg => by
    rcases hn4 g hg with h | h
    · exact .inl h
    · right; simp at h; omega
  refine ⟨⟨hX4.set 0 _, ?_, hne4, by simp [hk]; omega⟩, ?_, hn3.trans hK3.size hn4'⟩
  · have := ownsRow_setCell_other ho4 (a := ⟨T, 0, none⟩) hne4 v4
    simpa [hk] using this
  · exact hK3.trans hn3 (((KT.of_below (up (Below.refl _ _) o)).trans (NewOr.refl _ _) (KT.of_grown hg4)).trans (NewOr.refl _ _) (KT.set T _ _ _ _))

set_option maxRecDepth 100000 in
set_option maxHeartbeats 4000000 in
theorem hold_no (w : World) (T : Nat) (v : Value) (R : List TC) (n : Int) (k : Nat) (h : IsTape w T v R) (hat : lastS R R.length = -1) (hk : (k : Int) = min (max n 0) R.length) (hB : R.length < 1000000) (hn : -9223372036854775808 ≤ n ∧ n ≤ 9223372036854775807) :
    Calls Tryd.prog 21 #[.pointer (some ⟨T, 0, none⟩), .int .i64 n] w fun e w' => e = .returned (.tuple #[]) ∧ ∃ v', IsTape w' T v' (R.take k ++ [.sgn]) ∧ KT T v w w' ∧ NewOr w v v' := by
  obtain ⟨a, c, rfl, hcs⟩ := h.cs
  have ka := signAt_any a c _ w hcs
  rw [hat] at ka
  have hX := h.box
  have hrow := h.row
  have hne := h.ne
  have hTw := hX.lt
  have hkR : k ≤ R.length := by omega
  have kd := fun W hW => delete_own 0 (.slice a R.length c) R k R.length W hW hkR (Nat.le_refl _) (by omega)
  rw [List.drop_length, List.append_nil] at kd
  have hlk : (R.take k).length = k := by simp; omega
  rw [hlk] at kd
  obtain ⟨len, hlen⟩ : ∃ len, R.length = len := ⟨_, rfl⟩
  rw [hlen] at hk hB ka hrow hkR kd hX hne ⊢
  have hlen' : Hid (R.length = len) := hlen
  clear h hcs hlen
  have c0 : w.cell? ⟨T, 0, none⟩ = some (.slice a len c) := hX.cell rfl
  go_enter Tryd.func21, Tryd.ntmps21
  go_upto_region 2 with (first
    | (go_at_call 23; refine ka.mono ?_; rintro e w1 ⟨rfl, rfl⟩))
  go_cut [6] (fun s6 wx => s6 = .int .i64 k ∧ wx = w1)
  case first =>
    go_wp2
    all_goals
      go_meet
      case rel => exact ⟨by congr 1; omega, rfl⟩
  case rest =>
    obtain ⟨rfl, hq⟩ := hcut
    rw [hq]
    clear hq
    have hrow' := hrow.drew
    have c0' : w1.drew.cell? ⟨T, 0, none⟩ = some (.slice a len c) := c0
    have f0' : w1.drew.frozen? ⟨T, 0, none⟩ = false := hX.frozen 0
    clear ka hk
    have hk1 : k ≤ 1000000 := by omega
    have hw : IntKind.i64.wrap (IntKind.i64.wrap 0 + (k : Int)) = k := by rw [w64 0 (by omega) (by omega), Int.zero_add, w64 _ (by omega) (by omega)]
    have hkR' := hkR
    clear hlk hkR hn
    go_upto_region 3 with fail
    go_cut [] (fun wx => ∃ a2 c2, Box wx T #[.slice a2 k c2] 47 ∧ wx.ownsRow 0 20 1 (.slice a2 k c2) k ((R.take k).map encC) ∧ (Value.slice a2 k c2).ownBlock = (Value.slice a len c).ownBlock ∧ KT T (.slice a len c) w1 wx)
    case first =>
      go_region_with (first
        | (go_at_call 34; try rw [hw]
           refine (kd _ hrow').mono ?_
           rintro e w2 ⟨v2, rfl, ho2, hb2, hg2⟩
           have hX2 := hX.drew.grown hg2 (fun e => hne e.symm)
           obtain ⟨a2, c2, rfl⟩ := slice_of_own ho2
           have d0 : w2.cell? ⟨T, 0, none⟩ = some (.slice a len c) := hX2.cell rfl
           have f0 := hX2.frozen 0)
        | fail)
      all_goals
        go_wp2
        go_meet
        case rel =>
          have hg3 : w1.grownBy w2 (Value.slice a len c).ownBlock := ⟨hg2.os, hg2.tape, hg2.output, hg2.size, hg2.block⟩
          refine ⟨a2, c2, hX2.set 0 _, ownsRow_setCell_other ho2 (by rw [hb2]; exact hne) _, hb2, ?_⟩
          exact (KT.of_grown hg3).trans (fun g hg => .inl (hb2 ▸ hg)) (KT.set T _ _ _ _)
    case rest =>
      obtain ⟨a2, c2, hX3, ho3, hb3, hK3⟩ := hcut
      have c3 : wc.cell? ⟨T, 0, none⟩ = some (.slice a2 k c2) := hX3.cell rfl
      have f3 := hX3.frozen 0
      clear kd hrow' c0' f0' hw
      have hkR : k ≤ R.length := by rw [hlen'.out]; exact hkR'
      have hne3 : (Value.slice a2 k c2).ownBlock ≠ some T := by rw [hb3]; exact hne
      go_wp2_with (first
        | (at_builtin; refine wpList_append_any rfl _ _ rfl 0 _ _ _ rfl (ho3.alloc _) ⟨_, 0, none⟩ (encC .sgn) rfl (cell_first _ _ _) rfl (by omega) (by omega) ?_
           intro v4 w4 ho4 hg4 hn4
           have hX4 := (hX3.up _).grown hg4 (fun e => hne3 e.symm)
           obtain ⟨a4, c4, rfl⟩ := slice_of_own ho4
           have f4 := hX4.frozen 0
           have d4 : w4.cell? ⟨T, 0, none⟩ = some (.slice a2 k c2) := hX4.cell rfl))
      go_end0
      have hz := tape_put hK3 (fun g hg => .inl (hb3 ▸ hg)) hX3 hne3 hX4 ho4 (by simp; omega) (by omega) hg4 hn4
      exact ⟨rfl, _, hz.1, hz.2.1, hz.2.2⟩

end Go.Proofs.YtmldpihjndafaabDoor
