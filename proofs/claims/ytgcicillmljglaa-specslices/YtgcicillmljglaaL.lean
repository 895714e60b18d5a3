/- The set of marks of a number, as the statements make it. -/
import Derived.Test.YtgcicillmljglaaSL
import Derived.Test.YtgcicillmljglaaN
namespace Go.Proofs.Ytgcicillmljglaa
open Go.RowKit Go.Maps

/-- The four marks. -/
def four : List ByteArray := [⟨#[98, 105, 103]⟩, ⟨#[115, 115, 100]⟩, ⟨#[119, 101, 115, 116]⟩, ⟨#[206, 179]⟩]
/-- Is this bit of the number set? -/
def bit (n : Int) (k : Nat) : Bool := decide (n / 2 ^ k % 2 = 1)
/-- The marks of a number, of the first k. -/
def marksTo (n : Int) : Nat → List ByteArray
  | 0 => []
  | k + 1 => marksTo n k ++ if bit n k then [four.getD k ByteArray.empty] else []

theorem marksTo_le (n : Int) : ∀ k, (marksTo n k).length ≤ k
  | 0 => by simp [marksTo]
  | k + 1 => by
    have := marksTo_le n k
    rw [marksTo]
    split <;> simp <;> omega

set_option maxRecDepth 100000 in
set_option maxHeartbeats 4000000 in
theorem lSet_any (n : Int) (w : World) :
    Calls Try.prog 33 #[.int .i64 n] w fun e w' => ∃ a cap, e = .returned (.slice a (marksTo n 4).length cap) ∧ NewStrs w.heap.size w' a cap (marksTo n 4) ∧ Below w.heap.size w w' := by
  obtain ⟨i0, hi, hz0, hz1, hz2⟩ := info_parts info9
  go_enter Try.func33, Try.ntmps33
  go_wp2
  go_loopw [4, 5] (fun v i wr => ∃ k : Nat, k ≤ 4 ∧ i = .int .i64 k ∧ wr.ownsRow (w.heap.size + 1) 9 1 v (marksTo n k).length ((marksTo n k).map Value.string) ∧ Below w.heap.size w wr ∧ w.heap.size + 1 ≤ wr.heap.size ∧
      (∀ j, j < 4 → wr.cell? ⟨w.heap.size, j, none⟩ = some (.string (four.getD j ByteArray.empty))))
    (fun _ i _ => 4 - (intOf i).toNat)
  case atStart => exact ⟨0, Nat.zero_le _, rfl, World.ownsRow_nil _ _ _ _, (Below.refl _ _).alloc (Nat.le_refl _) _, by simp, fun j hj => by
    rcases (by omega : j = 0 ∨ j = 1 ∨ j = 2 ∨ j = 3) with rfl | rfl | rfl | rfl <;> simp [four]⟩
  case round =>
    obtain ⟨k, hk, rfl, hrow, hbw, hws, hc⟩ := hrel
    by_cases hlt : k < 4
    · obtain ⟨q, hq⟩ : ∃ q, n / 2 ^ k % 2 = q := ⟨_, rfl⟩
      have hck := hc k hlt
      obtain ⟨s, hs⟩ : ∃ s, four.getD k ByteArray.empty = s := ⟨_, rfl⟩
      rw [hs] at hck
      have hle := marksTo_le n k
      obtain ⟨ms, hms⟩ : ∃ ms, marksTo n k = ms := ⟨_, rfl⟩
      have hstep : Hid (marksTo n (k + 1) = ms ++ if q = 1 then [s] else []) := by
        show _ = _
        rw [marksTo, bit, hq, hms, hs]
        simp
      rw [hms] at hrow hle
      clear hms hs
      have hne : some w.heap.size ≠ u4.ownBlock := fun e => by
        have := (hrow.lt _ e.symm).1
        omega
      have HC : Hid (∀ j, j < 4 → wr.cell? ⟨w.heap.size, j, none⟩ = some (.string (four.getD j ByteArray.empty))) := hc
      clear hc
      rcases (by omega : q = 0 ∨ q = 1) with rfl | rfl
      · rcases (by omega : k = 0 ∨ k = 1 ∨ k = 2 ∨ k = 3) with rfl | rfl | rfl | rfl
        all_goals
          simp only [Int.pow_zero, Int.ediv_one, Int.reducePow] at hq
          go_wp2_with (go_at_call 39; refine (within2_any _ _ _ (by decide) (by decide) (by assumption) _).mono ?_; rintro e w2 ⟨rfl, rfl⟩)
          go_roundw
          case rel => exact ⟨_, hlt, rfl, by rw [hstep.out]; simpa using hrow, hbw, hws, HC.out⟩
          case measure => simp [intOf]
      · rcases (by omega : k = 0 ∨ k = 1 ∨ k = 2 ∨ k = 3) with rfl | rfl | rfl | rfl
        all_goals
          simp only [Int.pow_zero, Int.ediv_one, Int.reducePow] at hq
          go_wp2_with (first
            | (go_at_call 39; refine (within2_any _ _ _ (by decide) (by decide) (by assumption) _).mono ?_; rintro e w2 ⟨rfl, rfl⟩)
            | (at_builtin; refine wpList_append_own _ rfl _ _ 24 rfl (w.heap.size + 1) 9 i0 (.string ⟨#[]⟩) 1 16 Try.underlying24 hi hz0 hz1 hz2 rfl (by decide) _ _ _ rfl (hrow.alloc _) ⟨_, 0, none⟩ 1 1 [.string s] rfl rfl (cell_one_new _ _ _) (fun u hu => by simp at hu; subst hu; rfl) (by unfold maxLen; omega) (by omega) (by simp; omega) ?_; intro v' w1 hown' hgrow hnil)
            | go_in)
          go_roundw
          case rel =>
            refine ⟨_, hlt, rfl, by rw [hstep.out]; simpa using hown', (hbw.alloc hbw.size _).grown hgrow (by simp; omega) (fun j hj => by have := (hrow.lt j hj).1; omega), by have := hgrow.size; simp at this; omega, fun j hj => ?_⟩
            exact hgrow.cell (cell_alloc (HC.out j hj) _) hne
          case measure => simp [intOf]
    · have e4 : k = 4 := by omega
      subst e4
      obtain ⟨a, cap, rfl, hS⟩ := newStrs_of_own hrow (by have := marksTo_le n 4; omega)
      clear hrow
      go_wp2
      go_ret
      exact ⟨_, _, rfl, hS.low (by omega), hbw⟩

/-- A row of texts, whatever it lies in, appended to a row of the call's own. -/
theorem append_strs {w : World} {ops : Array Oper} {rest : List Oper} {o : Oper} {a : Act} {Q : Exit → Act → World → Prop} (hgd : o.guard = none) (s x : Operand)
    (ho : o.op = .call { callee := .builtin .append, args := #[s, x], argTypes := #[24, 24] })
    (base : Nat) (v : Value) (n : Nat) (xs : List ByteArray) (hs : a.eval s = v) (hown : w.ownsRow base 9 1 v n (xs.map Value.string))
    (av : Option Addr) (m c : Nat) (ts : List ByteArray) (hx : a.eval x = .slice av m c) (hS : Strs w av ts) (hm : ts.length = m) (hc : av = none → c = 0) (hl : xs.length ≤ 1000) (hbase : base ≤ w.heap.size)
    (h : ∀ v' w', w'.ownsRow base 9 1 v' (n + m) ((xs ++ ts).map Value.string) → w.grownBy w' v.ownBlock → wpList Try.prog ops Q rest (a.put o.dst v') w') : wpList Try.prog ops Q (o :: rest) a w := by
  obtain ⟨i0, hi, hz0, hz1, hz2⟩ := info_parts info9
  have hn : xs.length = n := by have := hown.1; simpa using this
  have h1000 := hS.1
  cases av with
  | none =>
    have hm0 : m = 0 := by
      rcases Nat.eq_zero_or_pos m with h0 | h0
      · exact h0
      · obtain ⟨x, hx, _⟩ := hS.2 0 (by omega)
        cases hx
    have ht : ts = [] := List.length_eq_zero_iff.1 (by omega)
    subst hm0
    subst ht
    rw [hc rfl] at hx
    refine wpList_append_own_none hgd s x 24 ho base 9 i0 1 Try.underlying24 hi v n (xs.map Value.string) hs hown hx ?_
    exact h v w (by simpa using hown) (World.grownBy.refl _ _)
  | some ad =>
    refine wpList_append_own w hgd s x 24 ho base 9 i0 (.string ⟨#[]⟩) 1 16 Try.underlying24 hi hz0 hz1 hz2 rfl (by decide) v n (xs.map Value.string) hs hown ad m c (ts.map Value.string) hx (by simp [hm]) (strs_news hS) (strings_oneCell ts) (by unfold maxLen; omega) (by omega) hbase ?_
    intro v' w' h1 h2 _
    exact h v' w' (by rw [List.map_append]; exact h1) h2

end Go.Proofs.Ytgcicillmljglaa
