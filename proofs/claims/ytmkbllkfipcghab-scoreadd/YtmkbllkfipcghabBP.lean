/- What Best answers, in plain words: none goes ahead of it, and it goes ahead of all that stand before it. -/
import Derived.Test.YtmkbllkfipcghabBE
namespace Go.Proofs.Ytmkbllkfipcghab
open Go.RowKit

theorem HasRow.later {w w1 : World} {a : Option Addr} {len : Nat} {zs : List Int} (h : HasRow w a len zs) (hb : Below w.heap.size w w1) : HasRow w1 a len zs :=
  ⟨h.1, fun i hi => by
    obtain ⟨x, hx, hc⟩ := h.2 i hi
    exact ⟨x, hx, cell_below hb hc (block_lt hc)⟩⟩

theorem bl_irr : ∀ x : List UInt8, Op.bytesLess x x = false
  | [] => rfl
  | a :: x => by simp [Op.bytesLess, bl_irr x]
theorem bl_asymm : ∀ x y : List UInt8, Op.bytesLess x y = true → Op.bytesLess y x = false
  | _, [], h => by cases ‹List UInt8› <;> simp [Op.bytesLess] at h
  | [], b :: y, _ => by simp [Op.bytesLess]
  | a :: x, b :: y, h => by
    simp only [Op.bytesLess, Bool.or_eq_true, Bool.and_eq_true, decide_eq_true_eq, beq_iff_eq, Bool.or_eq_false_iff, Bool.and_eq_false_iff, decide_eq_false_iff_not, beq_eq_false_iff_ne] at h ⊢
    rcases h with h | ⟨rfl, h⟩
    · rw [UInt8.lt_iff_toNat_lt] at h
      refine ⟨by rw [UInt8.lt_iff_toNat_lt]; omega, .inl fun e => by rw [e] at h; omega⟩
    · exact ⟨by rw [UInt8.lt_iff_toNat_lt]; omega, .inr (bl_asymm x y h)⟩
theorem bl_weak : ∀ x y z : List UInt8, Op.bytesLess x y = true → Op.bytesLess x z = true ∨ Op.bytesLess z y = true
  | x, [], _, h => by cases x <;> simp [Op.bytesLess] at h
  | [], b :: y, [], _ => by simp [Op.bytesLess]
  | [], b :: y, c :: z, _ => by simp [Op.bytesLess]
  | a :: x, b :: y, [], _ => by simp [Op.bytesLess]
  | a :: x, b :: y, c :: z, h => by
    have ih := bl_weak x y z
    simp only [Op.bytesLess, Bool.or_eq_true, Bool.and_eq_true, decide_eq_true_eq, beq_iff_eq] at h ⊢
    simp only [UInt8.lt_iff_toNat_lt, ← UInt8.toNat_inj] at h ⊢
    rcases Nat.lt_trichotomy a.toNat c.toNat with h1 | h1 | h1
    · exact .inl (.inl h1)
    · rcases h with h | ⟨h, hl⟩
      · exact .inr (.inl (by omega))
      · rcases ih hl with h2 | h2
        · exact .inl (.inr ⟨h1, h2⟩)
        · exact .inr (.inr ⟨by omega, h2⟩)
    · rcases h with h | ⟨h, hl⟩
      · exact .inr (.inl (by omega))
      · exact .inr (.inl (by omega))

theorem bet_iff (n : ByteArray) (s : Int) (bn : ByteArray) (bs : Int) : betB n s bn bs = true ↔ bs < s ∨ (s = bs ∧ Op.bytesLess n.toList bn.toList = true) := by
  simp [betB]
theorem bet_asymm {n bn : ByteArray} {s bs : Int} (h : betB n s bn bs = true) : betB bn bs n s = false := by
  cases hx : betB bn bs n s with
  | false => rfl
  | true =>
    rw [bet_iff] at h hx
    rcases h with h | ⟨h, hl⟩ <;> rcases hx with hx | ⟨hx, hy⟩
    · omega
    · omega
    · omega
    · rw [bl_asymm _ _ hl] at hy; cases hy
theorem bet_weak {n bn : ByteArray} {s bs : Int} (m : ByteArray) (t : Int) (h : betB n s bn bs = true) : betB n s m t = true ∨ betB m t bn bs = true := by
  simp only [bet_iff] at h ⊢
  rcases h with h | ⟨h, hl⟩
  · rcases Int.lt_trichotomy t s with h1 | h1 | h1
    · exact .inl (.inl h1)
    · exact .inr (.inl (by omega))
    · exact .inr (.inl (by omega))
  · rcases Int.lt_trichotomy t s with h1 | h1 | h1
    · exact .inl (.inl h1)
    · rcases bl_weak _ _ m.toList hl with h2 | h2
      · exact .inl (.inr ⟨h1.symm, h2⟩)
      · exact .inr (.inr ⟨by omega, h2⟩)
    · exact .inr (.inl (by omega))

/-- Does the one at i go ahead of the one at j? -/
def betAt (ss : List ByteArray) (zs : List Int) (i j : Nat) : Bool := betB (ss.getD i ByteArray.empty) (zs.getD i 0) (ss.getD j ByteArray.empty) (zs.getD j 0)

theorem bst_prop (ss : List ByteArray) (zs : List Int) : ∀ n, 0 < n → ∃ b : Nat, bstAt ss zs n = b ∧ b < n ∧ (∀ i, i < n → betAt ss zs i b = false) ∧ ∀ i, i < b → betAt ss zs b i = true
  | 0, h => by omega
  | 1, _ => ⟨0, by simp [bstAt], by omega, fun i hi => by
      obtain rfl : i = 0 := by omega
      simp [betAt, betB, bl_irr], fun i hi => by omega⟩
  | n + 2, _ => by
    obtain ⟨b, h1, h2, h3, h4⟩ := bst_prop ss zs (n + 1) (by omega)
    have e : bstAt ss zs (n + 2) = if betAt ss zs (n + 1) b then ((n + 1 : Nat) : Int) else (b : Int) := by
      rw [bstAt, h1, if_neg (by omega), Int.toNat_natCast]
      rfl
    cases hx : betAt ss zs (n + 1) b with
    | false =>
      refine ⟨b, by rw [e, hx]; rfl, by omega, fun i hi => ?_, h4⟩
      rcases Nat.lt_or_ge i (n + 1) with h | h
      · exact h3 i h
      · obtain rfl : i = n + 1 := by omega
        exact hx
    | true =>
      refine ⟨n + 1, by rw [e, hx]; rfl, by omega, fun i hi => ?_, fun i hi => ?_⟩
      · rcases Nat.lt_or_ge i (n + 1) with h | h
        · cases hy : betAt ss zs i (n + 1) with
          | false => rfl
          | true =>
            rcases bet_weak (ss.getD b ByteArray.empty) (zs.getD b 0) hy with h5 | h5
            · have := h3 i h; unfold betAt at this; rw [this] at h5; cases h5
            · have h6 := bet_asymm hx; rw [h6] at h5; cases h5
        · obtain rfl : i = n + 1 := by omega
          simp [betAt, betB, bl_irr]
      · rcases bet_weak (ss.getD i ByteArray.empty) (zs.getD i 0) hx with h5 | h5
        · exact h5
        · have := h3 i hi; unfold betAt at this; rw [this] at h5; cases h5

end Go.Proofs.Ytmkbllkfipcghab
