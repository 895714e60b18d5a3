/- What Best answers with one more behind, and with one that scores less. -/
import Derived.Test.YtmkbllkfipcghabBP
namespace Go.Proofs.Ytmkbllkfipcghab
open Go.RowKit

theorem getD_left {α : Type} (l r : List α) (d : α) (i : Nat) (h : i < l.length) : (l ++ r).getD i d = l.getD i d := by
  simp [List.getElem?_append_left h]
theorem getD_at {α : Type} (l : List α) (x d : α) : (l ++ [x]).getD l.length d = x := by simp

theorem bst_front (ss : List ByteArray) (zs : List Int) (t : ByteArray) (z : Int) : ∀ n, n ≤ ss.length → n ≤ zs.length → bstAt (ss ++ [t]) (zs ++ [z]) n = bstAt ss zs n
  | 0, _, _ => rfl
  | n + 1, h1, h2 => by
    have ih := bst_front ss zs t z n (by omega) (by omega)
    rw [bstAt, bstAt, ih, getD_left ss [t] _ n (by omega), getD_left zs [z] _ n (by omega)]
    by_cases h : bstAt ss zs n < 0
    · rw [if_pos h, if_pos h]
    · have hb := bst_lt ss zs n
      rw [if_neg h, if_neg h, getD_left ss [t] _ _ (by omega), getD_left zs [z] _ _ (by omega)]

theorem bst_behind (ss : List ByteArray) (zs : List Int) (t : ByteArray) (z : Int) (n q : Nat) (hs : ss.length = n) (hz : zs.length = n) (hq : bstAt ss zs n = q) (hqn : q < n) :
    bstAt (ss ++ [t]) (zs ++ [z]) (n + 1) = if betB t z (ss.getD q ByteArray.empty) (zs.getD q 0) then (n : Int) else (q : Int) := by
  rw [bstAt, bst_front ss zs t z n (by omega) (by omega), hq, if_neg (by omega), Int.toNat_natCast, getD_left ss [t] _ q (by omega), getD_left zs [z] _ q (by omega)]
  have e1 : (ss ++ [t]).getD n ByteArray.empty = t := by rw [← hs]; exact getD_at _ _ _
  have e2 : (zs ++ [z]).getD n 0 = z := by rw [← hz]; exact getD_at _ _ _
  rw [e1, e2]

theorem bst_unique (ss : List ByteArray) (zs : List Int) (n b : Nat) (h1 : b < n) (h2 : ∀ i, i < n → betAt ss zs i b = false) (h3 : ∀ i, i < b → betAt ss zs b i = true) : bstAt ss zs n = b := by
  obtain ⟨c, e1, e2, e3, e4⟩ := bst_prop ss zs n (by omega)
  rw [e1]
  rcases Nat.lt_trichotomy b c with h | h | h
  · have := e4 b h
    rw [h2 c e2] at this
    cases this
  · rw [h]
  · have := h3 c h
    rw [e3 b h1] at this
    cases this

theorem getD_set (zs : List Int) (p i : Nat) (z : Int) (hp : p < zs.length) : (zs.set p z).getD i 0 = if i = p then z else zs.getD i 0 := by
  simp only [List.getD_eq_getElem?_getD]
  by_cases h : i = p
  · subst h
    simp [hp]
  · rw [if_neg h, List.getElem?_set_ne (fun e => h e.symm)]

/-- One that scores less than it did does not matter to the best one. -/
theorem bst_less (ss : List ByteArray) (zs : List Int) (n q p : Nat) (z : Int) (hz : zs.length = n) (hq : bstAt ss zs n = q) (hp : p < n) (hne : p ≠ q) (hlt : z < zs.getD p 0) : bstAt ss (zs.set p z) n = q := by
  obtain ⟨c, e1, e2, e3, e4⟩ := bst_prop ss zs n (by omega)
  obtain rfl : c = q := by have := e1.symm.trans hq; omega
  have ec : (zs.set p z).getD c 0 = zs.getD c 0 := by rw [getD_set zs p c z (by omega), if_neg (fun e => hne e.symm)]
  refine bst_unique ss _ n c e2 (fun i hi => ?_) (fun i hi => ?_)
  · have h := e3 i hi
    unfold betAt at h ⊢
    rw [ec, getD_set zs p i z (by omega)]
    by_cases hip : i = p
    · subst hip
      rw [if_pos rfl]
      cases hx : betB (ss.getD i ByteArray.empty) z (ss.getD c ByteArray.empty) (zs.getD c 0) with
      | false => rfl
      | true =>
        rw [bet_iff] at hx
        have : betB (ss.getD i ByteArray.empty) (zs.getD i 0) (ss.getD c ByteArray.empty) (zs.getD c 0) = true := (bet_iff _ _ _ _).2 (.inl (by rcases hx with hx | ⟨hx, _⟩ <;> omega))
        rw [h] at this
        cases this
    · rw [if_neg hip]; exact h
  · have h := e4 i hi
    unfold betAt at h ⊢
    rw [ec, getD_set zs p i z (by omega)]
    by_cases hip : i = p
    · subst hip
      rw [if_pos rfl]
      rw [bet_iff] at h ⊢
      exact .inl (by rcases h with h | ⟨h, _⟩ <;> omega)
    · rw [if_neg hip]; exact h

/-- The name of a place. -/
def nmA (k : Nat) : ByteArray := ⟨#[110, UInt8.ofNat (97 + k)]⟩
theorem pre_n (x : UInt8) : (⟨#[110]⟩ : ByteArray) ++ ⟨#[x]⟩ = ⟨#[110, x]⟩ := by
  apply ByteArray.ext
  simp
/-- The first m names. -/
def lstA : Nat → List ByteArray
  | 0 => []
  | m + 1 => lstA m ++ [nmA m]
theorem lstA_len : ∀ m, (lstA m).length = m
  | 0 => rfl
  | m + 1 => by simp [lstA, lstA_len m]

end Go.Proofs.Ytmkbllkfipcghab
