/- Texts of lines, read: what the reader's words, numbers, names, places, nodes are at the texts that the writer writes. -/
import Derived.Test.YtlehlbgaboifoabGreatDoorMg09
import Derived.Lib.DecodeN
import Derived.Lib.ItoaNum
namespace Go.Proofs.YtlehlbgaboifoabGreatDoor
open Go.RowKit
set_option linter.unusedSimpArgs false
set_option linter.unusedVariables false

/-- Bytes as a text. -/
abbrev bs (l : List UInt8) : ByteArray := ⟨l.toArray⟩
/-- The rune with which bytes begin. -/
def decL (l : List UInt8) : Nat × Nat := Lib.decodeN l.length (l.getD 0 0).toNat (l.getD 1 0).toNat (l.getD 2 0).toNat (l.getD 3 0).toNat

theorem get_list (s : ByteArray) (i : Nat) : s.get! i = s.data.toList.getD i 0 := by
  cases s with
  | mk d =>
    show d[i]! = d.toList.getD i 0
    by_cases h : i < d.size
    · rw [getElem!_pos d i h]; simp [List.getD, h]
    · rw [getElem!_neg d i h]; simp [List.getD, h]; rfl

theorem decode_bs (l : List UInt8) (pos : Nat) : Utf8.decode (bs l) pos = decL (l.drop pos) := by
  have hz : (bs l).size = l.length := by show l.toArray.size = _; simp
  rw [Lib.decode_at, get_list, get_list, get_list, get_list, hz]
  simp [decL, List.getD, List.getElem?_drop, bs]

/-- Bytes that are runes of one or two bytes, none of which is a sign. -/
inductive Clean : List UInt8 → Prop
  | nil : Clean []
  | one (c : UInt8) (u : List UInt8) : c.toNat < 128 → sgn c.toNat = false → Clean u → Clean (c :: u)
  | two (a b : UInt8) (u : List UInt8) : a.toNat / 32 = 6 → b.toNat / 64 = 2 → 128 ≤ a.toNat % 32 * 64 + b.toNat % 64 → Clean u → Clean (a :: b :: u)

theorem decL_one (c : UInt8) (u : List UInt8) (h : c.toNat < 128) : decL (c :: u) = (c.toNat, 1) := by
  simp [decL, Lib.decodeN, h]

theorem decL_two (a b : UInt8) (u : List UInt8) (h1 : a.toNat / 32 = 6) (h2 : b.toNat / 64 = 2) (h3 : 128 ≤ a.toNat % 32 * 64 + b.toNat % 64) : decL (a :: b :: u) = (a.toNat % 32 * 64 + b.toNat % 64, 2) := by
  have : ¬ a.toNat < 128 := by omega
  simp [decL, Lib.decodeN, this, h1, h2, h3]

theorem sgn_high (n : Nat) (h : 128 ≤ n) : sgn (n : Int) = false := by
  unfold sgn
  simp
  omega

theorem tk_clean : ∀ (u : List UInt8), Clean u → ∀ (l : List UInt8) (pos f : Nat) (x : List UInt8), l.drop pos = u ++ x → u.length ≤ f →
    ∃ f', f - u.length ≤ f' ∧ tkR (bs l) f pos = tkR (bs l) f' (pos + u.length) ∧ l.drop (pos + u.length) = x := by
  intro u hu
  induction hu with
  | nil => intro l pos f x h _; exact ⟨f, by simp, by simp, by simpa using h⟩
  | one c u hc hs _ ih =>
    intro l pos f x h hf
    obtain ⟨f, rfl⟩ : ∃ f', f = f' + 1 := ⟨f - 1, by simp at hf; omega⟩
    have hz : (bs l).size = l.length := by show l.toArray.size = _; simp
    have hp : pos < l.length := by
      have := congrArg List.length h
      simp at this
      omega
    have hd : Utf8.decode (bs l) pos = (c.toNat, 1) := by rw [decode_bs, h]; exact decL_one c _ hc
    have hd2 : l.drop (pos + 1) = u ++ x := by
      rw [← List.drop_drop, h]; rfl
    obtain ⟨f', h1, h2, h3⟩ := ih l (pos + 1) f x hd2 (by simp at hf; omega)
    refine ⟨f', by simp; omega, ?_, ?_⟩
    · rw [tkR, hz, if_pos hp, hd]
      simp only [hs, Bool.false_eq_true, if_false]
      rw [h2]
      congr 1
      simp; omega
    · rw [← h3]; congr 1; simp; omega
  | two a b u ha hb hab _ ih =>
    intro l pos f x h hf
    obtain ⟨f, rfl⟩ : ∃ f', f = f' + 1 := ⟨f - 1, by simp at hf; omega⟩
    have hz : (bs l).size = l.length := by show l.toArray.size = _; simp
    have hp : pos < l.length := by
      have := congrArg List.length h
      simp at this
      omega
    have hd : Utf8.decode (bs l) pos = (a.toNat % 32 * 64 + b.toNat % 64, 2) := by rw [decode_bs, h]; exact decL_two a b _ ha hb hab
    have hd2 : l.drop (pos + 2) = u ++ x := by
      rw [← List.drop_drop, h]; rfl
    obtain ⟨f', h1, h2, h3⟩ := ih l (pos + 2) f x hd2 (by simp at hf; omega)
    refine ⟨f', by simp; omega, ?_, ?_⟩
    · rw [tkR, hz, if_pos hp, hd]
      simp only [sgn_high _ hab, Bool.false_eq_true, if_false]
      rw [h2]
      congr 1
      simp; omega
    · rw [← h3]; congr 1; simp; omega

/-- What may stand behind a word: nothing, or a sign. -/
def Tail : List UInt8 → Prop
  | [] => True
  | c :: _ => c.toNat < 128 ∧ sgn c.toNat = true
/-- The sign ahead, and the rest. -/
def nxt : List UInt8 → Int × ByteArray
  | [] => (-2, ⟨#[]⟩)
  | c :: x => (c.toNat, bs x)

theorem extract_front (u x : List UInt8) : (bs (u ++ x)).extract 0 u.length = bs u := by
  apply ByteArray.ext
  simp [bs, ByteArray.data_extract]
theorem extract_back (u : List UInt8) (c : UInt8) (x : List UInt8) : (bs (u ++ c :: x)).extract (u.length + 1) (bs (u ++ c :: x)).size = bs x := by
  have hz : (bs (u ++ c :: x)).size = (u ++ c :: x).length := by show (u ++ c :: x).toArray.size = _; simp
  apply ByteArray.ext
  rw [ByteArray.data_extract, hz]
  apply Array.toList_inj.1
  simp [bs, List.drop_append]
  rw [List.drop_eq_nil_of_le (by omega), List.nil_append, List.take_of_length_le (by omega)]

theorem takeF_text (g : Int) (u y : List UInt8) (hu : Clean u) (hy : Tail y) : takeF g g (bs (u ++ y)) = (bs u, nxt y) := by
  have hz : (bs (u ++ y)).size = (u ++ y).length := by show (u ++ y).toArray.size = _; simp
  obtain ⟨f', h1, h2, h3⟩ := tk_clean u hu (u ++ y) 0 (bs (u ++ y)).size y (by simp) (by rw [hz]; simp)
  unfold takeF
  rw [if_pos rfl, h2]
  cases y with
  | nil =>
    have : tkR (bs (u ++ [])) f' (0 + u.length) = none := by
      cases f' with
      | zero => rfl
      | succ f' => rw [tkR, hz, if_neg (by simp)]
    rw [this]
    simp [nxt]
  | cons c x =>
    obtain ⟨hc, hs⟩ := hy
    rw [hz] at h1
    obtain ⟨f', rfl⟩ : ∃ k, f' = k + 1 := ⟨f' - 1, by simp at h1; omega⟩
    have hd : Utf8.decode (bs (u ++ c :: x)) (0 + u.length) = (c.toNat, 1) := by rw [decode_bs, h3]; exact decL_one c _ hc
    rw [tkR, hz, if_pos (by simp), hd]
    simp only [hs, if_true, Nat.zero_add]
    rw [extract_front]
    have := extract_back u c x
    rw [hz] at this
    rw [this]
    rfl

theorem bs_ne {u : List UInt8} (h : u ≠ []) : bs u ≠ ⟨#[]⟩ := fun e => h (by
  have := congrArg (fun s => s.data.toList) e
  simpa [bs] using this)

theorem wordF_text (g : Int) (u y : List UInt8) (hu : Clean u) (hne : u ≠ []) (hy : Tail y) : wordF g g (bs (u ++ y)) = (bs u, nxt y) := by
  unfold wordF
  rw [takeF_text g u y hu hy, if_neg (bs_ne hne)]

theorem flagF_text (b : Bool) (y : List UInt8) (hy : Tail y) (h33 : b = false → (nxt y).1 ≠ 33) : flagF (nxt ((if b then [33] else []) ++ y)).1 (nxt ((if b then [33] else []) ++ y)).2 = (b, nxt y) := by
  cases b with
  | false => unfold flagF; simp [h33 rfl]
  | true =>
    have ht := takeF_text 33 [] y .nil hy
    simp only [List.nil_append] at ht
    simp only [if_true, List.cons_append, List.nil_append, nxt]
    unfold flagF
    rw [if_pos (by decide)]
    rw [show ((33 : UInt8).toNat : Int) = 33 from by decide, ht]
    simp
    cases y <;> rfl

/-- The digits of a number. -/
abbrev dig (n : Nat) : List UInt8 := Lib.decDigits n

theorem dig_small (n : Nat) : ∀ c ∈ dig n, 48 ≤ c.toNat ∧ c.toNat ≤ 57 := by
  induction n using Nat.strongRecOn with
  | _ n ih =>
    intro c hc
    unfold dig at hc
    rw [Lib.decDigits] at hc
    split at hc
    · rename_i h
      simp at hc
      subst hc
      have : n < 10 := h
      simp
      omega
    · rename_i h
      rcases List.mem_append.1 hc with hc | hc
      · exact ih (n / 10) (by omega) c hc
      · simp at hc
        subst hc
        simp
        omega

theorem dig_ne (n : Nat) : dig n ≠ [] := by
  unfold dig
  rw [Lib.decDigits]
  split <;> simp

theorem clean_of (u : List UInt8) (h : ∀ c ∈ u, c.toNat < 128 ∧ sgn c.toNat = false) : Clean u := by
  induction u with
  | nil => exact .nil
  | cons c u ih => exact .one c u (h c (by simp)).1 (h c (by simp)).2 (ih fun d hd => h d (by simp [hd]))

theorem sgn_digit (c : Nat) (h : 48 ≤ c ∧ c ≤ 57) : sgn (c : Int) = false := by
  unfold sgn
  simp
  omega

theorem dig_clean (n : Nat) : Clean (dig n) := clean_of _ fun c hc => ⟨by have := dig_small n c hc; omega, sgn_digit _ (dig_small n c hc)⟩

theorem numR_bs : ∀ (u : List UInt8) (l : List UInt8) (pos f a : Nat), (∀ c ∈ u, 48 ≤ c.toNat ∧ c.toNat ≤ 57) → l.drop pos = u → u.length ≤ f → numR (bs l) f pos a = some (u.foldl (fun b c => 10 * b + (c.toNat - 48)) a) := by
  intro u
  induction u with
  | nil =>
    intro l pos f a _ h _
    have hz : (bs l).size = l.length := by show l.toArray.size = _; simp
    cases f with
    | zero => rfl
    | succ f => rw [numR, hz, if_neg (by simp at h; omega)]; rfl
  | cons c u ih =>
    intro l pos f a hc h hf
    have hz : (bs l).size = l.length := by show l.toArray.size = _; simp
    obtain ⟨f, rfl⟩ : ∃ f', f = f' + 1 := ⟨f - 1, by simp at hf; omega⟩
    have hp : pos < l.length := by
      have := congrArg List.length h
      simp at this
      omega
    have h0 := hc c (by simp)
    have hd : Utf8.decode (bs l) pos = (c.toNat, 1) := by rw [decode_bs, h]; exact decL_one c _ (by omega)
    rw [numR, hz, if_pos hp, hd, if_pos h0, ih l (pos + 1) f _ (fun d hd => hc d (by simp [hd])) (by rw [← List.drop_drop, h]; rfl) (by simp at hf; omega)]
    rfl

theorem dig_value (n : Nat) : (dig n).foldl (fun b c => 10 * b + (c.toNat - 48)) 0 = n := by
  induction n using Nat.strongRecOn with
  | _ n ih =>
    unfold dig
    rw [Lib.decDigits]
    split
    · rename_i h
      have : n < 10 := h
      simp
      omega
    · rename_i h
      rw [List.foldl_append, ih (n / 10) (by omega)]
      simp
      omega

theorem dig_len (k : Nat) : ∀ n, n < 10 ^ (k + 1) → (dig n).length ≤ k + 1 := by
  induction k with
  | zero => intro n h; unfold dig; rw [Lib.decDigits, dif_pos (by omega)]; simp
  | succ k ih =>
    intro n h
    unfold dig
    rw [Lib.decDigits]
    split
    · simp
    · have h1 : n / 10 < 10 ^ (k + 1) := by
        rw [Nat.div_lt_iff_lt_mul (by decide)]
        rw [Nat.pow_succ] at h
        exact h
      have := ih (n / 10) h1
      simp only [List.length_append, List.length_singleton]
      unfold dig at this
      omega

theorem dig_first (n : Nat) (h : 1 ≤ n) : ∀ c, (dig n)[0]? = some c → c.toNat ≠ 48 := by
  induction n using Nat.strongRecOn with
  | _ n ih =>
    intro c hc
    unfold dig at hc
    rw [Lib.decDigits] at hc
    split at hc
    · rename_i h
      have : n < 10 := h
      simp at hc
      subst hc
      simp
      omega
    · rename_i h'
      have hne := dig_ne (n / 10)
      unfold dig at hne
      rw [List.getElem?_append_left (by exact List.length_pos_iff.2 hne)] at hc
      exact ih (n / 10) (by omega) (by omega) c hc

theorem longN_dig (n : Nat) (h : n < 10 ^ 15) : longN (bs (dig n)) = false := by
  have hz : (bs (dig n)).size = (dig n).length := by show (dig n).toArray.size = _; simp
  have hl := dig_len 14 n h
  unfold longN
  rw [Bool.or_eq_false_iff]
  refine ⟨by rw [hz]; simp; omega, ?_⟩
  split
  · rename_i h1
    have h10 : 10 ≤ n := by
      rcases Nat.lt_or_ge n 10 with h2 | h2
      · rw [hz] at h1
        unfold dig at h1
        rw [Lib.decDigits, dif_pos h2] at h1
        simp at h1
      · exact h2
    simp
    refine dig_first n (by omega) _ ?_
    rw [hz] at h1
    rw [List.getElem?_eq_getElem (by omega)]
    rfl
  · rfl

theorem numF_text (g : Int) (n : Nat) (y : List UInt8) (hn : n < 10 ^ 15) (hy : Tail y) : numF g g (bs (dig n ++ y)) = (n, nxt y) := by
  unfold numF
  rw [wordF_text g (dig n) y (dig_clean n) (dig_ne n) hy]
  simp only [longN_dig n hn, Bool.false_eq_true, if_false]
  rw [numR_bs (dig n) (dig n) 0 _ 0 (dig_small n) (by simp) (by show _ ≤ (dig n).toArray.size; simp), dig_value]

end Go.Proofs.YtlehlbgaboifoabGreatDoor
