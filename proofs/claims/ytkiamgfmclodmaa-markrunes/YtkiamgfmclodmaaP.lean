/- Texts that are put together of whole runes: how many runes they have, when they are names. -/
import Derived.Test.YtkiamgfmclodmaaM
namespace Go.Proofs.Ytkiamgfmclodmaa
open Go.RowKit

/-- A piece that is read as the rune r, whatever stands ahead of it or behind it. -/
def Whole (p : ByteArray) (r : Nat) : Prop :=
  0 < p.size ∧ ∀ (s : ByteArray) (pos : Nat), (∀ k, k < p.size → pos + k < s.size ∧ s.get! (pos + k) = p.get! k) → Utf8.decode s pos = (r, p.size)

/-- From this byte on the text is read as these runes, to its end. -/
def Reads (s : ByteArray) : Nat → List Nat → Prop
  | pos, [] => s.size ≤ pos
  | pos, r :: l => pos < s.size ∧ ∃ n, Utf8.decode s pos = (r, n) ∧ Reads s (pos + n) l

/-- Pieces, one behind the other. -/
def cat : List ByteArray → ByteArray
  | [] => ⟨#[]⟩
  | p :: l => p ++ cat l

theorem get_left (A B : ByteArray) (k : Nat) (h : k < A.size) : (A ++ B).get! k = A.get! k := by
  have h1 : k < (A ++ B).size := by rw [ByteArray.size_append]; omega
  have e1 : (A ++ B).get! k = (A ++ B)[k]'h1 := get_at (A ++ B) k h1
  have e2 : A.get! k = A[k]'h := get_at A k h
  rw [e1, e2, ByteArray.getElem_append_left h]
theorem get_right (A B : ByteArray) (k : Nat) (h : k < B.size) : (A ++ B).get! (A.size + k) = B.get! k := by
  have h1 : A.size + k < (A ++ B).size := by rw [ByteArray.size_append]; omega
  have e1 : (A ++ B).get! (A.size + k) = (A ++ B)[A.size + k]'h1 := get_at (A ++ B) _ h1
  have e2 : B.get! k = B[k]'h := get_at B k h
  rw [e1, e2, ByteArray.getElem_append_right (by omega)]
  simp

theorem size_cat_snoc (l : List ByteArray) (p : ByteArray) : cat (l ++ [p]) = cat l ++ p := by
  induction l with
  | nil =>
    show p ++ ⟨#[]⟩ = ⟨#[]⟩ ++ p
    rw [show (⟨#[]⟩ : ByteArray) = ByteArray.empty from rfl, ByteArray.append_empty, ByteArray.empty_append]
  | cons q l ih => rw [List.cons_append]; show q ++ cat (l ++ [p]) = q ++ cat l ++ p; rw [ih, ByteArray.append_assoc]

theorem reads_cat : ∀ (ps : List (ByteArray × Nat)) (A : ByteArray), (∀ x ∈ ps, Whole x.1 x.2) → Reads (A ++ cat (ps.map (·.1))) A.size (ps.map (·.2))
  | [], A, _ => by
    show (A ++ ⟨#[]⟩).size ≤ A.size
    rw [ByteArray.size_append]
    exact Nat.le_refl _
  | (p, r) :: ps, A, h => by
    have hp : Whole p r := h (p, r) (by simp)
    have ih := reads_cat ps (A ++ p) (fun x hx => h x (by simp [hx]))
    have e : A ++ p ++ cat (ps.map (·.1)) = A ++ cat (((p, r) :: ps).map (·.1)) := by rw [ByteArray.append_assoc]; rfl
    rw [e, ByteArray.size_append] at ih
    refine ⟨?_, p.size, hp.2 _ _ fun k hk => ?_, ih⟩
    · show A.size < (A ++ (p ++ _)).size
      rw [ByteArray.size_append, ByteArray.size_append]
      have := hp.1
      omega
    · show A.size + k < (A ++ (p ++ cat (ps.map (·.1)))).size ∧ (A ++ (p ++ cat (ps.map (·.1)))).get! (A.size + k) = p.get! k
      rw [get_right _ _ _ (by rw [ByteArray.size_append]; omega), get_left _ _ _ hk, ByteArray.size_append, ByteArray.size_append]
      exact ⟨by omega, rfl⟩

theorem reads_whole (ps : List (ByteArray × Nat)) (h : ∀ x ∈ ps, Whole x.1 x.2) : Reads (cat (ps.map (·.1))) 0 (ps.map (·.2)) := by
  have := reads_cat ps ByteArray.empty h
  rw [ByteArray.empty_append] at this
  exact this

theorem rc_reads (s : ByteArray) : ∀ (l : List Nat) (f pos : Nat), Reads s pos l → s.size ≤ pos + f → rc s f pos = l.length
  | [], f, pos, h, _ => by
    have h' : ¬ pos < s.size := by have : s.size ≤ pos := h; omega
    cases f <;> simp [rc, h']
  | r :: l, f, pos, h, hf => by
    obtain ⟨hp, n, hd, hr⟩ := h
    have hw := width_pos s pos hp
    rw [hd] at hw
    obtain ⟨f, rfl⟩ : ∃ f', f = f' + 1 := ⟨f - 1, by omega⟩
    simp only [rc, hp, if_true, hd, List.length_cons]
    rw [rc_reads s l f _ hr (by simp at hw; omega)]

theorem nm_reads (s : ByteArray) : ∀ (l : List Nat) (f pos k : Nat), Reads s pos l → s.size ≤ pos + f → (∀ r ∈ l, ∀ p, goodR p (r : Int) = true) → k ≤ 8 → nm s f pos k = decide (1 ≤ k + l.length ∧ k + l.length ≤ 8)
  | [], f, pos, k, h, _, _, hk => by
    have h' : ¬ pos < s.size := by have : s.size ≤ pos := h; omega
    cases f <;> simp [nm, h', hk] <;> omega
  | r :: l, f, pos, k, h, hf, hg, hk => by
    obtain ⟨hp, n, hd, hr⟩ := h
    have hw := width_pos s pos hp
    rw [hd] at hw
    obtain ⟨f, rfl⟩ : ∃ f', f = f' + 1 := ⟨f - 1, by omega⟩
    simp only [nm, hp, if_true, hd, List.length_cons, hg r (by simp) pos]
    by_cases h8 : 8 < k + 1
    · simp [h8]; omega
    · rw [nm_reads s l f _ (k + 1) hr (by simp at hw; omega) (fun r' hr' => hg r' (by simp [hr'])) (by omega)]
      have e : k + 1 + l.length = k + (l.length + 1) := by omega
      simp [h8, e]

/-- s is put together of n pieces, each of which is as asked. -/
def Built (Q : ByteArray → Nat → Prop) (n : Nat) (s : ByteArray) : Prop :=
  ∃ ps : List (ByteArray × Nat), ps.length = n ∧ s = cat (ps.map (·.1)) ∧ ∀ x ∈ ps, Whole x.1 x.2 ∧ x.1.size ≤ 4 ∧ Q x.1 x.2

theorem Built.nil (Q : ByteArray → Nat → Prop) : Built Q 0 ⟨#[]⟩ := ⟨[], rfl, rfl, by simp⟩

theorem Built.snoc {Q : ByteArray → Nat → Prop} {n : Nat} {s p : ByteArray} {r : Nat} (h : Built Q n s) (hw : Whole p r) (h4 : p.size ≤ 4) (hq : Q p r) : Built Q (n + 1) (s ++ p) := by
  obtain ⟨ps, hl, rfl, ha⟩ := h
  refine ⟨ps ++ [(p, r)], by simp [hl], by rw [List.map_append]; exact (size_cat_snoc _ _).symm, fun x hx => ?_⟩
  rcases List.mem_append.1 hx with hx | hx
  · exact ha x hx
  · simp at hx
    subst hx
    exact ⟨hw, h4, hq⟩

theorem Built.append {Q : ByteArray → Nat → Prop} {n m : Nat} {s t : ByteArray} (h : Built Q n s) (h' : Built Q m t) : Built Q (n + m) (s ++ t) := by
  obtain ⟨ps, hl, rfl, ha⟩ := h
  obtain ⟨qs, hm, rfl, hb⟩ := h'
  refine ⟨ps ++ qs, by simp [hl, hm], ?_, fun x hx => ?_⟩
  · clear hl hm ha hb
    induction ps with
    | nil => show ByteArray.empty ++ _ = _; rw [ByteArray.empty_append]; rfl
    | cons p ps ih => show p.1 ++ cat _ ++ _ = p.1 ++ cat (List.map (·.1) (ps ++ qs)); rw [ByteArray.append_assoc, ih]
  · rcases List.mem_append.1 hx with hx | hx
    · exact ha x hx
    · exact hb x hx

theorem cat_le : ∀ (ps : List ByteArray), (∀ x ∈ ps, x.size ≤ 4) → (cat ps).size ≤ 4 * ps.length
  | [], _ => by show 0 ≤ _; omega
  | p :: ps, h => by
    have := cat_le ps (fun x hx => h x (by simp [hx]))
    have h4 := h p (by simp)
    show (p ++ cat ps).size ≤ _
    rw [ByteArray.size_append, List.length_cons]
    omega

theorem Built.size {Q : ByteArray → Nat → Prop} {n : Nat} {s : ByteArray} (h : Built Q n s) : s.size ≤ 4 * n := by
  obtain ⟨ps, rfl, rfl, ha⟩ := h
  have := cat_le (ps.map (·.1)) (fun x hx => by
    obtain ⟨y, hy, rfl⟩ := List.mem_map.1 hx
    exact (ha y hy).2.1)
  simpa using this

theorem Built.count {Q : ByteArray → Nat → Prop} {n : Nat} {s : ByteArray} (h : Built Q n s) : count s = n := by
  obtain ⟨ps, rfl, rfl, ha⟩ := h
  have := rc_reads _ _ (cat (ps.map (·.1))).size 0 (reads_whole ps fun x hx => (ha x hx).1) (by omega)
  rw [List.length_map] at this
  exact this

theorem Built.name {n : Nat} {s : ByteArray} (h : Built (fun _ r => ∀ p, goodR p (r : Int) = true) n s) : isName s = decide (1 ≤ n ∧ n ≤ 8) := by
  obtain ⟨ps, rfl, rfl, ha⟩ := h
  have := nm_reads _ _ (cat (ps.map (·.1))).size 0 0 (reads_whole ps fun x hx => (ha x hx).1) (by omega) (fun r hr => by
    obtain ⟨y, hy, rfl⟩ := List.mem_map.1 hr
    exact (ha y hy).2.2) (by omega)
  simp only [List.length_map, Nat.zero_add] at this
  exact this

theorem whole1 (b : UInt8) (h : b.toNat < 128) : Whole ⟨#[b]⟩ b.toNat := by
  refine ⟨by show 0 < 1; omega, fun s pos hs => ?_⟩
  have h0 := hs 0 (by show 0 < 1; omega)
  have e0 : (⟨#[b]⟩ : ByteArray).get! 0 = b := rfl
  rw [e0] at h0
  show Utf8.decode s pos = (b.toNat, 1)
  simp only [Utf8.decode, h0.2, h, if_true]

theorem whole0 (b : UInt8) (h : 248 ≤ b.toNat) : Whole ⟨#[b]⟩ 65533 := by
  refine ⟨by show 0 < 1; omega, fun s pos hs => ?_⟩
  have h0 := hs 0 (by show 0 < 1; omega)
  have e0 : (⟨#[b]⟩ : ByteArray).get! 0 = b := rfl
  rw [e0] at h0
  have hb := b.toNat_lt
  have c0 : ¬ b.toNat < 128 := by omega
  have c1 : (b.toNat / 32 == 6) = false := by simp; omega
  have c2 : (b.toNat / 16 == 14) = false := by simp; omega
  have c3 : (b.toNat / 8 == 30) = false := by simp; omega
  show Utf8.decode s pos = (65533, 1)
  simp only [Utf8.decode, h0.2, c0, c1, c2, c3, if_false, Bool.false_and, Bool.false_eq_true]
  rfl

theorem whole2 (b0 b1 : UInt8) (h0 : b0.toNat / 32 = 6) (h1 : b1.toNat / 64 = 2) (h : 128 ≤ (b0.toNat % 32) * 64 + b1.toNat % 64) : Whole ⟨#[b0, b1]⟩ ((b0.toNat % 32) * 64 + b1.toNat % 64) := by
  refine ⟨by show 0 < 2; omega, fun s pos hs => ?_⟩
  have g0 := hs 0 (by show 0 < 2; omega)
  have g1 := hs 1 (by show 1 < 2; omega)
  rw [show (⟨#[b0, b1]⟩ : ByteArray).get! 0 = b0 from rfl] at g0
  rw [show (⟨#[b0, b1]⟩ : ByteArray).get! 1 = b1 from rfl] at g1
  have c0 : ¬ b0.toNat < 128 := by omega
  show Utf8.decode s pos = ((b0.toNat % 32) * 64 + b1.toNat % 64, 2)
  simp only [Utf8.decode, g0.2, g1.2, g1.1, c0, h0, h1, h, if_false, if_true, decide_true, beq_self_eq_true, Bool.and_self, ge_iff_le]

theorem whole3 (b0 b1 b2 : UInt8) (h0 : b0.toNat / 16 = 14) (h1 : b1.toNat / 64 = 2) (h2 : b2.toNat / 64 = 2) (h : 2048 ≤ (b0.toNat % 16) * 4096 + (b1.toNat % 64) * 64 + b2.toNat % 64)
    (hv : Utf8.valid (((b0.toNat % 16) * 4096 + (b1.toNat % 64) * 64 + b2.toNat % 64 : Nat) : Int) = true) : Whole ⟨#[b0, b1, b2]⟩ ((b0.toNat % 16) * 4096 + (b1.toNat % 64) * 64 + b2.toNat % 64) := by
  refine ⟨by show 0 < 3; omega, fun s pos hs => ?_⟩
  have g0 := hs 0 (by show 0 < 3; omega)
  have g1 := hs 1 (by show 1 < 3; omega)
  have g2 := hs 2 (by show 2 < 3; omega)
  rw [show (⟨#[b0, b1, b2]⟩ : ByteArray).get! 0 = b0 from rfl] at g0
  rw [show (⟨#[b0, b1, b2]⟩ : ByteArray).get! 1 = b1 from rfl] at g1
  rw [show (⟨#[b0, b1, b2]⟩ : ByteArray).get! 2 = b2 from rfl] at g2
  have c0 : ¬ b0.toNat < 128 := by omega
  have c1 : (b0.toNat / 32 == 6) = false := by simp; omega
  show Utf8.decode s pos = ((b0.toNat % 16) * 4096 + (b1.toNat % 64) * 64 + b2.toNat % 64, 3)
  generalize hc : (b0.toNat % 16) * 4096 + (b1.toNat % 64) * 64 + b2.toNat % 64 = c at *
  have hc' : (c ≥ 2048) := h
  simp only [Utf8.decode, g0.2, g1.2, g2.2, g1.1, g2.1, c0, c1, h0, h1, h2, if_false, if_true, Bool.false_and, Bool.false_eq_true, decide_true, beq_self_eq_true, Bool.and_self, hc, hc', hv]

theorem whole4 (b0 b1 b2 b3 : UInt8) (h0 : b0.toNat / 8 = 30) (h1 : b1.toNat / 64 = 2) (h2 : b2.toNat / 64 = 2) (h3 : b3.toNat / 64 = 2) (h : 65536 ≤ (b0.toNat % 8) * 262144 + (b1.toNat % 64) * 4096 + (b2.toNat % 64) * 64 + b3.toNat % 64)
    (hv : Utf8.valid (((b0.toNat % 8) * 262144 + (b1.toNat % 64) * 4096 + (b2.toNat % 64) * 64 + b3.toNat % 64 : Nat) : Int) = true) : Whole ⟨#[b0, b1, b2, b3]⟩ ((b0.toNat % 8) * 262144 + (b1.toNat % 64) * 4096 + (b2.toNat % 64) * 64 + b3.toNat % 64) := by
  refine ⟨by show 0 < 4; omega, fun s pos hs => ?_⟩
  have g0 := hs 0 (by show 0 < 4; omega)
  have g1 := hs 1 (by show 1 < 4; omega)
  have g2 := hs 2 (by show 2 < 4; omega)
  have g3 := hs 3 (by show 3 < 4; omega)
  rw [show (⟨#[b0, b1, b2, b3]⟩ : ByteArray).get! 0 = b0 from rfl] at g0
  rw [show (⟨#[b0, b1, b2, b3]⟩ : ByteArray).get! 1 = b1 from rfl] at g1
  rw [show (⟨#[b0, b1, b2, b3]⟩ : ByteArray).get! 2 = b2 from rfl] at g2
  rw [show (⟨#[b0, b1, b2, b3]⟩ : ByteArray).get! 3 = b3 from rfl] at g3
  have c0 : ¬ b0.toNat < 128 := by omega
  have c1 : (b0.toNat / 32 == 6) = false := by simp; omega
  have c2 : (b0.toNat / 16 == 14) = false := by simp; omega
  show Utf8.decode s pos = ((b0.toNat % 8) * 262144 + (b1.toNat % 64) * 4096 + (b2.toNat % 64) * 64 + b3.toNat % 64, 4)
  generalize hc : (b0.toNat % 8) * 262144 + (b1.toNat % 64) * 4096 + (b2.toNat % 64) * 64 + b3.toNat % 64 = c at *
  have hc' : (c ≥ 65536) := h
  simp only [Utf8.decode, g0.2, g1.2, g2.2, g3.2, g1.1, g2.1, g3.1, c0, c1, c2, h0, h1, h2, h3, if_false, if_true, Bool.false_and, Bool.false_eq_true, decide_true, beq_self_eq_true, Bool.and_self, hc, hc', hv]

end Go.Proofs.Ytkiamgfmclodmaa
