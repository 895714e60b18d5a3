/- The contract of the chapter's own Shards. -/
import Derived.Test.YtgcicillmljglaaRV
import Derived.Test.YtgcicillmljglaaLG
import Derived.Test.YtgcicillmljglaaSP
namespace Go.Proofs.Ytgcicillmljglaa
open Go.RowKit Go.Maps
attribute [local go_sem ↓] Go.wp_at_zero Go.wp_at_succ
set_option linter.unusedSimpArgs false
set_option linter.unusedVariables false

abbrev iv (z : Int) : Value := .int .i64 z
/-- What each operation of the insertion yields. -/
def shF (v V3 V15 : Value) (k m G PB po pn pc N0 N3 : Nat) (sh : Int) (xs1 xs2 : List Value) : Nat → Value → World → Prop
  | 0, u, w => ∃ B, u = .slice (some ⟨B, 0, none⟩) 0 0 ∧ N0 ≤ B ∧ w.heap[B]? = some (.cells #[] 3 (0, 0))
  | 1, u, _ => u = v
  | 2, u, _ => u = .int .i64 k
  | 3, u, _ => u = V3
  | 4, u, w => w.ownsRow N0 3 1 u k xs1
  | 5, u, _ => u = .pointer (some ⟨G, 1, none⟩)
  | 6, u, _ => u = .slice (some ⟨PB, po, none⟩) pn pc
  | 7, u, _ => u = .int .i64 m
  | 8, u, _ => u = .pointer (some ⟨PB, po + m * 7, none⟩)
  | 9, u, _ => u = .pointer (some ⟨PB, po + m * 7 + 1, none⟩)
  | 10, u, _ => u = .int .i64 sh
  | 11, u, w => ∃ D, u = .slice (some ⟨D, 0, none⟩) 1 1 ∧ w.heap[D]? = some (.cells #[.int .i64 sh] 3 (0, 0))
  | 12, u, w => w.ownsRow N0 3 1 u (k + 1) (xs1 ++ [.int .i64 sh])
  | 13, u, _ => u = v
  | 14, u, _ => u = .int .i64 k
  | 15, u, _ => u = V15
  | 16, u, w => w.ownsRow N0 3 1 u N3 (xs1 ++ [.int .i64 sh] ++ xs2)
  | 17, u, w => w.ownsRow N0 3 1 u N3 (xs1 ++ [.int .i64 sh] ++ xs2)
  | _, _, _ => True
/-- Which operation uses what. -/
def shU : Nat → Option Nat
  | 0 => some 4
  | 4 => some 12
  | 11 => some 12
  | 12 => some 16
  | 16 => some 17
  | _ => none
/-- What each leaves as it was. -/
def shS : Nat → World → World → Prop
  | 4, w1, w2 => ∃ q, w1.grownBy w2 q ∧ ∀ b, q = some b → w1.heap[b]? = some (.cells #[] 3 (0, 0))
  | 12, _, _ => True
  | 16, w1, w2 => ∃ q, w1.grownBy w2 q ∧ ∀ b, q = some b → ∃ cur, w1.heap[b]? = some (.cells cur 3 (0, 0)) ∧ 1 ≤ cur.size
  | _, w1, w2 => Below w1.heap.size w1 w2
theorem shS_of {i : Nat} {w1 w2 : World} (h4 : i ≠ 4) (h12 : i ≠ 12) (h16 : i ≠ 16) (h : shS i w1 w2) : Below w1.heap.size w1 w2 := by
  unfold shS at h
  split at h
  · exact absurd rfl h4
  · exact absurd rfl h12
  · exact absurd rfl h16
  · exact h
theorem block_keep {w w' : World} {b : Nat} {o : Obj} (h : w.heap[b]? = some o) (hb : Below w.heap.size w w') : w'.heap[b]? = some o := by
  rw [hb.block b (Array.getElem?_eq_some_iff.1 h).1, h]
theorem block_grown {w w' : World} {b : Nat} {o : Obj} {q : Option Nat} (h : w.heap[b]? = some o) (hg : w.grownBy w' q) (hne : some b ≠ q) : w'.heap[b]? = some o := by
  rw [hg.block b (Array.getElem?_eq_some_iff.1 h).1 hne, h]
theorem own_full {w : World} {base : Nat} {v : Value} {n : Nat} {xs : List Value} (h : w.ownsRow base 3 1 v n xs) (hn : 0 < n) : ∀ b, v.ownBlock = some b → ∃ cur, w.heap[b]? = some (.cells cur 3 (0, 0)) ∧ 1 ≤ cur.size := by
  intro b hb
  rcases h.2 with ⟨rfl, h0⟩ | ⟨g, cap, cur, rfl, _, hh, hc, _, hs, _⟩
  · omega
  · cases hb
    exact ⟨cur, hh, by omega⟩
theorem own_kept4 {w w' : World} {base : Nat} {v : Value} {n : Nat} {xs : List Value} (h : w.ownsRow base 3 1 v n xs) (hn : 0 < n) {q : Option Nat} (hg : w.grownBy w' q) (hq : ∀ b, q = some b → w.heap[b]? = some (.cells #[] 3 (0, 0))) : w'.ownsRow base 3 1 v n xs := by
  refine h.kept hg ?_
  rcases hv : v.ownBlock with _ | b
  · exact .inl rfl
  · refine .inr fun e => ?_
    obtain ⟨cur, h1, h2⟩ := own_full h hn b hv
    rw [hq b e.symm] at h1
    cases h1
    simp at h2

theorem shF_keep (v V3 V15 : Value) (k m G PB po pn pc N0 N3 : Nat) (sh : Int) (xs1 xs2 : List Value) (hN : 0 < N3) {ops : Array Oper} (h12 : ((ops[12]?).map fun o => o.after.any fun e => e.on == 4 && Region.binds .any e) = some true) (h16 : ((ops[16]?).map fun o => o.after.any fun e => e.on == 12 && Region.binds .any e) = some true)
    (g12 : ((ops[12]?).map fun o => o.after.any fun e => e.on == 4 && Region.binds .any e) = some true) (g17 : ∀ i, i = 4 ∨ i = 12 ∨ i = 16 → ((ops[17]?).map fun o => o.after.any fun e => e.on == i && Region.binds .any e) = some true) :
    ∀ i j o oj u w1 w2, i ≠ j → ops[i]? = some o → ops[j]? = some oj → shS i w1 w2 → shU j ≠ some i → (∀ c, shU j = some c → (o.after.any fun e => e.on == c && Region.binds .any e) = false) → (oj.after.any fun e => e.on == i && Region.binds .any e) = false →
      shF v V3 V15 k m G PB po pn pc N0 N3 sh xs1 xs2 j u w1 → shF v V3 V15 k m G PB po pn pc N0 N3 sh xs1 xs2 j u w2 := by
  intro i j o oj u w1 w2 hij ho hoj hS hu hx hy hF
  have hother : i ≠ 4 → i ≠ 12 → i ≠ 16 → Below w1.heap.size w1 w2 := fun a b c => shS_of a b c hS
  unfold shF at *
  split at hF <;> try exact hF
  · obtain ⟨B, e, hB, hh⟩ := hF
    by_cases i4 : i = 4
    · subst i4; exact absurd rfl hu
    by_cases i12 : i = 12
    · subst i12; rw [ho] at h12; have := hx 4 rfl; simp [this] at h12
    by_cases i16 : i = 16
    · subst i16
      obtain ⟨q, hg, hq⟩ := hS
      refine ⟨B, e, hB, block_grown hh hg fun e' => ?_⟩
      obtain ⟨cur, h1, h2⟩ := hq B e'.symm
      rw [hh] at h1
      cases h1
      simp at h2
    · exact ⟨B, e, hB, block_keep hh (hother i4 i12 i16)⟩
  · by_cases i4 : i = 4
    · exact absurd i4 hij
    by_cases i12 : i = 12
    · subst i12; exact absurd rfl hu
    by_cases i16 : i = 16
    · subst i16; rw [ho] at h16; have := hx 12 rfl; simp [this] at h16
    · exact own_keep hF (hother i4 i12 i16)
  · obtain ⟨D, e, hh⟩ := hF
    by_cases i4 : i = 4
    · subst i4
      obtain ⟨q, hg, hq⟩ := hS
      refine ⟨D, e, block_grown hh hg fun e' => ?_⟩
      have h1 := hq D e'.symm
      rw [hh] at h1
      cases h1
    by_cases i12 : i = 12
    · subst i12; exact absurd rfl hu
    by_cases i16 : i = 16
    · subst i16; rw [ho] at h16; have := hx 12 rfl; simp [this] at h16
    · exact ⟨D, e, block_keep hh (hother i4 i12 i16)⟩
  · by_cases i4 : i = 4
    · subst i4; rw [hoj] at g12; simp [hy] at g12
    by_cases i12 : i = 12
    · exact absurd i12 hij
    by_cases i16 : i = 16
    · subst i16; exact absurd rfl hu
    · exact own_keep hF (hother i4 i12 i16)
  · by_cases i4 : i = 4
    · subst i4
      obtain ⟨q, hg, hq⟩ := hS
      exact own_kept4 hF hN hg hq
    by_cases i12 : i = 12
    · subst i12; rw [hoj] at h16; simp [hy] at h16
    by_cases i16 : i = 16
    · exact absurd i16 hij
    · exact own_keep hF (hother i4 i12 i16)
  · by_cases i4 : i = 4
    · subst i4; have := g17 4 (.inl rfl); rw [hoj] at this; simp [hy] at this
    by_cases i12 : i = 12
    · subst i12; have := g17 12 (.inr (.inl rfl)); rw [hoj] at this; simp [hy] at this
    by_cases i16 : i = 16
    · subst i16; have := g17 16 (.inr (.inr rfl)); rw [hoj] at this; simp [hy] at this
    · exact own_keep hF (hother i4 i12 i16)

end Go.Proofs.Ytgcicillmljglaa
