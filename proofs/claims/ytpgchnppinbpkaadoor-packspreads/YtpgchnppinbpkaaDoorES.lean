/- Ledgers of nodes without gangs: one more, or one anew. -/
import Derived.Test.YtpgchnppinbpkaaDoorEI
namespace Go.Proofs.YtpgchnppinbpkaaDoor
open Go.RowKit Go.Maps

/-- Between two rounds: the nodes, the names. -/
structure ES (w : World) (L : Nat) (fp : Nat → Prop) (p q : Option Nat) (E : List (ByteArray × Rec)) (wr : World) : Prop where
  led : IsL wr L fp p q E []
  eight : E.length ≤ 8
  ok : ∀ e ∈ E, e.2.u = 0 ∧ e.2.m = 0 ∧ e.2.nm = e.1 ∧ e.1.size ≤ maxLen
  fw : ∀ b, fp b → w.heap.size ≤ b
  bel : Below w.heap.size w wr
theorem ES.later {w : World} {L : Nat} {fp : Nat → Prop} {p q : Option Nat} {E : List (ByteArray × Rec)} {wr wr' : World} (h : ES w L fp p q E wr) (hb : Below wr.heap.size wr wr') : ES w L fp p q E wr' := ⟨h.led.later hb, h.eight, h.ok, h.fw, h.bel.trans (hb.mono h.bel.size)⟩
theorem NMap.rises {w : World} {p : Option Nat} {E : List (ByteArray × Rec)} (h : NMap w p E) : Rises (E.map (·.1)) := by
  rcases h with ⟨_, rfl⟩ | ⟨b, _, h⟩
  · exact List.Pairwise.nil
  · have := h.rising
    unfold Rises
    rw [List.pairwise_map] at this ⊢
    exact this

/-- One name more, or one anew. -/
theorem ES.put {w : World} {L : Nat} {fp : Nat → Prop} {p q : Option Nat} {E : List (ByteArray × Rec)} {wr : World} (h : ES w L fp p q E wr) (k : Nat) (hk : k < 12) (i : Int) (hi : 0 ≤ i ∧ i ≤ 1000) (A : Int) (hA : (if look E (sN k) = none ∧ 8 ≤ E.length then 3 else 0) = A) :
    Calls Tryd.prog 20 #[.pointer (some ⟨L, 0, none⟩), .agg #[.string (sN k), .int .i64 i, .int .i64 0, .slice none 0 0, .slice none 0 0, .bool false]] wr fun e w' => e = .returned (.int .i64 A) ∧
      ∃ fp' p' q' E', ES w L fp' p' q' E' w' ∧ E'.map (·.1) = (if look E (sN k) = none ∧ E.length < 8 then (E.map (·.1)).take (atN (sN k) (E.map (·.1))) ++ sN k :: (E.map (·.1)).drop (atN (sN k) (E.map (·.1))) else E.map (·.1)) ∧ (∀ b, fp' b → fp b ∨ wr.heap.size ≤ b) ∧ Kept fp wr w' := by
  have hz : ((look E (sN k)).getD zrec).u = 0 ∧ ((look E (sN k)).getD zrec).m = 0 := by
    cases hl : look E (sN k) with
    | none => exact ⟨rfl, rfl⟩
    | some r => have := h.ok _ (mem_of_look hl); exact ⟨this.1, this.2.1⟩
  have hP : putE E (sN k) i 0 [] [] = A := by
    unfold putE
    rw [sN_node k hk i (by omega), hz.1, hz.2, ← hA]
    simp [hi.1]
  refine (put_any wr L fp p q E [] h.led (sN k) i 0 none none 0 0 0 0 false [] [] (sN_small k) ⟨by simp, by simp⟩ ⟨by simp, by simp⟩ rfl rfl SP.none SP.none (by intro x hx; cases hx) (by intro x hx; cases hx) (by have := h.eight; unfold maxLen; omega)).mono ?_
  rintro e w' ⟨rfl, hQ⟩
  rw [hP] at hQ ⊢
  obtain ⟨fp', p', q', a3, c3, a4, c4, hI, g1, g2, g3, g4⟩ := hQ
  have hfw : ∀ b, fp' b → w.heap.size ≤ b := fun b hb => (g2 b hb).elim (h.fw b) (fun hh => Nat.le_trans h.bel.size hh)
  have hbel : Below w.heap.size w w' := h.bel.trans (g3.below h.bel.size h.fw)
  by_cases hc : look E (sN k) = none ∧ 8 ≤ E.length
  · rw [if_pos hc] at hA
    subst hA
    rw [if_neg (by decide)] at hI
    refine ⟨rfl, fp', p', q', E, ⟨hI, h.eight, h.ok, hfw, hbel⟩, ?_, g2, g3⟩
    rw [if_neg (by omega)]
  · rw [if_neg hc] at hA
    subst hA
    rw [if_pos rfl] at hI
    refine ⟨rfl, fp', p', q', _, ⟨hI, ?_, ?_, hfw, hbel⟩, ?_, g2, g3⟩
    · have := h.eight
      rw [length_put sK h.led.nodes.apart]
      split
      · exact this
      · rename_i hn
        have : look E (sN k) = none := by simpa using hn
        have : ¬ 8 ≤ E.length := fun h8 => hc ⟨this, h8⟩
        omega
    · intro e he
      rcases (mem_put sK).1 he with rfl | ⟨he, _⟩
      · exact ⟨hz.1, hz.2, rfl, sN_small k⟩
      · exact h.ok e he
    · by_cases hn : look E (sN k) = none
      · rw [if_pos ⟨hn, by have : ¬ 8 ≤ E.length := fun h8 => hc ⟨hn, h8⟩; omega⟩, put_keys_new _ hn]
      · rw [if_neg (fun hh => hn hh.1), put_keys_has _ h.led.nodes.rises hn]

end Go.Proofs.YtpgchnppinbpkaaDoor
