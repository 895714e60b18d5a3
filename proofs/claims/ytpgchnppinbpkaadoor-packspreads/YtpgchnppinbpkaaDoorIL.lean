/- The contracts of package ledger at ledgers in order. -/
import Derived.Test.YtpgchnppinbpkaaDoorIN
import Derived.Test.YtpgchnppinbpkaaDoorES
namespace Go.Proofs.YtpgchnppinbpkaaDoor
open Go.RowKit Go.Maps

/-- Block L is a ledger in order, in these blocks. -/
def Led (w : World) (L : Nat) (fp : Nat → Prop) (E : List (ByteArray × Rec)) (G : List (Int × Grp)) : Prop := Inv E G ∧ ∃ p q, IsL w L fp p q E G

section
variable {w w' : World} {L : Nat} {fp : Nat → Prop} {E : List (ByteArray × Rec)} {G : List (Int × Grp)}
theorem Led.later (h : Led w L fp E G) (hb : Below w.heap.size w w') : Led w' L fp E G := ⟨h.1, h.2.elim fun p h => h.elim fun q h => ⟨p, q, h.later hb⟩⟩
theorem Led.frame (h : Led w L fp E G) (hk : ∀ b, fp b → w'.heap[b]? = w.heap[b]?) (hs : w.heap.size ≤ w'.heap.size) : Led w' L fp E G := ⟨h.1, h.2.elim fun p h => h.elim fun q h => ⟨p, q, h.frame hk hs⟩⟩
theorem Led.outs (h : Led w L fp E G) : ¬ fp w.heap.size := h.2.elim fun _ h => h.elim fun _ h => h.outs
theorem Led.lt (h : Led w L fp E G) : ∀ b, fp b → b < w.heap.size := h.2.elim fun _ h => h.elim fun _ h => h.lt
end

theorem newL (w : World) : Calls Tryd.prog 19 #[] w fun e w' => ∃ L fp, e = .returned (.pointer (some ⟨L, 0, none⟩)) ∧ Led w' L fp [] [] ∧ (∀ b, fp b → w.heap.size ≤ b) ∧ Below w.heap.size w w' :=
  (new_any w).mono fun _ _ ⟨L, fp, h1, h2, h3, h4⟩ => ⟨L, fp, h1, ⟨Inv.nil, none, none, h2⟩, h3, h4⟩

/-- What is turned: the blocks, and what lies beside them stays. -/
structure Turn (w w' : World) (fp fp' : Nat → Prop) : Prop where
  more : ∀ b, fp b → fp' b
  new : ∀ b, fp' b → fp b ∨ w.heap.size ≤ b
  kept : Kept fp w w'
theorem Turn.of_below {w w' : World} {fp : Nat → Prop} (h : Below w.heap.size w w') : Turn w w' fp fp := ⟨fun _ h => h, fun _ h => .inl h, .of_below h⟩
theorem Turn.low {w0 w w' : World} {fp fp' : Nat → Prop} (h : Turn w w' fp fp') (hf : ∀ b, fp b → w0.heap.size ≤ b) (hb : w0.heap.size ≤ w.heap.size) : ∀ b, fp' b → w0.heap.size ≤ b := fun b hb' => (h.new b hb').elim (hf b) (fun h' => Nat.le_trans hb h')
theorem Turn.below {w0 w w' : World} {fp fp' : Nat → Prop} (h : Turn w w' fp fp') (hf : ∀ b, fp b → w0.heap.size ≤ b) (hb : Below w0.heap.size w0 w) : Below w0.heap.size w0 w' := hb.trans (h.kept.below hb.size hf)

theorem putL (w : World) (L : Nat) (fp : Nat → Prop) (E : List (ByteArray × Rec)) (G : List (Int × Grp)) (h : Led w L fp E G)
    (s : ByteArray) (cpu mem : Int) (a1 a2 : Option Addr) (n1 n2 c1 c2 : Nat) (al : Bool) (xs ys : List ByteArray) (hs : s.size ≤ maxLen) (h1 : Strs w a1 xs) (h2 : Strs w a2 ys) (e1 : xs.length = n1) (e2 : ys.length = n2) (s1 : SP a1) (s2 : SP a2)
    (f1 : ∀ x, a1 = some x → xs ≠ [] → ¬ fp x.block) (f2 : ∀ x, a2 = some x → ys ≠ [] → ¬ fp x.block) (hxs : ∀ t ∈ xs, t.size ≤ maxLen) (hys : ∀ t ∈ ys, t.size ≤ maxLen) :
    Calls Tryd.prog 20 #[.pointer (some ⟨L, 0, none⟩), .agg #[.string s, .int .i64 cpu, .int .i64 mem, .slice a1 n1 c1, .slice a2 n2 c2, .bool al]] w fun e w' => e = .returned (.int .i64 (putE E s cpu mem xs ys)) ∧
      ∃ fp' E' a3 c3 a4 c4, Led w' L fp' E' G ∧ E' = (if putE E s cpu mem xs ys = 0 then put sK E s ⟨s, cpu, mem, a3, c3, xs, a4, c4, ys, al, ((look E s).getD zrec).u, ((look E s).getD zrec).m, ((look E s).getD zrec).k⟩ else E) ∧ Turn w w' fp fp' := by
  obtain ⟨hI, p, q, hL⟩ := h
  refine (put_any w L fp p q E G hL s cpu mem a1 a2 n1 n2 c1 c2 al xs ys hs h1 h2 e1 e2 s1 s2 f1 f2 (by have := hI.lenE; unfold maxLen; omega)).mono ?_
  rintro e w' ⟨rfl, hP⟩
  obtain ⟨fp', p', q', a3, c3, a4, c4, hI', g1, g2, g3, _⟩ := hP
  refine ⟨rfl, fp', _, a3, c3, a4, c4, ⟨?_, p', q', hI'⟩, rfl, ⟨g1, g2, g3⟩⟩
  by_cases hA : putE E s cpu mem xs ys = 0
  · rw [if_pos hA] at hI' ⊢
    exact hI.put hs hxs hys hA hI'.nodes.rises
  · rw [if_neg hA]
    exact hI

theorem takeL (w : World) (L : Nat) (fp : Nat → Prop) (E : List (ByteArray × Rec)) (G : List (Int × Grp)) (h : Led w L fp E G) (g : Int) (hg : (Lit.int .i64 g).wf = true) (a : Option Addr) (n c : Nat) (ps : List Pl) (hP : Pls w a ps) (hl : ps.length = n) (hsp : SP a)
    (hz : ∀ p ∈ ps, p.node.size ≤ maxLen) (hfa : ∀ x, a = some x → ps ≠ [] → ¬ fp x.block) (h8 : ps.length ≤ 8) (hGl : G.length ≤ 1000) :
    Calls Tryd.prog 23 #[.pointer (some ⟨L, 0, none⟩), .int .i64 g, .slice a n c] w fun e w' => e = .returned (.int .i64 (takeE E G g ps)) ∧
      ∃ fp' E' G' a' c', Led w' L fp' E' G' ∧ G' = (if takeE E G g ps = 0 then put iK G g ⟨a', c', ps⟩ else G) ∧ E'.map (·.1) = E.map (·.1) ∧ E'.map (fun e => e.2.core) = E.map (fun e => e.2.core) ∧ Turn w w' fp fp' := by
  obtain ⟨hI, p, q, hL⟩ := h
  refine (take_any w L fp p q E G hL hI.fair g hg a n c ps hP hl hsp hz hfa (by have := hI.lenE; omega) hGl).mono ?_
  rintro e w' ⟨rfl, hT⟩
  rcases hT with ⟨hA, hb⟩ | ⟨hA, fp', M, a', c', hw, hI', g1, g2, g3⟩
  · exact ⟨rfl, fp, E, G, none, 0, ⟨hI, p, q, hL.later hb⟩, by rw [if_neg hA], rfl, rfl, .of_below hb⟩
  · obtain ⟨k1, k2, k3⟩ := hI.take (a := a') (c := c') hA hw h8 hGl hz
    exact ⟨rfl, fp', _, _, a', c', ⟨k1, p, q, hI'⟩, by rw [if_pos hA], k2, k3, ⟨g1, g2, g3⟩⟩

/-- What Give answers. -/
def giveE (G : List (Int × Grp)) (g : Int) : Int := if (look G g).isSome then 0 else 5
theorem del_same {G : List (Int × Grp)} {g : Int} (h : look G g = none) : del G g = G := del_none h
theorem giveL (w : World) (L : Nat) (fp : Nat → Prop) (E : List (ByteArray × Rec)) (G : List (Int × Grp)) (h : Led w L fp E G) (g : Int) (hg : (Lit.int .i64 g).wf = true) (hGl : G.length ≤ 1000) :
    Calls Tryd.prog 18 #[.pointer (some ⟨L, 0, none⟩), .int .i64 g] w fun e w' => e = .returned (.int .i64 (giveE G g)) ∧
      ∃ E', Led w' L fp E' (del G g) ∧ E'.map (·.1) = E.map (·.1) ∧ E'.map (fun e => e.2.core) = E.map (fun e => e.2.core) ∧ Turn w w' fp fp := by
  obtain ⟨hI, p, q, hL⟩ := h
  cases hl : look G g with
  | none =>
    refine (give_none w L fp p q E G hL g hg hl).mono ?_
    rintro e w' ⟨rfl, rfl⟩
    refine ⟨by simp [giveE, hl], E, ⟨by rw [del_same hl]; exact hI, p, q, by rw [del_same hl]; exact hL⟩, rfl, rfl, .of_below (Below.refl _ _)⟩
  | some r =>
    obtain ⟨a, c, ps⟩ := r
    obtain ⟨E', k1, k2, k3, k4⟩ := hI.give hl hGl
    have hp := hI.pls _ (mem_of_look hl)
    refine (give_some w L fp p q E E' G hL g hg a c ps hl k1 hI.fair (fun p hp' => (hp.2 p hp').2.2.2) (fun p hp' => ⟨(hp.2 p hp').1, (hp.2 p hp').2.1⟩) (by have := hI.lenE; omega)).mono ?_
    rintro e w' ⟨rfl, h1, h2⟩
    exact ⟨by simp [giveE, hl], E', ⟨k2, p, q, h1⟩, k3, k4, ⟨fun _ h => h, fun _ h => .inl h, h2⟩⟩


theorem usedL (w : World) (L : Nat) (fp : Nat → Prop) (E : List (ByteArray × Rec)) (G : List (Int × Grp)) (h : Led w L fp E G) (s : ByteArray) (hs : s.size ≤ maxLen) :
    Calls Tryd.prog 16 #[.pointer (some ⟨L, 0, none⟩), .string s] w fun e w' => e = .returned (.tuple #[.agg #[.int .i64 (gW (·.cpu) s G), .int .i64 (gW (·.mem) s G)], .int .i64 (gW (fun _ => 1) s G)]) ∧ Below w.heap.size w w' := by
  obtain ⟨hI, p, q, hL⟩ := h
  have := used_any w L fp p q E G hL s hs
  obtain ⟨h1, h2, h3⟩ := hI.used s
  rwa [h1, h2, h3] at this
theorem placesL (w : World) (L : Nat) (fp : Nat → Prop) (E : List (ByteArray × Rec)) (G : List (Int × Grp)) (h : Led w L fp E G) (g : Int) (hg : (Lit.int .i64 g).wf = true) (ps : List Pl) (n : Nat) (hps : ((look G g).getD zgrp).ps = ps) (hn : ps.length = n) :
    Calls Tryd.prog 12 #[.pointer (some ⟨L, 0, none⟩), .int .i64 g] w fun e w' => ∃ a c, e = .returned (.slice a n c) ∧ Pls w' a ps ∧ SP a ∧ (∀ x, a = some x → w.heap.size ≤ x.block ∧ x.block < w'.heap.size) ∧ n ≤ c ∧ Below w.heap.size w w' := by
  obtain ⟨hI, p, q, hL⟩ := h
  subst hps hn
  exact places_any w L fp p q E G hL g hg
theorem nodesL (w : World) (L : Nat) (fp : Nat → Prop) (E : List (ByteArray × Rec)) (G : List (Int × Grp)) (h : Led w L fp E G) :
    Calls Tryd.prog 14 #[.pointer (some ⟨L, 0, none⟩)] w fun e w' => ∃ g c l, e = .returned (.slice (some ⟨g, 0, none⟩) E.length c) ∧ Nds w' w.heap.size (some ⟨g, 0, none⟩) l ∧ l.map Rec.core = E.map (fun e => e.2.core) ∧ E.length ≤ c ∧ Below w.heap.size w w' := by
  obtain ⟨hI, p, q, hL⟩ := h
  exact nodes_any w L fp p q E G hL (by have := hI.lenE; omega) hI.size

end Go.Proofs.YtpgchnppinbpkaaDoor
