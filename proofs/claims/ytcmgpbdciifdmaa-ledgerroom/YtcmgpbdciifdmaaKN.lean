/- A ledger of one node; the statements' own known. -/
import Derived.Test.YtcmgpbdciifdmaaTK
import Derived.Test.YtcmgpbdciifdmaaGV
import Derived.Test.YtcmgpbdciifdmaaPU
import Derived.Test.YtcmgpbdciifdmaaNO
namespace Go.Proofs.Ytcmgpbdciifdmaa
open Go.RowKit Go.Maps

theorem below_drewN {B : Nat} {w W : World} (h : Below B w W) (n : Nat) : Below B w (W.drewN n) := h.trans ⟨rfl, rfl, rfl, Nat.le_refl _, fun _ _ => rfl⟩
/-- The name of the one node. -/
abbrev nB : ByteArray := ⟨#[110]⟩
/-- A ledger of one node. -/
def One (w : World) (L : Nat) (fp : Nat → Prop) (r : Rec) (G : List (Int × Grp)) : Prop := r.Fair ∧ r.nm = nB ∧ ∃ p q, IsL w L fp p q [(nB, r)] G
theorem One.later {w w' : World} {L : Nat} {fp : Nat → Prop} {r : Rec} {G : List (Int × Grp)} (h : One w L fp r G) (hb : Below w.heap.size w w') : One w' L fp r G := ⟨h.1, h.2.1, h.2.2.elim fun p h => h.elim fun q h => ⟨p, q, h.later hb⟩⟩
theorem One.outs {w : World} {L : Nat} {fp : Nat → Prop} {r : Rec} {G : List (Int × Grp)} (h : One w L fp r G) : ¬ fp w.heap.size := h.2.2.elim fun _ h => h.elim fun _ h => h.outs
theorem One.lt {w : World} {L : Nat} {fp : Nat → Prop} {r : Rec} {G : List (Int × Grp)} (h : One w L fp r G) : ∀ b, fp b → b < w.heap.size := h.2.2.elim fun _ h => h.elim fun _ h => h.lt

theorem look_one (r : Rec) (s : ByteArray) : look [(nB, r)] s = if nB = s then some r else none := by
  rw [look_cons]; rfl
theorem put_none (r : Rec) : put sK ([] : List (ByteArray × Rec)) nB r = [(nB, r)] := rfl
theorem put_one' (r r' : Rec) : put sK [(nB, r)] nB r' = [(nB, r')] := by
  have : del [(nB, r)] nB = [] := by simp [del]
  unfold put
  rw [this]
  rfl
theorem with_one (r : Rec) (q : Pl) (hq : q.node = nB) : withF [(nB, r)] [] [q] = if r.u + q.cpu ≤ r.cpu ∧ r.m + q.mem ≤ r.mem then some [(nB, r.plus q)] else none := by
  have e : nowR [(nB, r)] [] nB = r := rfl
  simp only [withF, hq, e, put_none]
theorem merge_one (r r' : Rec) : mergeF [(nB, r)] [(nB, r')] = [(nB, r')] := put_one' r r'
theorem check_one (r : Rec) (q : Pl) (hq : q.node = nB) (h : 0 ≤ q.cpu ∧ 0 ≤ q.mem) : checkF [(nB, r)] [q] = 0 := by
  unfold checkF
  rw [look_one, hq]
  simp [h, checkF]
theorem node_one (cpu mem : Int) (hc : 0 ≤ cpu ∧ cpu ≤ 1099511627776) (hm : 0 ≤ mem ∧ mem ≤ 1099511627776) : nodeE nB cpu mem [] [] = 0 := by
  have e1 : isName nB = true := by decide +kernel
  have e2 : sizeB cpu mem = true := by unfold sizeB; simp; omega
  have e3 : setB [] = true := rfl
  unfold nodeE askE
  rw [e1, e2, e3]; rfl

theorem nB_small : nB.size ≤ maxLen := by decide

/-- The first node of a ledger. -/
theorem put_first (w : World) (L : Nat) (fp : Nat → Prop) (p q : Option Nat) (G : List (Int × Grp)) (h : IsL w L fp p q [] G) (cpu mem : Int) (hc : 0 ≤ cpu ∧ cpu ≤ 1099511627776) (hm : 0 ≤ mem ∧ mem ≤ 1099511627776) :
    Calls Try.prog 13 #[.pointer (some ⟨L, 0, none⟩), .agg #[.string nB, .int .i64 cpu, .int .i64 mem, .slice none 0 0, .slice none 0 0, .bool false]] w fun e w' => e = .returned (.int .i64 0) ∧
      ∃ fp' r, One w' L fp' r G ∧ r.core = (nB, cpu, mem, [], [], false) ∧ r.u = 0 ∧ r.m = 0 ∧ r.k = 0 ∧ (∀ b, fp' b → fp b ∨ w.heap.size ≤ b) ∧ Kept fp w w' := by
  have hs : Strs w none [] := ⟨by simp, by simp⟩
  have e0 : putE [] nB cpu mem [] [] = 0 := by
    unfold putE
    rw [node_one cpu mem hc hm]
    have : ((look ([] : List (ByteArray × Rec)) nB).getD zrec) = zrec := rfl
    rw [this]
    have hz : zrec.u ≤ cpu ∧ zrec.m ≤ mem := ⟨hc.1, hm.1⟩
    simp [hz]
  refine (put_any w L fp p q [] G h nB cpu mem none none 0 0 0 0 false [] [] nB_small hs hs rfl rfl SP.none SP.none (fun x hx => by cases hx) (fun x hx => by cases hx) (by decide)).mono ?_
  rintro e w' ⟨rfl, hP⟩
  rw [e0] at hP ⊢
  obtain ⟨fp', p', q', a3, c3, a4, c4, hI, h1, h2, h3, _⟩ := hP
  rw [if_pos rfl, put_none] at hI
  refine ⟨rfl, fp', _, ⟨⟨show (0 : Int) ≤ 0 by decide, show (0 : Int) ≤ 0 by decide, show (0 : Int) ≤ _ by decide, show (0 : Int) ≤ _ by decide, ?_, ?_⟩, rfl, p', q', hI⟩, rfl, rfl, rfl, rfl, h2, h3⟩
  · show cpu ≤ _; omega
  · show mem ≤ _; omega

/-- One place more, or none. -/
theorem take_one (w : World) (L : Nat) (fp : Nat → Prop) (r : Rec) (G : List (Int × Grp)) (h : One w L fp r G) (g : Int) (hg : (Lit.int .i64 g).wf = true) (hgn : look G g = none) (hGl : G.length ≤ 1000) (B o c : Nat) (pl : Pl) (hP : Pls w (some ⟨B, o, none⟩) [pl]) (hB : ¬ fp B) (hn : pl.node = nB) (hr : 0 ≤ pl.cpu ∧ 0 ≤ pl.mem)
    (A : Int) (hA : (if r.u + pl.cpu ≤ r.cpu ∧ r.m + pl.mem ≤ r.mem then 0 else 6) = A) :
    Calls Try.prog 22 #[.pointer (some ⟨L, 0, none⟩), .int .i64 g, .slice (some ⟨B, o, none⟩) 1 c] w fun e w' => e = .returned (.int .i64 A) ∧
      ((A ≠ 0 ∧ Below w.heap.size w w') ∨ (A = 0 ∧ ∃ fp' a c, One w' L fp' (r.plus pl) (put iK G g ⟨a, c, [pl]⟩) ∧ (∀ b, fp' b → fp b ∨ w.heap.size ≤ b) ∧ Kept fp w w')) := by
  obtain ⟨hF, hnm, p, q, hI⟩ := h
  have hT : takeE [(nB, r)] G g [pl] = A := by
    unfold takeE
    rw [hgn, check_one r pl hn hr, with_one r pl hn, ← hA]
    by_cases hf : r.u + pl.cpu ≤ r.cpu ∧ r.m + pl.mem ≤ r.mem
    · simp [hf]
    · simp [hf]
  refine (take_any w L fp p q [(nB, r)] G hI (by intro e he; simp at he; subst he; exact hF) g hg (some ⟨B, o, none⟩) 1 c [pl] hP rfl (SP.some _ _) (by intro x hx; simp at hx; subst hx; rw [hn]; exact nB_small) (by intro x hx _; cases hx; exact hB) (by simp) hGl).mono ?_
  rintro e w' ⟨rfl, hP'⟩
  rw [hT] at hP' ⊢
  refine ⟨rfl, ?_⟩
  rcases hP' with h1 | ⟨h1, fp', M, a, c', h2, h3, h4, h5, h6⟩
  · exact .inl h1
  · rw [with_one r pl hn] at h2
    split at h2
    case isFalse => cases h2
    case isTrue hf =>
      cases h2
      rw [merge_one] at h3
      exact .inr ⟨h1, fp', a, c', ⟨hF.plus hr hf, hnm, p, q, h3⟩, h5, h6⟩

theorem take_ok (w : World) (L : Nat) (fp : Nat → Prop) (r : Rec) (G : List (Int × Grp)) (h : One w L fp r G) (g : Int) (hg : (Lit.int .i64 g).wf = true) (hgn : look G g = none) (hGl : G.length ≤ 1000) (B o c : Nat) (pl : Pl) (hP : Pls w (some ⟨B, o, none⟩) [pl]) (hB : ¬ fp B) (hn : pl.node = nB) (hr : 0 ≤ pl.cpu ∧ 0 ≤ pl.mem) (hf : r.u + pl.cpu ≤ r.cpu ∧ r.m + pl.mem ≤ r.mem) :
    Calls Try.prog 22 #[.pointer (some ⟨L, 0, none⟩), .int .i64 g, .slice (some ⟨B, o, none⟩) 1 c] w fun e w' => e = .returned (.int .i64 0) ∧
      ∃ fp' a c, One w' L fp' (r.plus pl) (put iK G g ⟨a, c, [pl]⟩) ∧ (∀ b, fp' b → fp b ∨ w.heap.size ≤ b) ∧ Kept fp w w' := by
  refine (take_one w L fp r G h g hg hgn hGl B o c pl hP hB hn hr 0 (if_pos hf)).mono ?_
  rintro e w' ⟨rfl, ⟨h0, _⟩ | ⟨_, h1⟩⟩
  · exact absurd rfl h0
  · exact ⟨rfl, h1⟩
theorem take_no (w : World) (L : Nat) (fp : Nat → Prop) (r : Rec) (G : List (Int × Grp)) (h : One w L fp r G) (g : Int) (hg : (Lit.int .i64 g).wf = true) (hgn : look G g = none) (hGl : G.length ≤ 1000) (B o c : Nat) (pl : Pl) (hP : Pls w (some ⟨B, o, none⟩) [pl]) (hB : ¬ fp B) (hn : pl.node = nB) (hr : 0 ≤ pl.cpu ∧ 0 ≤ pl.mem) (hf : ¬ (r.u + pl.cpu ≤ r.cpu ∧ r.m + pl.mem ≤ r.mem)) :
    Calls Try.prog 22 #[.pointer (some ⟨L, 0, none⟩), .int .i64 g, .slice (some ⟨B, o, none⟩) 1 c] w fun e w' => e = .returned (.int .i64 6) ∧ Below w.heap.size w w' := by
  refine (take_one w L fp r G h g hg hgn hGl B o c pl hP hB hn hr 6 (if_neg hf)).mono ?_
  rintro e w' ⟨rfl, ⟨_, h1⟩ | ⟨h0, _⟩⟩
  · exact ⟨rfl, h1⟩
  · cases h0
theorem take_err (w : World) (L : Nat) (fp : Nat → Prop) (r : Rec) (G : List (Int × Grp)) (h : One w L fp r G) (g : Int) (hg : (Lit.int .i64 g).wf = true) (hGl : G.length ≤ 1000) (a : Option Addr) (n c : Nat) (ps : List Pl) (hP : Pls w a ps) (hl : ps.length = n) (hsp : SP a) (hz : ∀ p ∈ ps, p.node.size ≤ maxLen) (hfa : ∀ x, a = some x → ps ≠ [] → ¬ fp x.block) (A : Int) (hA : takeE [(nB, r)] G g ps = A) (hA0 : A ≠ 0) :
    Calls Try.prog 22 #[.pointer (some ⟨L, 0, none⟩), .int .i64 g, .slice a n c] w fun e w' => e = .returned (.int .i64 A) ∧ Below w.heap.size w w' := by
  obtain ⟨hF, hnm, p, q, hI⟩ := h
  refine (take_any w L fp p q [(nB, r)] G hI (by intro e he; simp at he; subst he; exact hF) g hg a n c ps hP hl hsp hz hfa (by simp) hGl).mono ?_
  rintro e w' ⟨rfl, hP'⟩
  rw [hA] at hP' ⊢
  rcases hP' with ⟨_, h1⟩ | ⟨h0, _⟩
  · exact ⟨rfl, h1⟩
  · exact absurd h0 hA0
theorem places_one (w : World) (L : Nat) (fp : Nat → Prop) (r : Rec) (G : List (Int × Grp)) (h : One w L fp r G) (g : Int) (hg : (Lit.int .i64 g).wf = true) (ps : List Pl) (hp : ((look G g).getD zgrp).ps = ps) (n : Nat) (hn : ps.length = n) :
    Calls Try.prog 26 #[.pointer (some ⟨L, 0, none⟩), .int .i64 g] w fun e w' => ∃ a c, e = .returned (.slice a n c) ∧ Pls w' a ps ∧ SP a ∧ (∀ x, a = some x → w.heap.size ≤ x.block ∧ x.block < w'.heap.size) ∧ n ≤ c ∧ Below w.heap.size w w' := by
  obtain ⟨hF, hnm, p, q, hI⟩ := h
  have := places_any w L fp p q _ G hI g hg
  rw [hp, hn] at this
  exact this

theorem used_one (w : World) (L : Nat) (fp : Nat → Prop) (r : Rec) (G : List (Int × Grp)) (h : One w L fp r G) :
    Calls Try.prog 27 #[.pointer (some ⟨L, 0, none⟩), .string nB] w fun e w' => e = .returned (.tuple #[.agg #[.int .i64 r.u, .int .i64 r.m], .int .i64 r.k]) ∧ Below w.heap.size w w' := by
  obtain ⟨hF, hnm, p, q, hI⟩ := h
  have := used_any w L fp p q _ G hI nB nB_small
  rw [look_one, if_pos rfl] at this
  exact this
theorem nodes_one (w : World) (L : Nat) (fp : Nat → Prop) (r : Rec) (G : List (Int × Grp)) (h : One w L fp r G) :
    Calls Try.prog 25 #[.pointer (some ⟨L, 0, none⟩)] w fun e w' => ∃ g c r', e = .returned (.slice (some ⟨g, 0, none⟩) 1 c) ∧ Nds w' w.heap.size (some ⟨g, 0, none⟩) [r'] ∧ r'.core = r.core ∧ 1 ≤ c ∧ Below w.heap.size w w' := by
  obtain ⟨hF, hnm, p, q, hI⟩ := h
  refine (nodes_any w L fp p q _ G hI (by simp) (by intro e he; simp at he; subst he; exact nB_small)).mono ?_
  rintro e w' ⟨g, c, l, rfl, h1, h2, h3, h4⟩
  cases l with
  | nil => simp at h2
  | cons r' t =>
    cases t with
    | nil => simp at h2; exact ⟨g, c, r', rfl, h1, h2, h3, h4⟩
    | cons x y => simp at h2

theorem pls_lit (w : World) (pl : Pl) : Pls (w.alloc (.cells #[.string pl.pod, .string pl.node, .int .i64 pl.cpu, .int .i64 pl.mem, .bool pl.al] 49)) (some ⟨w.heap.size, 0, none⟩) [pl] := by
  refine pls_of_cells (by simp) fun j u hj => ?_
  rw [Nat.zero_add]
  exact (Box.new w _ _ rfl).cell (by simpa [Pl.cells] using hj)

set_option maxRecDepth 100000 in
set_option maxHeartbeats 4000000 in
theorem known_any (w : World) : Calls Try.prog 9 #[] w fun e w' => e = .returned (.bool true) ∧ Below w.heap.size w w' := by
  have he := eqVec
  go_enter Try.func9, Try.ntmps9
  go_upto_region 4 with (first
    | (go_at_call 10; refine (new_any w).mono ?_; rintro e w1 ⟨L, fp, rfl, hI1, hf1, hb1⟩; have k1 := give_none w1 L fp none none [] [] hI1 1 (by decide) rfl; have k2 := put_first w1 L fp none none [] hI1 2 0 (by decide) (by decide))
    | (go_at_call 18; refine k1.mono ?_; rintro e w2 ⟨rfl, rfl⟩)
    | (go_at_call 13; refine k2.mono ?_; rintro e w3 ⟨rfl, fp3, r, hO3, hc3, hu3, hm3, hk3, hf3, hK3⟩))
  have hcp : r.cpu = 2 := congrArg (fun x => x.2.1) hc3
  have hcm : r.mem = 0 := congrArg (fun x => x.2.2.1) hc3
  have hb3 : Below w.heap.size w w3 := hb1.trans (hK3.below hb1.size hf1)
  have hf3' : ∀ b, fp3 b → w.heap.size ≤ b := fun b hb => (hf3 b hb).elim (hf1 b) (fun h => Nat.le_trans hb1.size h)
  clear k1 k2 hI1 hf1 hb1 hf3 hK3
  have hO4 := hO3.later (up (Below.refl _ _) (.cells #[.string ⟨#[112]⟩, .string nB, .int .i64 2, .int .i64 0, .bool false] 49))
  have hb4 := up hb3 (.cells #[.string ⟨#[112]⟩, .string nB, .int .i64 2, .int .i64 0, .bool false] 49)
  have k3 := take_ok _ L fp3 r [] hO4 1 (by decide) rfl (by simp) w3.heap.size 0 1 ⟨⟨#[112]⟩, nB, 2, 0, false⟩ (pls_lit w3 _) hO3.outs rfl (by decide) (by rw [hu3, hm3, hcp, hcm]; decide)
  clear hO3 hO4
  go_upto_region 5 with (go_at_call 22; refine k3.mono ?_; rintro e w5 ⟨rfl, fp5, a5, c5, hO5, hf5, hK5⟩)
  have hb5 : Below w.heap.size w w5 := hb4.trans (hK5.below hb4.size hf3')
  have k5 := fun W (hW : Below w5.heap.size w5 W) => used_one W L fp5 _ _ (hO5.later hW)
  have k6 := fun W (hW : Below w5.heap.size w5 W) => places_one W L fp5 _ _ (hO5.later hW) 1 (by decide) [⟨⟨#[112]⟩, nB, 2, 0, false⟩] rfl 1 rfl
  have k7 := fun W (hW : Below w5.heap.size w5 W) => nodes_one W L fp5 _ _ (hO5.later hW)
  have e1 : (r.plus ⟨⟨#[112]⟩, nB, 2, 0, false⟩).u = 2 := by show r.u + 2 = 2; rw [hu3]; rfl
  have e2 : (r.plus ⟨⟨#[112]⟩, nB, 2, 0, false⟩).m = 0 := by show r.m + 0 = 0; rw [hm3]; rfl
  have e3 : (r.plus ⟨⟨#[112]⟩, nB, 2, 0, false⟩).k = 1 := by show wrap64 (r.k + 1) = 1; rw [hk3]; unfold wrap64; omega
  rw [e1, e2, e3] at k5
  clear k3 hO5 e1 e2 e3 hcp hcm hc3 hu3 hm3 hk3 hb4 hf3'
  go_wp2_with (first
    | (go_at_call 27; refine (k5 _ (Below.refl _ _)).mono ?_; rintro e w6 ⟨rfl, h6⟩; have h6u := up h6 (.cells #[.int .i64 2, .int .i64 0] 33))
    | (go_at_call 26; refine (k6 _ h6u).mono ?_; rintro e w7 ⟨a7, c7, rfl, _, _, _, _, h7⟩; have h7u := h6u.trans (h7.mono h6u.size))
    | (go_at_call 25; refine (k7 _ h7u).mono ?_; rintro e w8 ⟨g8, c8, r8, rfl, _, _, _, h8⟩; have h8u := h7u.trans (h8.mono h7u.size)))
  go_ret
  exact ⟨rfl, hb5.trans (h8u.mono hb5.size)⟩

end Go.Proofs.Ytcmgpbdciifdmaa
