/- The contract of Gone of package ledger, where it is refused; of one node. -/
import Derived.Test.YtcmgpbdciifdmaaKN
namespace Go.Proofs.Ytcmgpbdciifdmaa
open Go.RowKit Go.Maps

set_option maxRecDepth 100000 in
set_option maxHeartbeats 1000000 in
theorem gone_no (w : World) (L : Nat) (fp : Nat → Prop) (p q : Option Nat) (E : List (ByteArray × Rec)) (G : List (Int × Grp)) (h : IsL w L fp p q E G) (s : ByteArray) (hs : s.size ≤ maxLen) (A : Int) (hA : goneE E s = A) (hA0 : A ≠ 0) :
    Calls Try.prog 15 #[.pointer (some ⟨L, 0, none⟩), .string s] w fun e w' => e = .returned (.int .i64 A) ∧ Below w.heap.size w w' := by
  have hlk := h.nodes.look2 s hs
  have c0 := h.box.cell (i := 0) rfl
  cases hl : look E s with
  | none =>
    have e5 : goneE E s = 5 := by simp [goneE, hl]
    rw [← hA, e5]
    clear hA hA0 e5
    rw [hl] at hlk
    simp only [Option.getD_none, Option.isSome_none, zrec, Rec.val] at hlk
    go_enter Try.func15, Try.ntmps15
    go_wp2
    go_ret
    exact ⟨rfl, up (Below.refl _ _) _⟩
  | some r =>
    rw [hl] at hlk
    simp only [Option.getD_some, Option.isSome_some] at hlk
    by_cases hk : 0 < r.k
    · have e5 : goneE E s = 7 := by simp [goneE, hl, hk]
      rw [← hA, e5]
      clear hl e5 hA hA0
      obtain ⟨nm, cpu, mem, a1, c1, xs, a2, c2, ys, cl, u, m, k⟩ := r
      simp only [Rec.val] at hlk hk
      go_enter Try.func15, Try.ntmps15
      go_wp2
      go_ret
      exact ⟨rfl, up (Below.refl _ _) _⟩
    · have e5 : goneE E s = 0 := by simp [goneE, hl, hk]
      exact absurd (hA ▸ e5) hA0

theorem gone_err (w : World) (L : Nat) (fp : Nat → Prop) (r : Rec) (G : List (Int × Grp)) (h : One w L fp r G) (s : ByteArray) (hs : s.size ≤ maxLen) (A : Int) (hA : goneE [(nB, r)] s = A) (hA0 : A ≠ 0) :
    Calls Try.prog 15 #[.pointer (some ⟨L, 0, none⟩), .string s] w fun e w' => e = .returned (.int .i64 A) ∧ Below w.heap.size w w' := by
  obtain ⟨hF, hnm, p, q, hI⟩ := h
  exact gone_no w L fp p q _ G hI s hs A hA hA0
theorem gone_one (w : World) (L : Nat) (fp : Nat → Prop) (r : Rec) (G : List (Int × Grp)) (h : One w L fp r G) (hk : r.k = 0) :
    Calls Try.prog 15 #[.pointer (some ⟨L, 0, none⟩), .string nB] w fun e w' => e = .returned (.int .i64 0) ∧ (∃ p q, IsL w' L fp p q [] G) ∧ Kept fp w w' := by
  obtain ⟨hF, hnm, p, q, hI⟩ := h
  have e0 : goneE [(nB, r)] nB = 0 := by unfold goneE; rw [look_one, if_pos rfl]; simp [hk]
  refine (gone_any w L fp p q _ G hI nB nB_small).mono ?_
  rintro e w' ⟨rfl, h1, h2⟩
  rw [e0] at h1 ⊢
  rw [if_pos rfl] at h1
  have : del [(nB, r)] nB = [] := by simp [del]
  rw [this] at h1
  exact ⟨rfl, ⟨p, q, h1⟩, h2⟩
theorem give_nothing (w : World) (L : Nat) (fp : Nat → Prop) (r : Rec) (G : List (Int × Grp)) (h : One w L fp r G) (g : Int) (hg : (Lit.int .i64 g).wf = true) (hn : look G g = none) :
    Calls Try.prog 18 #[.pointer (some ⟨L, 0, none⟩), .int .i64 g] w fun e w' => e = .returned (.int .i64 5) ∧ w' = w := by
  obtain ⟨hF, hnm, p, q, hI⟩ := h
  exact give_none w L fp p q _ G hI g hg hn
theorem give_one (w : World) (L : Nat) (fp : Nat → Prop) (r : Rec) (G : List (Int × Grp)) (h : One w L fp r G) (g : Int) (hg : (Lit.int .i64 g).wf = true) (a : Option Addr) (c : Nat) (pl : Pl) (hn : look G g = some ⟨a, c, [pl]⟩) (hp : pl.node = nB) (hq : 0 ≤ pl.cpu ∧ 0 ≤ pl.mem) (hf : pl.cpu ≤ r.u ∧ pl.mem ≤ r.m) :
    Calls Try.prog 18 #[.pointer (some ⟨L, 0, none⟩), .int .i64 g] w fun e w' => e = .returned (.int .i64 0) ∧ One w' L fp (r.minus pl) (del G g) ∧ Kept fp w w' := by
  obtain ⟨hF, hnm, p, q, hI⟩ := h
  have e0 : giveF [(nB, r)] [pl] = some [(nB, r.minus pl)] := by
    simp only [giveF, hp, look_one, if_pos, hf, and_self, put_one']
  refine (give_some w L fp p q _ _ G hI g hg a c [pl] hn e0 (by intro e he; simp at he; subst he; exact hF) (by intro x hx; simp at hx; subst hx; rw [hp]; exact nB_small) (by intro x hx; simp at hx; subst hx; exact hq) (by simp)).mono ?_
  rintro e w' ⟨rfl, h1, h2⟩
  exact ⟨rfl, ⟨hF.minus hq hf, hnm, p, q, h1⟩, h2⟩

end Go.Proofs.Ytcmgpbdciifdmaa
