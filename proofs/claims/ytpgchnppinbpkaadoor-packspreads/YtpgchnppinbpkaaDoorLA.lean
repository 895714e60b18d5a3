/- The contracts of New and Used of package ledger. -/
import Derived.Test.YtpgchnppinbpkaaDoorCL
namespace Go.Proofs.YtpgchnppinbpkaaDoor
open Go.RowKit Go.Maps

theorem new_any (w : World) : Calls Tryd.prog 19 #[] w fun e w' => ∃ L fp, e = .returned (.pointer (some ⟨L, 0, none⟩)) ∧ IsL w' L fp none none [] [] ∧ (∀ b, fp b → w.heap.size ≤ b) ∧ Below w.heap.size w w' := by
  go_enter Tryd.func19, Tryd.ntmps19
  go_wp2
  go_ret
  refine ⟨w.heap.size, fun b => b = w.heap.size, rfl, ?_, fun b hb => by omega, (Below.refl _ _).alloc (Nat.le_refl _) _⟩
  exact ⟨Box.new w _ _ rfl, .inl ⟨rfl, rfl⟩, .inl ⟨rfl, rfl⟩, Iff.rfl, rfl, (fun b h => by cases h), (fun b h => by cases h), (fun b h => by cases h), (fun b h => by subst h; simp), (fun e he => by cases he), (fun e he => by cases he)⟩

theorem up {w W : World} (h : Below w.heap.size w W) (o : Obj) : Below w.heap.size w (W.alloc o) := h.alloc h.size o

set_option maxHeartbeats 1000000 in
theorem used_any (w : World) (L : Nat) (fp : Nat → Prop) (p q : Option Nat) (E : List (ByteArray × Rec)) (G : List (Int × Grp)) (h : IsL w L fp p q E G) (s : ByteArray) (hs : s.size ≤ maxLen) :
    Calls Tryd.prog 16 #[.pointer (some ⟨L, 0, none⟩), .string s] w fun e w' => e = .returned (.tuple #[.agg #[.int .i64 ((look E s).getD zrec).u, .int .i64 ((look E s).getD zrec).m], .int .i64 ((look E s).getD zrec).k]) ∧ Below w.heap.size w w' := by
  have h' := h.later (up (Below.refl _ _) (V 0 0))
  have hlk := h'.nodes.look1 s hs
  have c0 := h'.box.cell (i := 0) rfl
  generalize (look E s).getD zrec = r at hlk ⊢
  obtain ⟨nm, cpu, mem, a1, c1, xs, a2, c2, ys, cl, u, m, k⟩ := r
  simp only [Rec.val] at hlk ⊢
  clear h h'
  go_enter Tryd.func16, Tryd.ntmps16
  go_wp2
  go_region_with (fail)
  all_goals
    go_wp2
    refine bodyPost_ret (by simp [results, Tryd.results16, go_sem]) rfl ⟨rfl, ?_⟩
    repeat (first | with_reducible exact Below.refl _ _ | with_reducible apply Below.drew | with_reducible refine Below.alloc ?_ (by simp <;> omega) _ | (refine Below.setCell (p := ⟨w.heap.size, _, none⟩) ?_ (Nat.le_refl _) _))

set_option maxHeartbeats 1000000 in
theorem places_any (w : World) (L : Nat) (fp : Nat → Prop) (p q : Option Nat) (E : List (ByteArray × Rec)) (G : List (Int × Grp)) (h : IsL w L fp p q E G) (g : Int) (hg : (Lit.int .i64 g).wf = true) :
    Calls Tryd.prog 12 #[.pointer (some ⟨L, 0, none⟩), .int .i64 g] w fun e w' => ∃ a c, e = .returned (.slice a ((look G g).getD zgrp).ps.length c) ∧ Pls w' a ((look G g).getD zgrp).ps ∧ SP a ∧ (∀ x, a = some x → w.heap.size ≤ x.block ∧ x.block < w'.heap.size) ∧ ((look G g).getD zgrp).ps.length ≤ c ∧ Below w.heap.size w w' := by
  have hlk := h.gangs.look1 g hg
  have c0 := h.box.cell (i := 1) rfl
  have hok : Pls w ((look G g).getD zgrp).a ((look G g).getD zgrp).ps ∧ SP ((look G g).getD zgrp).a := by
    cases hl : look G g with
    | none => exact ⟨⟨by simp [zgrp], by simp [zgrp]⟩, SP.none⟩
    | some r => have := h.okG _ (mem_of_look hl); exact ⟨this.h, this.s⟩
  generalize (look G g).getD zgrp = r at hlk hok ⊢
  obtain ⟨a, c, ps⟩ := r
  simp only [Grp.val] at hlk hok ⊢
  obtain ⟨hok, hsp⟩ := hok
  have k := clone_pls a ps.length c ps w hok rfl hsp
  clear h hok hsp
  go_enter Tryd.func12, Tryd.ntmps12
  go_wp2_with (go_at_call 28; refine k.mono ?_; rintro e w1 ⟨a', c', rfl, h1, h2, h3, h4, h5⟩)
  go_ret
  exact ⟨a', c', rfl, h1, h2, h3, h4, h5⟩

/-- What Gone answers. -/
def goneE (E : List (ByteArray × Rec)) (s : ByteArray) : Int := match look E s with
  | none => 5
  | some r => if 0 < r.k then 7 else 0


end Go.Proofs.YtpgchnppinbpkaaDoor
