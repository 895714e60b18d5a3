/- The contracts of New and Used of package ledger. -/
import Derived.Test.YtcmgpbdciifdmaaCL
namespace Go.Proofs.Ytcmgpbdciifdmaa
open Go.RowKit Go.Maps

theorem new_any (w : World) : Calls Try.prog 10 #[] w fun e w' => ∃ L fp, e = .returned (.pointer (some ⟨L, 0, none⟩)) ∧ IsL w' L fp none none [] [] ∧ (∀ b, fp b → w.heap.size ≤ b) ∧ Below w.heap.size w w' := by
  go_enter Try.func10, Try.ntmps10
  go_wp2
  go_ret
  refine ⟨w.heap.size, fun b => b = w.heap.size, rfl, ?_, fun b hb => by omega, (Below.refl _ _).alloc (Nat.le_refl _) _⟩
  exact ⟨Box.new w _ _ rfl, .inl ⟨rfl, rfl⟩, .inl ⟨rfl, rfl⟩, Iff.rfl, rfl, (fun b h => by cases h), (fun b h => by cases h), (fun b h => by cases h), (fun b h => by subst h; simp), (fun e he => by cases he), (fun e he => by cases he)⟩

theorem up {w W : World} (h : Below w.heap.size w W) (o : Obj) : Below w.heap.size w (W.alloc o) := h.alloc h.size o

set_option maxHeartbeats 1000000 in
theorem used_any (w : World) (L : Nat) (fp : Nat → Prop) (p q : Option Nat) (E : List (ByteArray × Rec)) (G : List (Int × Grp)) (h : IsL w L fp p q E G) (s : ByteArray) (hs : s.size ≤ maxLen) :
    Calls Try.prog 27 #[.pointer (some ⟨L, 0, none⟩), .string s] w fun e w' => e = .returned (.tuple #[.agg #[.int .i64 ((look E s).getD zrec).u, .int .i64 ((look E s).getD zrec).m], .int .i64 ((look E s).getD zrec).k]) ∧ Below w.heap.size w w' := by
  have h' := h.later (up (Below.refl _ _) (V 0 0))
  have hlk := h'.nodes.look1 s hs
  have c0 := h'.box.cell (i := 0) rfl
  generalize (look E s).getD zrec = r at hlk ⊢
  obtain ⟨nm, cpu, mem, a1, c1, xs, a2, c2, ys, cl, u, m, k⟩ := r
  simp only [Rec.val] at hlk ⊢
  clear h h'
  go_enter Try.func27, Try.ntmps27
  go_wp2
  go_region_with (fail)
  all_goals
    go_wp2
    refine bodyPost_ret (by simp [results, Try.results27, go_sem]) rfl ⟨rfl, ?_⟩
    repeat (first | with_reducible exact Below.refl _ _ | with_reducible apply Below.drew | with_reducible refine Below.alloc ?_ (by simp <;> omega) _ | (refine Below.setCell (p := ⟨w.heap.size, _, none⟩) ?_ (Nat.le_refl _) _))

set_option maxHeartbeats 1000000 in
theorem places_any (w : World) (L : Nat) (fp : Nat → Prop) (p q : Option Nat) (E : List (ByteArray × Rec)) (G : List (Int × Grp)) (h : IsL w L fp p q E G) (g : Int) (hg : (Lit.int .i64 g).wf = true) :
    Calls Try.prog 26 #[.pointer (some ⟨L, 0, none⟩), .int .i64 g] w fun e w' => ∃ a c, e = .returned (.slice a ((look G g).getD zgrp).ps.length c) ∧ Pls w' a ((look G g).getD zgrp).ps ∧ SP a ∧ (∀ x, a = some x → w.heap.size ≤ x.block ∧ x.block < w'.heap.size) ∧ ((look G g).getD zgrp).ps.length ≤ c ∧ Below w.heap.size w w' := by
  have hlk := h.gangs.look1 g hg
  have c0 := h.box.cell (i := 1) rfl
  have hok : Pls w ((look G g).getD zgrp).a ((look G g).getD zgrp).ps ∧ SP ((look G g).getD zgrp).a := by
    cases hl : look G g with
    | none => exact ⟨⟨by simp [zgrp], by simp [zgrp]⟩, SP.none⟩
    | some r => have := h.okG _ (mem_of_look hl); exact ⟨this.h, this.s⟩
  generalize (look G g).getD zgrp = r at hlk hok ⊢
  obtain ⟨a, c, ps⟩ := r
  simp only [Grp.val] at hlk hok ⊢
  obtain ⟨hok, hsp⟩ := hok
  have k := clone_pls a ps.length c ps w hok rfl hsp
  clear h hok hsp
  go_enter Try.func26, Try.ntmps26
  go_wp2_with (go_at_call 47; refine k.mono ?_; rintro e w1 ⟨a', c', rfl, h1, h2, h3, h4, h5⟩)
  go_ret
  exact ⟨a', c', rfl, h1, h2, h3, h4, h5⟩

/-- What Gone answers. -/
def goneE (E : List (ByteArray × Rec)) (s : ByteArray) : Int := match look E s with
  | none => 5
  | some r => if 0 < r.k then 7 else 0

set_option maxRecDepth 100000 in
set_option maxHeartbeats 1000000 in
theorem gone_any (w : World) (L : Nat) (fp : Nat → Prop) (p q : Option Nat) (E : List (ByteArray × Rec)) (G : List (Int × Grp)) (h : IsL w L fp p q E G) (s : ByteArray) (hs : s.size ≤ maxLen) :
    Calls Try.prog 15 #[.pointer (some ⟨L, 0, none⟩), .string s] w fun e w' => e = .returned (.int .i64 (goneE E s)) ∧ IsL w' L fp p q (if goneE E s = 0 then del E s else E) G ∧ Kept fp w w' := by
  have hlk := h.nodes.look2 s hs
  have c0 := h.box.cell (i := 0) rfl
  cases hl : look E s with
  | none =>
    have e5 : goneE E s = 5 := by simp [goneE, hl]
    rw [e5, if_neg (by decide)]
    rw [hl] at hlk
    simp only [Option.getD_none, Option.isSome_none, zrec, Rec.val] at hlk
    go_enter Try.func15, Try.ntmps15
    go_wp2
    go_ret
    exact ⟨rfl, h.later (up (Below.refl _ _) _), .of_below (up (Below.refl _ _) _)⟩
  | some r =>
    rw [hl] at hlk
    simp only [Option.getD_some, Option.isSome_some] at hlk
    by_cases hk : 0 < r.k
    · have e5 : goneE E s = 7 := by simp [goneE, hl, hk]
      rw [e5, if_neg (by decide)]
      clear hl e5
      obtain ⟨nm, cpu, mem, a1, c1, xs, a2, c2, ys, cl, u, m, k⟩ := r
      simp only [Rec.val] at hlk hk
      go_enter Try.func15, Try.ntmps15
      go_wp2
      go_ret
      exact ⟨rfl, h.later (up (Below.refl _ _) _), .of_below (up (Below.refl _ _) _)⟩
    · have e5 : goneE E s = 0 := by simp [goneE, hl, hk]
      rw [e5, if_pos rfl]
      rcases h.nodes with ⟨_, rfl⟩ | ⟨b, rfl, hn⟩
      · cases hl
      clear hl e5
      obtain ⟨nm, cpu, mem, a1, c1, xs, a2, c2, ys, cl, u, m, k⟩ := r
      simp only [Rec.val] at hlk hk
      have cA := fun o => cell_alloc c0 o
      go_enter Try.func15, Try.ntmps15
      go_wp2_with (first
        | (at_delete; refine wpList_delete_own _ rfl _ _ 65 9 rfl 71 kS Try.underlying65 raw b _ _ rfl (hn.kept (Below.heap_alloc _ _ b hn.lt)) _ _ rfl (keyS hs) ?_; intro w1 hown1 hturn1; go_frame)
        | go_in)
      go_ret
      have hg1 := hturn1.grown
      have hb0 : ∀ o, Below w.heap.size w (w.alloc o) := up (Below.refl _ _)
      have h' := h.later (hb0 (.cells #[.string nm, .int .i64 cpu, .int .i64 mem, .slice a1 xs.length c1, .slice a2 ys.length c2, .bool cl, .int .i64 u, .int .i64 m, .int .i64 k] 71))
      exact ⟨rfl, h'.delN (NOwn.del hown1) hg1, (Kept.of_below (hb0 _)).trans (.of_grown hg1 (h.fp1 b rfl))⟩

end Go.Proofs.Ytcmgpbdciifdmaa
