/- The contract of the chapter's own Name. -/
import Derived.Test.YtgcicillmljglaaC
namespace Go.Proofs.Ytgcicillmljglaa
open Go.RowKit
set_option linter.unusedSimpArgs false

set_option maxRecDepth 100000 in
set_option maxHeartbeats 2000000 in
theorem rName_any (s : ByteArray) (w : World) (hs : s.size ≤ maxLen) :
    Calls Try.prog 36 #[.string s] w fun e w' => e = .returned (.bool (isName s)) ∧ Below w.heap.size w w' := by
  unfold maxLen at hs
  have hq : isName s = rn s s.size 0 0 := nm_eq _ _ _ _ (by omega)
  rw [hq]
  clear hq
  obtain ⟨A, hA⟩ : ∃ A, rn s s.size 0 0 = A := ⟨_, rfl⟩
  rw [hA]
  go_enter Try.func36, Try.ntmps36
  go_wp2
  go_loopw [3] (fun v wr => ∃ (pos fuel k : Nat), v = .int .i64 k ∧ wr.heap[w.heap.size]? = some (.stringIter s pos) ∧ Below w.heap.size w wr ∧ Hid (rn s fuel pos k = A) ∧ s.size ≤ pos + fuel ∧ k ≤ pos) (fun _ wr => s.size - wr.iterPos w.heap.size)
  case atStart => exact ⟨0, s.size, 0, rfl, World.iter_heap w s 0, (Below.refl _ _).alloc (Nat.le_refl _) _, hA, by omega, by omega⟩
  case round =>
    clear hA
    obtain ⟨pos, fuel, k, rfl, hit, hbw, HS, hb, hlen⟩ := hrel
    have hpos0 := iterPos_of hit
    by_cases hp : pos < s.size
    · have hnx : ∀ ty, (Instr.next (.pointer (some ⟨w.heap.size, 0, none⟩)) true ty).run Try.prog wr = _ := fun ty => Lib.run_next_any_at wr w.heap.size s pos ty hit hp
      have hwd := width_pos s pos hp
      obtain ⟨fuel, rfl⟩ : ∃ f', fuel = f' + 1 := ⟨fuel - 1, by omega⟩
      have hit2 := Lib.iterAt_heap wr w.heap.size s pos (pos + (Utf8.decode s pos).2) hit
      have hbw2 := Lib.below_iterAt hbw (k := w.heap.size) (Nat.le_refl _) s (pos + (Utf8.decode s pos).2)
      have hstep : Hid (A = if goodR pos (Utf8.decode s pos).1 then rn s fuel (pos + (Utf8.decode s pos).2) (k + 1) else false) := by
        show _ = _
        rw [← HS.out]; simp [rn, hp]
      obtain ⟨W1, hW1⟩ : ∃ W1, W1 = wr.iterAt w.heap.size s (pos + (Utf8.decode s pos).2) := ⟨_, rfl⟩
      rw [← hW1] at hnx hit2 hbw2
      obtain ⟨p2, hp2⟩ : ∃ p2, p2 = pos + (Utf8.decode s pos).2 := ⟨_, rfl⟩
      rw [← hp2] at hit2 hstep
      have hp3 : pos + 1 ≤ p2 := by omega
      clear hW1 hit hbw HS hp2 hwd
      obtain ⟨r, hr⟩ : ∃ r : Nat, r = (Utf8.decode s pos).1 := ⟨_, rfl⟩
      rw [← hr] at hnx hstep
      clear hr
      rw [hpos0]
      clear hpos0
      unfold goodR ofR digR at hstep
      by_cases h0 : pos = 0
      all_goals
        simp only [h0, decide_true, decide_false] at hstep
        try subst h0
        by_cases a1 : (48 : Int) ≤ r <;> by_cases a2 : (r : Int) ≤ 57 <;> simp only [a1, a2, decide_true, decide_false, Bool.and_true, Bool.and_false, Bool.true_and, Bool.false_and, Bool.or_true, Bool.or_false, Bool.not_true, Bool.not_false, if_true, if_false, Bool.false_eq_true] at hstep
        all_goals
          by_cases b1 : (r : Int) < 97 <;> by_cases b2 : (122 : Int) < r <;> by_cases b3 : (r : Int) < 945 <;> by_cases b4 : (969 : Int) < r
          all_goals first | (exfalso; clear hstep hnx; omega) | skip
        all_goals
          try have b6 : ((r : Int) == 65533) = false := by simp; omega
          try have h6 : ((pos : Int) == 0) = false := by simp; omega
          go_wp2
          first
          | (go_roundw
             case rel => exact ⟨_, fuel, k + 1, by go_num, hit2, hbw2, (by show _ = _; rw [hstep.out]; first | rfl | (rw [if_pos]; simp; omega)), by omega, by omega⟩
             case measure => rw [iterPos_of hit2]; omega)
          | (go_ret
             exact ⟨by rw [hstep.out]; first | rfl | (rw [if_neg]; rfl; simp; omega), hbw2⟩)
    · have hnx : ∀ ty, (Instr.next (.pointer (some ⟨w.heap.size, 0, none⟩)) true ty).run Try.prog wr = _ := fun ty => Lib.run_next_end_at wr w.heap.size s pos ty hit hp
      have e : A = (decide ((1 : Int) ≤ k) && decide ((k : Int) ≤ 8)) := by
        have e1 : (1 : Int) ≤ k ↔ 1 ≤ k := by omega
        have e2 : (k : Int) ≤ 8 ↔ k ≤ 8 := by omega
        simp only [e1, e2]
        rw [← HS.out]; cases fuel <;> simp [rn, hp]
      by_cases hk : (1 : Int) ≤ k <;> by_cases hl : (k : Int) ≤ 8 <;> simp only [hk, hl, decide_true, decide_false, Bool.and_true, Bool.and_false, Bool.and_self] at e
      all_goals
        subst e
        (go_wp2) <;>
        (go_ret
         exact ⟨by first | rfl | simp [*], hbw⟩)

theorem rName_on (s : ByteArray) (b : Bool) (w0 w : World) (hb : Below w0.heap.size w0 w) (hs : s.size ≤ maxLen) (h : isName s = b) :
    Calls Try.prog 36 #[.string s] w fun e w' => e = .returned (.bool b) ∧ Below w0.heap.size w0 w' := by
  subst h
  exact (rName_any s w hs).mono fun e w' h => ⟨h.1, hb.trans (h.2.mono hb.size)⟩

end Go.Proofs.Ytgcicillmljglaa
