/- The contracts of the functions of package mark that read one text, and of the statements' own rest of a division. -/
import Derived.Test.YtpgchnppinbpkaaDoorM
import Derived.WalkLawsBesides
import Derived.BigQuiet
import Derived.Deep.RegionWith
import Derived.Deep.LoopGhost
import Derived.Lib.OthersKept
namespace Go.Proofs.YtpgchnppinbpkaaDoor
open Go.RowKit
set_option linter.unusedSimpArgs false

theorem iterPos_of {w : World} {k : Nat} {s : ByteArray} {p : Nat} (h : w.heap[k]? = some (.stringIter s p)) : w.iterPos k = p := by simp [World.iterPos, h]

theorem digit_any (r : Int) (b : Bool) (h : digR r = b) (w : World) :
    Calls Tryd.prog 94 #[.int .i32 r] w fun e w' => e = .returned (.bool b) ∧ w' = w := by
  subst h
  unfold digR
  by_cases h1 : 48 ≤ r <;> by_cases h2 : r ≤ 57 <;> simp only [h1, h2, decide_true, decide_false, Bool.and_true, Bool.and_false, Bool.and_self]
  all_goals
    go_enter Tryd.func94, Tryd.ntmps94
    go_wp2
    go_ret
    exact ⟨rfl, rfl⟩

theorem ofName_any (r : Int) (b : Bool) (h : ofR r = b) (w : World) :
    Calls Tryd.prog 93 #[.int .i32 r] w fun e w' => e = .returned (.bool b) ∧ w' = w := by
  subst h
  unfold ofR
  obtain ⟨d, hd⟩ : ∃ d, digR r = d := ⟨_, rfl⟩
  rw [hd]
  by_cases h1 : 97 ≤ r <;> by_cases h2 : r ≤ 122 <;> cases d <;> by_cases h3 : 945 ≤ r <;> by_cases h4 : r ≤ 969 <;> simp only [h1, h2, h3, h4, decide_true, decide_false, Bool.and_true, Bool.and_false, Bool.and_self, Bool.or_true, Bool.or_false, Bool.or_self]
  all_goals
    go_enter Tryd.func93, Tryd.ntmps93
    (go_wp2_with (go_at_call 94; refine (digit_any _ _ (by assumption) _).mono ?_; rintro e w1 ⟨rfl, rfl⟩)) <;>
    (go_ret
     exact ⟨by first | rfl | simp [*], rfl⟩)

set_option maxHeartbeats 1000000 in
theorem name_any (s : ByteArray) (w : World) :
    Calls Tryd.prog 74 #[.string s] w fun e w' => e = .returned (.bool (isName s)) ∧ Below w.heap.size w w' := by
  go_enter Tryd.func74, Tryd.ntmps74
  go_wp2
  go_loopw [3] (fun v wr => ∃ (pos fuel k : Nat), v = .int .i64 k ∧ wr.heap[w.heap.size]? = some (.stringIter s pos) ∧ Below w.heap.size w wr ∧ Hid (nm s fuel pos k = isName s) ∧ s.size ≤ pos + fuel ∧ k ≤ 8) (fun _ wr => s.size - wr.iterPos w.heap.size)
  case atStart => exact ⟨0, s.size, 0, rfl, World.iter_heap w s 0, (Below.refl _ _).alloc (Nat.le_refl _) _, rfl, by omega, by omega⟩
  case round =>
    obtain ⟨pos, fuel, k, rfl, hit, hbw, HS, hb, hlen⟩ := hrel
    have hpos0 := iterPos_of hit
    by_cases hp : pos < s.size
    · have hnx : ∀ ty, (Instr.next (.pointer (some ⟨w.heap.size, 0, none⟩)) true ty).run Tryd.prog wr = _ := fun ty => Lib.run_next_any_at wr w.heap.size s pos ty hit hp
      have hwd := width_pos s pos hp
      obtain ⟨fuel, rfl⟩ : ∃ f', fuel = f' + 1 := ⟨fuel - 1, by omega⟩
      have hit2 := Lib.iterAt_heap wr w.heap.size s pos (pos + (Utf8.decode s pos).2) hit
      have hbw2 := Lib.below_iterAt hbw (k := w.heap.size) (Nat.le_refl _) s (pos + (Utf8.decode s pos).2)
      have hstep : Hid (isName s = if decide (8 < k + 1) || !goodR pos (Utf8.decode s pos).1 then false else nm s fuel (pos + (Utf8.decode s pos).2) (k + 1)) := by
        show _ = _
        rw [← HS.out]; simp [nm, hp]
      obtain ⟨W1, hW1⟩ : ∃ W1, W1 = wr.iterAt w.heap.size s (pos + (Utf8.decode s pos).2) := ⟨_, rfl⟩
      rw [← hW1] at hnx hit2 hbw2
      clear hW1 hit hbw HS
      obtain ⟨d, hd⟩ : ∃ d, digR (Utf8.decode s pos).1 = d := ⟨_, rfl⟩
      obtain ⟨o, ho⟩ : ∃ o, ofR (Utf8.decode s pos).1 = o := ⟨_, rfl⟩
      have hg : goodR pos (Utf8.decode s pos).1 = (o && !(decide (pos = 0) && d)) := by unfold goodR; rw [hd, ho]
      rw [hg] at hstep
      clear hg
      by_cases h8 : (8 : Int) < (k : Int) + 1 <;> cases o <;> by_cases h0 : pos = 0 <;> cases d
      all_goals
        have h9 : 8 < k + 1 ↔ (8 : Int) < (k : Int) + 1 := by omega
        simp only [h9, h8, decide_true, decide_false, h0] at hstep
        clear h9
        try subst h0
        go_wp2_with (first
          | (go_at_call 93; refine (ofName_any _ _ (by assumption) _).mono ?_; rintro e w1 ⟨rfl, rfl⟩)
          | (go_at_call 94; refine (digit_any _ _ (by assumption) _).mono ?_; rintro e w1 ⟨rfl, rfl⟩))
        first
        | (go_roundw
           case rel => exact ⟨_, fuel, k + 1, by go_num, hit2, hbw2, (by show _ = _; rw [hstep.out]; simp), by omega, by omega⟩
           case measure => rw [iterPos_of hit2, hpos0]; omega)
        | (go_ret
           exact ⟨by rw [hstep.out]; rfl, hbw2⟩)
        | (go_roundw
           case rel => exact ⟨_, fuel, k + 1, by go_num, hit2, hbw2, (by show _ = _; rw [hstep.out]; simp), by omega, by omega⟩
           case measure => rw [iterPos_of hit2, hpos0]; omega)
    · have hnx : ∀ ty, (Instr.next (.pointer (some ⟨w.heap.size, 0, none⟩)) true ty).run Tryd.prog wr = _ := fun ty => Lib.run_next_end_at wr w.heap.size s pos ty hit hp
      have e : isName s = decide (0 < k) := by rw [← HS.out]; cases fuel <;> simp [nm, hp]
      by_cases hk : 0 < k <;> simp only [hk, decide_true, decide_false] at e
      all_goals
        go_wp2
        go_ret
        exact ⟨by rw [e]; rfl, hbw⟩

/-- 'within': the rest by n, from 0 on. -/
theorem within_any (x n k : Int) (hn : 0 < n) (hm : n ≤ 9223372036854775807) (hk : x % n = k) (w : World) :
    Calls Tryd.prog 11 #[.int .i64 x, .int .i64 n] w fun e w' => e = .returned (.int .i64 k) ∧ w' = w := by
  have hn0 : ¬ n = 0 := by omega
  by_cases h : x.tmod n < 0
  · have hb : -n < x.tmod n := Int.lt_tmod_of_pos x hn
    have hw : wrap64 (x.tmod n + n) = k := by
      have e1 : x % n = x.tmod n + n := by
        have h1 := Int.emod_add_mul_ediv x n
        have h2 := Int.tmod_add_mul_tdiv x n
        have h3 : 0 ≤ x % n := Int.emod_nonneg x (by omega)
        have h4 : x % n < n := Int.emod_lt_of_pos x hn
        have h5 : (x.tmod n + n) % n = x % n := by
          rw [show x % n = (x.tmod n + n * x.tdiv n) % n by rw [h2], Int.add_emod_right, Int.add_mul_emod_self_left]
        rw [← h5]
        exact Int.emod_eq_of_lt (by omega) (by omega)
      unfold wrap64
      omega
    clear hk hm hn
    go_enter Tryd.func11, Tryd.ntmps11
    go_wp2
    go_ret
    exact ⟨by rw [← hw]; rfl, rfl⟩
  · have e1 : x.tmod n = k := by
      have h2 := Int.tmod_add_mul_tdiv x n
      have h4 : x.tmod n < n := Int.tmod_lt_of_pos x hn
      have h5 : (x.tmod n) % n = x % n := by
        rw [show x % n = (x.tmod n + n * x.tdiv n) % n by rw [h2], Int.add_mul_emod_self_left]
      rw [← hk, ← h5]
      exact (Int.emod_eq_of_lt (by omega) h4).symm
    have h' : 0 ≤ x.tmod n := by omega
    clear hk hm hn h
    rw [e1] at h'
    go_enter Tryd.func11, Tryd.ntmps11
    go_wp2
    go_ret
    exact ⟨rfl, rfl⟩

theorem name_on (s : ByteArray) (b : Bool) (w0 w : World) (hb : Below w0.heap.size w0 w) (h : isName s = b) :
    Calls Tryd.prog 74 #[.string s] w fun e w' => e = .returned (.bool b) ∧ Below w0.heap.size w0 w' := by
  subst h
  exact (name_any s w).mono fun e w' h => ⟨h.1, hb.trans (h.2.mono hb.size)⟩

end Go.Proofs.YtpgchnppinbpkaaDoor
