/- The contract of number of package line's reader. -/
import Derived.Test.YtmldpihjndafaaaDoorTB
namespace Go.Proofs.YtmldpihjndafaaaDoor
open Go.RowKit
set_option linter.unusedSimpArgs false
set_option linter.unusedVariables false

/-- The number that these digits say, none where one is no digit. -/
def numR (s : ByteArray) : Nat → Nat → Nat → Option Nat
  | 0, _, n => some n
  | f + 1, pos, n => if pos < s.size then (if 48 ≤ (Utf8.decode s pos).1 ∧ (Utf8.decode s pos).1 ≤ 57 then numR s f (pos + (Utf8.decode s pos).2) (10 * n + ((Utf8.decode s pos).1 - 48)) else none) else some n

/-- A word that is too long for a number, or begins with a 0 that is not alone. -/
def longN (u : ByteArray) : Bool := decide (15 < u.size) || (if h : 1 < u.size then decide ((u[0]'(by omega)).toNat = 48) else false)

/-- What number tells, the sign ahead and the rest behind it. -/
def numF (nx g : Int) (s : ByteArray) : Nat × Int × ByteArray :=
  if longN (wordF nx g s).1 then (0, -3, (wordF nx g s).2.2) else
    match numR (wordF nx g s).1 (wordF nx g s).1.size 0 0 with
    | some n => (n, (wordF nx g s).2)
    | none => (0, -3, (wordF nx g s).2.2)

set_option maxRecDepth 100000 in
set_option maxHeartbeats 4000000 in
theorem number_any (L : Nat) (nx g : Int) (s : ByteArray) (T : Nat × Int × ByteArray) (w : World) (hs : s.size ≤ 1000000) (hT : numF nx g s = T) (hL : RBox w L nx s) :
    Calls Tryd.prog 66 #[.pointer (some ⟨L, 0, none⟩), .int .i32 g] w fun e w' => e = .returned (.int .i64 T.1) ∧ RBox w' L T.2.1 T.2.2 ∧ w.grownBy w' (some L) := by
  unfold numF at hT
  obtain ⟨U, hU⟩ : ∃ U, wordF nx g s = U := ⟨_, rfl⟩
  rw [hU] at hT
  obtain ⟨u, n2, s2⟩ := U
  simp only at hT
  by_cases h15 : (15 : Int) < (u.size : Int)
  · have hl : longN u = true := by unfold longN; simp; left; omega
    rw [if_pos hl] at hT
    subst hT
    go_enter Tryd.func66, Tryd.ntmps66
    go_wp2_with (first
        | (go_at_call 44; refine (word_any L nx g s _ _ hs hU hL).mono ?_; rintro e w1 ⟨rfl, hL1, hg1⟩; obtain ⟨c0, c1⟩ := hL1.cells2; have f0 := hL1.frozen 0))
    go_ret
    exact ⟨rfl, hL1.set 0 _, grown_trans hg1 (grown_set _ _ _ _)⟩
  · have d15 : decide ((15 : Int) < (u.size : Int)) = false := by simpa using h15
    have k15 : u.size ≤ 15 := by omega
    by_cases hl : longN u = true
    · rw [if_pos hl] at hT
      subst hT
      have h1 : 1 < u.size := by
        unfold longN at hl
        by_cases h : 1 < u.size
        · exact h
        · simp [h] at hl; omega
      have hb : ((u[0].toNat : Int) == 48) = true := by
        unfold longN at hl
        simp [h1] at hl
        rcases hl with h | h
        · omega
        · simp; omega
      have g1 : (1 : Int) < (u.size : Int) := by omega
      clear hl
      go_enter Tryd.func66, Tryd.ntmps66
      go_wp2_with (first
        | (go_at_call 44; refine (word_any L nx g s _ _ hs hU hL).mono ?_; rintro e w1 ⟨rfl, hL1, hg1⟩; obtain ⟨c0, c1⟩ := hL1.cells2; have f0 := hL1.frozen 0))
      go_ret
      exact ⟨rfl, hL1.set 0 _, grown_trans hg1 (grown_set _ _ _ _)⟩
    · rw [if_neg hl] at hT
      obtain ⟨A, hA⟩ : ∃ A, numR u u.size 0 0 = A := ⟨_, rfl⟩
      rw [hA] at hT
      have hcase : (∃ h : 1 < u.size, ((u[0].toNat : Int) == 48) = false ∧ (1 : Int) < (u.size : Int)) ∨ (¬ (1 : Int) < (u.size : Int) ∧ decide ((1 : Int) < (u.size : Int)) = false) := by
        by_cases h : 1 < u.size
        · left
          refine ⟨h, ?_, by omega⟩
          unfold longN at hl
          simp [h] at hl
          have := hl.2
          simp; omega
        · right
          have : ¬ (1 : Int) < (u.size : Int) := by omega
          exact ⟨this, by simpa using this⟩
      clear hl
      rcases hcase with ⟨h1, hb, g1⟩ | ⟨g1, d1⟩
      all_goals
        go_enter Tryd.func66, Tryd.ntmps66
        go_wp2_with (first
        | (go_at_call 44; refine (word_any L nx g s _ _ hs hU hL).mono ?_; rintro e w1 ⟨rfl, hL1, hg1⟩; obtain ⟨c0, c1⟩ := hL1.cells2; have f0 := hL1.frozen 0))
        go_loopw [6] (fun v wr => ∃ (pos fuel n : Nat), v = .int .i64 n ∧ wr.heap[w1.heap.size]? = some (.stringIter u pos) ∧ Below w1.heap.size w1 wr ∧ Hid (numR u fuel pos n = A) ∧ u.size ≤ pos + fuel ∧ n < 10 ^ pos) (fun _ wr => u.size - wr.iterPos w1.heap.size)
        case atStart => exact ⟨0, u.size, 0, rfl, World.iter_heap w1 u 0, (Below.refl _ _).alloc (Nat.le_refl _) _, hA, by omega, by decide⟩
        case round =>
          obtain ⟨pos, fuel, n, rfl, hit, hbw, HS, hbf, hn⟩ := hrel
          have hpos0 := iterPos_of hit
          by_cases hp : pos < u.size
          · have hnx : ∀ ty, (Instr.next (.pointer (some ⟨w1.heap.size, 0, none⟩)) true ty).run Tryd.prog wr = _ := fun ty => Lib.run_next_any_at wr w1.heap.size u pos ty hit hp
            have hwd := width_pos u pos hp
            obtain ⟨fuel, rfl⟩ : ∃ f', fuel = f' + 1 := ⟨fuel - 1, by omega⟩
            have hit2 := Lib.iterAt_heap wr w1.heap.size u pos (pos + (Utf8.decode u pos).2) hit
            have hbw2 := Lib.below_iterAt hbw (k := w1.heap.size) (Nat.le_refl _) u (pos + (Utf8.decode u pos).2)
            have hstep : Hid (A = if 48 ≤ (Utf8.decode u pos).1 ∧ (Utf8.decode u pos).1 ≤ 57 then numR u fuel (pos + (Utf8.decode u pos).2) (10 * n + ((Utf8.decode u pos).1 - 48)) else none) := by
              show _ = _
              rw [← HS.out]; simp [numR, hp]
            obtain ⟨W1, hW1⟩ : ∃ W1, W1 = wr.iterAt w1.heap.size u (pos + (Utf8.decode u pos).2) := ⟨_, rfl⟩
            rw [← hW1] at hnx hit2 hbw2
            clear hW1 hit HS
            have hn14 : n < 10 ^ 14 := Nat.lt_of_lt_of_le hn (Nat.pow_le_pow_right (by decide) (by omega))
            have hn2 : ∀ d, d ≤ 9 → 10 * n + d < 10 ^ (pos + (Utf8.decode u pos).2) := fun d hd => by
              have h10 : 10 ^ (pos + 1) ≤ 10 ^ (pos + (Utf8.decode u pos).2) := Nat.pow_le_pow_right (by decide) (by omega)
              rw [Nat.pow_succ] at h10
              omega
            have hL2 := hL1.later hbw2
            obtain ⟨d0, d1'⟩ := hL2.cells2
            have f0' := hL2.frozen 0
            by_cases hlo : (((Utf8.decode u pos).1 : Nat) : Int) < 48
            · have hAe : A = none := by rw [hstep.out, if_neg (by omega)]
              subst hAe
              subst hT
              go_wp2
              go_ret
              exact ⟨rfl, hL2.set 0 _, grown_trans hg1 (grown_trans (below_grown hbw2 _) (grown_set _ _ _ _))⟩
            · by_cases hhi : (57 : Int) < (((Utf8.decode u pos).1 : Nat) : Int)
              · have hAe : A = none := by rw [hstep.out, if_neg (by omega)]
                subst hAe
                subst hT
                have dlo : decide ((((Utf8.decode u pos).1 : Nat) : Int) < 48) = false := by simpa using hlo
                go_wp2
                go_ret
                exact ⟨rfl, hL2.set 0 _, grown_trans hg1 (grown_trans (below_grown hbw2 _) (grown_set _ _ _ _))⟩
              · have hAe : Hid (A = numR u fuel (pos + (Utf8.decode u pos).2) (10 * n + ((Utf8.decode u pos).1 - 48))) := by
                  show _ = _
                  rw [hstep.out, if_pos (by omega)]
                clear hstep
                have dlo : decide ((((Utf8.decode u pos).1 : Nat) : Int) < 48) = false := by simpa using hlo
                have dhi : decide ((57 : Int) < (((Utf8.decode u pos).1 : Nat) : Int)) = false := by simpa using hhi
                have hq := hn2 ((Utf8.decode u pos).1 - 48) (by omega)
                clear hn2
                go_wp2
                go_roundw
                case rel => exact ⟨_, fuel, _, (by go_num), hit2, hbw2, (by show _ = _; exact hAe.out.symm), by omega, hq⟩
                case measure => rw [iterPos_of hit2, hpos0]; omega
          · have hnx : ∀ ty, (Instr.next (.pointer (some ⟨w1.heap.size, 0, none⟩)) true ty).run Tryd.prog wr = _ := fun ty => Lib.run_next_end_at wr w1.heap.size u pos ty hit hp
            have hAe : A = some n := by rw [← HS.out]; cases fuel <;> simp [numR, hp]
            subst hAe
            subst hT
            go_wp2
            go_ret
            exact ⟨rfl, hL1.later hbw, grown_trans hg1 (below_grown hbw _)⟩

end Go.Proofs.YtmldpihjndafaaaDoor
