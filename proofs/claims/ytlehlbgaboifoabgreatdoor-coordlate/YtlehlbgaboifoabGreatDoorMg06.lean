/- The contract of take of package line's reader. -/
import Derived.Test.YtlehlbgaboifoabGreatDoorMg05
import Derived.Deep.DeepCutAuto
import Derived.RegionTactic
import Derived.BigRegion
import Derived.Laws.Pointers
import Derived.Laws.Strings
import Derived.StillTactics
namespace Go.Proofs.YtlehlbgaboifoabGreatDoor
open Go.RowKit
set_option linter.unusedSimpArgs false
set_option linter.unusedVariables false

theorem grown_drew {w w' : World} {q : Option Nat} (h : w.grownBy w' q) : w.grownBy w'.drew q := ⟨h.os, h.tape, h.output, h.size, h.block⟩

/-- The block of a reader: the sign ahead, the rest. -/
abbrev RBox (w : World) (L : Nat) (nx : Int) (s : ByteArray) : Prop := Box w L #[.int .i32 nx, .string s] 200

set_option maxRecDepth 100000 in
set_option maxHeartbeats 4000000 in
theorem take_go (L : Nat) (nx : Int) (s : ByteArray) (A : Option (Nat × Int)) (w : World) (hs : s.size ≤ 1000000) (hA : tkR s s.size 0 = A) (hL : RBox w L nx s) :
    Calls Tryz.prog 201 #[.pointer (some ⟨L, 0, none⟩), .int .i32 nx] w fun e w' =>
      (∀ p r, A = some (p, r) → e = .returned (.string (s.extract 0 p)) ∧ RBox w' L r (s.extract (p + 1) s.size) ∧ w.grownBy w' (some L)) ∧ (A = none → e = .returned (.string s) ∧ RBox w' L (-2) ⟨#[]⟩ ∧ w.grownBy w' (some L)) := by
  obtain ⟨c0, c1⟩ := hL.cells2
  have hlt := hL.lt
  go_enter Tryz.func201, Tryz.ntmps201
  go_wp2
  go_loopw [5] (fun _ wr => ∃ (pos fuel : Nat), wr.heap[w.heap.size]? = some (.stringIter s pos) ∧ Below w.heap.size w wr ∧ Hid (tkR s fuel pos = A) ∧ s.size ≤ pos + fuel) (fun _ wr => s.size - wr.iterPos w.heap.size)
  case atStart => exact ⟨0, s.size, World.iter_heap w s 0, (Below.refl _ _).alloc (Nat.le_refl _) _, hA, by omega⟩
  case round =>
    obtain ⟨pos, fuel, hit, hbw, HS, hb⟩ := hrel
    have hpos0 := iterPos_of hit
    have hL1 := hL.later hbw
    by_cases hp : pos < s.size
    · have hnx : ∀ ty, (Instr.next (.pointer (some ⟨w.heap.size, 0, none⟩)) true ty).run Tryz.prog wr = _ := fun ty => Lib.run_next_any_at wr w.heap.size s pos ty hit hp
      have hwd := width_pos s pos hp
      obtain ⟨fuel, rfl⟩ : ∃ f', fuel = f' + 1 := ⟨fuel - 1, by omega⟩
      have hit2 := Lib.iterAt_heap wr w.heap.size s pos (pos + (Utf8.decode s pos).2) hit
      have hbw2 := Lib.below_iterAt hbw (k := w.heap.size) (Nat.le_refl _) s (pos + (Utf8.decode s pos).2)
      have hstep : Hid (A = if sgn (Utf8.decode s pos).1 then some (pos, ((Utf8.decode s pos).1 : Int)) else tkR s fuel (pos + (Utf8.decode s pos).2)) := by
        show _ = _
        rw [← HS.out]; simp [tkR, hp]
      obtain ⟨W1, hW1⟩ : ∃ W1, W1 = wr.iterAt w.heap.size s (pos + (Utf8.decode s pos).2) := ⟨_, rfl⟩
      rw [← hW1] at hnx hit2 hbw2
      clear hW1 hit HS
      obtain ⟨b, hb9⟩ : ∃ b, sgn (Utf8.decode s pos).1 = b := ⟨_, rfl⟩
      rw [hb9] at hstep
      have hL2 := hL.later hbw2
      obtain ⟨d0, d1⟩ := hL2.cells2
      have f0 := hL2.frozen 0
      have f1 := hL2.frozen 1
      cases b
      · go_wp2_with (first
          | (go_at_call 223; refine (parting_any _ _ hb9 _).mono ?_; rintro e w3 ⟨rfl, rfl⟩))
        go_roundw
        case rel => exact ⟨_, fuel, hit2, hbw2, (by show _ = _; rw [hstep.out]; simp), by omega⟩
        case measure => rw [iterPos_of hit2, hpos0]; omega
      · have hAe : A = some (pos, ((Utf8.decode s pos).1 : Int)) := by rw [hstep.out]; rfl
        go_upto_region 8 with (first
          | (go_at_call 223; refine (parting_any _ _ hb9 _).mono ?_; rintro e w3 ⟨rfl, rfl⟩))
        go_region
        all_goals
          go_wp2
          go_ret
          refine ⟨fun p r h => ?_, fun h => absurd (hAe.symm.trans h) (by simp)⟩
          obtain ⟨rfl, rfl⟩ : pos = p ∧ ((Utf8.decode s pos).1 : Int) = r := by rw [hAe] at h; simpa using h
          exact ⟨rfl, (hL2.set 0 _).set 1 _, grown_trans (below_grown hbw2 _) (grown_drew (grown_trans (grown_set _ _ _ _) (grown_set _ _ _ _)))⟩
    · have hnx : ∀ ty, (Instr.next (.pointer (some ⟨w.heap.size, 0, none⟩)) true ty).run Tryz.prog wr = _ := fun ty => Lib.run_next_end_at wr w.heap.size s pos ty hit hp
      have hAe : A = none := by rw [← HS.out]; cases fuel <;> simp [tkR, hp]
      obtain ⟨d0, d1⟩ := hL1.cells2
      have f0 := hL1.frozen 0
      have f1 := hL1.frozen 1
      go_wp2
      go_ret
      refine ⟨fun p r h => absurd (hAe.symm.trans h) (by simp), fun _ => ?_⟩
      exact ⟨rfl, (hL1.set 0 _).set 1 _, grown_trans (below_grown hbw _) (grown_trans (grown_set _ _ _ _) (grown_set _ _ _ _))⟩

/-- Another sign is ahead: nothing is read. -/
theorem take_no (L : Nat) (nx g : Int) (s : ByteArray) (w : World) (hne : nx ≠ g) (hL : RBox w L nx s) :
    Calls Tryz.prog 201 #[.pointer (some ⟨L, 0, none⟩), .int .i32 g] w fun e w' => e = .returned (.string ⟨#[]⟩) ∧ w' = w := by
  obtain ⟨c0, c1⟩ := hL.cells2
  go_enter Tryz.func201, Tryz.ntmps201
  go_wp2
  go_ret
  exact ⟨rfl, rfl⟩

end Go.Proofs.YtlehlbgaboifoabGreatDoor

/- The contracts of word, flag of package line's reader, by functions of the text. -/
namespace Go.Proofs.YtlehlbgaboifoabGreatDoor
open Go.RowKit
set_option linter.unusedSimpArgs false
set_option linter.unusedVariables false

theorem full_of {u : ByteArray} (h : u ≠ ⟨#[]⟩) : u.toList.isEmpty = false := by
  rw [ByteArray.toList_eq]
  cases hl : u.data.toList with
  | nil => exact absurd (by cases u with | mk d => simp at hl; simp [hl]) h
  | cons _ _ => rfl

/-- What take tells, the sign ahead and the rest behind it. -/
def takeF (nx g : Int) (s : ByteArray) : ByteArray × Int × ByteArray :=
  if nx = g then (match tkR s s.size 0 with | some (p, r) => (s.extract 0 p, r, s.extract (p + 1) s.size) | none => (s, -2, ⟨#[]⟩)) else (⟨#[]⟩, nx, s)

theorem takeF_size (nx g : Int) (s : ByteArray) : (takeF nx g s).2.2.size ≤ s.size := by
  unfold takeF
  split
  · split
    · simp only [ByteArray.size_extract]; omega
    · exact Nat.zero_le _
  · exact Nat.le_refl _

theorem takeF_word (nx g : Int) (s : ByteArray) : (takeF nx g s).1.size ≤ s.size := by
  unfold takeF
  split
  · split
    · simp only [ByteArray.size_extract]; omega
    · exact Nat.le_refl _
  · exact Nat.zero_le _

theorem tkR_lt (s : ByteArray) : ∀ (f pos p : Nat) (r : Int), tkR s f pos = some (p, r) → p < s.size
  | 0, pos, p, r, h => by simp [tkR] at h
  | f + 1, pos, p, r, h => by
    unfold tkR at h
    split at h
    · split at h
      · simp only [Option.some.injEq, Prod.mk.injEq] at h; omega
      · exact tkR_lt s f _ p r h
    · cases h

/-- Behind a word either the rest is shorter, or nothing is ahead. -/
theorem takeF_less (g : Int) (s : ByteArray) : (takeF g g s).2.2.size < s.size ∨ ((takeF g g s).2.1 = -2 ∧ (takeF g g s).2.2 = ⟨#[]⟩) := by
  unfold takeF
  rw [if_pos rfl]
  cases h : tkR s s.size 0 with
  | none => exact .inr ⟨rfl, rfl⟩
  | some q =>
    obtain ⟨p, r⟩ := q
    have := tkR_lt s _ _ p r h
    left
    simp only [ByteArray.size_extract]
    omega

theorem rtake_any (L : Nat) (nx g : Int) (s : ByteArray) (T : ByteArray × Int × ByteArray) (w : World) (hs : s.size ≤ 1000000) (hT : takeF nx g s = T) (hL : RBox w L nx s) :
    Calls Tryz.prog 201 #[.pointer (some ⟨L, 0, none⟩), .int .i32 g] w fun e w' => e = .returned (.string T.1) ∧ RBox w' L T.2.1 T.2.2 ∧ w.grownBy w' (some L) := by
  subst hT
  unfold takeF
  by_cases h : nx = g
  · subst h
    rw [if_pos rfl]
    refine (take_go L nx s _ w hs rfl hL).mono ?_
    rintro e w' ⟨h1, h2⟩
    cases hA : tkR s s.size 0 with
    | none => exact h2 hA
    | some q => exact h1 q.1 q.2 hA
  · rw [if_neg h]
    refine (take_no L nx g s w h hL).mono ?_
    rintro e w' ⟨rfl, rfl⟩
    exact ⟨rfl, hL, below_grown (Below.refl _ _) _⟩

/-- What word tells, the sign ahead and the rest behind it. -/
def wordF (nx g : Int) (s : ByteArray) : ByteArray × Int × ByteArray :=
  if (takeF nx g s).1 = ⟨#[]⟩ then ((takeF nx g s).1, -3, (takeF nx g s).2.2) else takeF nx g s

theorem word_any (L : Nat) (nx g : Int) (s : ByteArray) (T : ByteArray × Int × ByteArray) (w : World) (hs : s.size ≤ 1000000) (hT : wordF nx g s = T) (hL : RBox w L nx s) :
    Calls Tryz.prog 167 #[.pointer (some ⟨L, 0, none⟩), .int .i32 g] w fun e w' => e = .returned (.string T.1) ∧ RBox w' L T.2.1 T.2.2 ∧ w.grownBy w' (some L) := by
  unfold wordF at hT
  obtain ⟨U, hU⟩ : ∃ U, takeF nx g s = U := ⟨_, rfl⟩
  rw [hU] at hT
  obtain ⟨u, n2, s2⟩ := U
  simp only at hT
  by_cases hu : u = ⟨#[]⟩
  · subst hu
    rw [if_pos rfl] at hT
    subst hT
    go_enter Tryz.func167, Tryz.ntmps167
    go_wp2_with (first
      | (go_at_call 201; refine (rtake_any L nx g s _ _ hs hU hL).mono ?_; rintro e w1 ⟨rfl, hL1, hg1⟩; obtain ⟨c0, c1⟩ := hL1.cells2; have f0 := hL1.frozen 0))
    go_ret
    exact ⟨rfl, hL1.set 0 _, grown_trans hg1 (grown_set _ _ _ _)⟩
  · rw [if_neg hu] at hT
    subst hT
    have hue := full_of hu
    go_enter Tryz.func167, Tryz.ntmps167
    go_wp2_with (first
      | (go_at_call 201; refine (rtake_any L nx g s _ _ hs hU hL).mono ?_; rintro e w1 ⟨rfl, hL1, hg1⟩; obtain ⟨c0, c1⟩ := hL1.cells2; have f0 := hL1.frozen 0))
    go_ret
    exact ⟨rfl, hL1, hg1⟩

/-- What flag tells, the sign ahead and the rest behind it. -/
def flagF (nx : Int) (s : ByteArray) : Bool × Int × ByteArray :=
  if nx = 33 then (true, (if (takeF nx 33 s).1 = ⟨#[]⟩ then (takeF nx 33 s).2.1 else -3), (takeF nx 33 s).2.2) else (false, nx, s)

theorem flag_any (L : Nat) (nx : Int) (s : ByteArray) (T : Bool × Int × ByteArray) (w : World) (hs : s.size ≤ 1000000) (hT : flagF nx s = T) (hL : RBox w L nx s) :
    Calls Tryz.prog 204 #[.pointer (some ⟨L, 0, none⟩)] w fun e w' => e = .returned (.bool T.1) ∧ RBox w' L T.2.1 T.2.2 ∧ w.grownBy w' (some L) := by
  unfold flagF at hT
  obtain ⟨c0, c1⟩ := hL.cells2
  by_cases h : nx = 33
  · subst h
    rw [if_pos rfl] at hT
    obtain ⟨U, hU⟩ : ∃ U, takeF 33 33 s = U := ⟨_, rfl⟩
    rw [hU] at hT
    obtain ⟨u, n2, s2⟩ := U
    simp only at hT
    by_cases hu : u = ⟨#[]⟩
    · subst hu
      rw [if_pos rfl] at hT
      subst hT
      go_enter Tryz.func204, Tryz.ntmps204
      go_wp2_with (first
        | (go_at_call 201; refine (rtake_any L 33 33 s _ _ hs hU hL).mono ?_; rintro e w1 ⟨rfl, hL1, hg1⟩; obtain ⟨c0, c1⟩ := hL1.cells2; have f0 := hL1.frozen 0))
      go_ret
      exact ⟨rfl, hL1, hg1⟩
    · rw [if_neg hu] at hT
      subst hT
      have hue := full_of hu
      go_enter Tryz.func204, Tryz.ntmps204
      go_wp2_with (first
        | (go_at_call 201; refine (rtake_any L 33 33 s _ _ hs hU hL).mono ?_; rintro e w1 ⟨rfl, hL1, hg1⟩; obtain ⟨c0, c1⟩ := hL1.cells2; have f0 := hL1.frozen 0))
      go_ret
      exact ⟨rfl, hL1.set 0 _, grown_trans hg1 (grown_set _ _ _ _)⟩
  · rw [if_neg h] at hT
    subst hT
    go_enter Tryz.func204, Tryz.ntmps204
    go_wp2
    go_ret
    exact ⟨rfl, hL, below_grown (Below.refl _ _) _⟩

end Go.Proofs.YtlehlbgaboifoabGreatDoor

/- The contract of number of package line's reader. -/
namespace Go.Proofs.YtlehlbgaboifoabGreatDoor
open Go.RowKit
set_option linter.unusedSimpArgs false
set_option linter.unusedVariables false

/-- The number that these digits say, none where one is no digit. -/
def numR (s : ByteArray) : Nat → Nat → Nat → Option Nat
  | 0, _, n => some n
  | f + 1, pos, n => if pos < s.size then (if 48 ≤ (Utf8.decode s pos).1 ∧ (Utf8.decode s pos).1 ≤ 57 then numR s f (pos + (Utf8.decode s pos).2) (10 * n + ((Utf8.decode s pos).1 - 48)) else none) else some n

/-- A word that is too long for a number, or begins with a 0 that is not alone. -/
def longN (u : ByteArray) : Bool := decide (15 < u.size) || (if h : 1 < u.size then decide ((u[0]'(by omega)).toNat = 48) else false)

/-- What number tells, the sign ahead and the rest behind it. -/
def numF (nx g : Int) (s : ByteArray) : Nat × Int × ByteArray :=
  if longN (wordF nx g s).1 then (0, -3, (wordF nx g s).2.2) else
    match numR (wordF nx g s).1 (wordF nx g s).1.size 0 0 with
    | some n => (n, (wordF nx g s).2)
    | none => (0, -3, (wordF nx g s).2.2)

set_option maxRecDepth 100000 in
set_option maxHeartbeats 4000000 in
theorem number_any (L : Nat) (nx g : Int) (s : ByteArray) (T : Nat × Int × ByteArray) (w : World) (hs : s.size ≤ 1000000) (hT : numF nx g s = T) (hL : RBox w L nx s) :
    Calls Tryz.prog 206 #[.pointer (some ⟨L, 0, none⟩), .int .i32 g] w fun e w' => e = .returned (.int .i64 T.1) ∧ RBox w' L T.2.1 T.2.2 ∧ w.grownBy w' (some L) := by
  unfold numF at hT
  obtain ⟨U, hU⟩ : ∃ U, wordF nx g s = U := ⟨_, rfl⟩
  rw [hU] at hT
  obtain ⟨u, n2, s2⟩ := U
  simp only at hT
  by_cases h15 : (15 : Int) < (u.size : Int)
  · have hl : longN u = true := by unfold longN; simp; left; omega
    rw [if_pos hl] at hT
    subst hT
    go_enter Tryz.func206, Tryz.ntmps206
    go_wp2_with (first
        | (go_at_call 167; refine (word_any L nx g s _ _ hs hU hL).mono ?_; rintro e w1 ⟨rfl, hL1, hg1⟩; obtain ⟨c0, c1⟩ := hL1.cells2; have f0 := hL1.frozen 0))
    go_ret
    exact ⟨rfl, hL1.set 0 _, grown_trans hg1 (grown_set _ _ _ _)⟩
  · have d15 : decide ((15 : Int) < (u.size : Int)) = false := by simpa using h15
    have k15 : u.size ≤ 15 := by omega
    by_cases hl : longN u = true
    · rw [if_pos hl] at hT
      subst hT
      have h1 : 1 < u.size := by
        unfold longN at hl
        by_cases h : 1 < u.size
        · exact h
        · simp [h] at hl; omega
      have hb : ((u[0].toNat : Int) == 48) = true := by
        unfold longN at hl
        simp [h1] at hl
        rcases hl with h | h
        · omega
        · simp; omega
      have g1 : (1 : Int) < (u.size : Int) := by omega
      clear hl
      go_enter Tryz.func206, Tryz.ntmps206
      go_wp2_with (first
        | (go_at_call 167; refine (word_any L nx g s _ _ hs hU hL).mono ?_; rintro e w1 ⟨rfl, hL1, hg1⟩; obtain ⟨c0, c1⟩ := hL1.cells2; have f0 := hL1.frozen 0))
      go_ret
      exact ⟨rfl, hL1.set 0 _, grown_trans hg1 (grown_set _ _ _ _)⟩
    · rw [if_neg hl] at hT
      obtain ⟨A, hA⟩ : ∃ A, numR u u.size 0 0 = A := ⟨_, rfl⟩
      rw [hA] at hT
      have hcase : (∃ h : 1 < u.size, ((u[0].toNat : Int) == 48) = false ∧ (1 : Int) < (u.size : Int)) ∨ (¬ (1 : Int) < (u.size : Int) ∧ decide ((1 : Int) < (u.size : Int)) = false) := by
        by_cases h : 1 < u.size
        · left
          refine ⟨h, ?_, by omega⟩
          unfold longN at hl
          simp [h] at hl
          have := hl.2
          simp; omega
        · right
          have : ¬ (1 : Int) < (u.size : Int) := by omega
          exact ⟨this, by simpa using this⟩
      clear hl
      rcases hcase with ⟨h1, hb, g1⟩ | ⟨g1, d1⟩
      all_goals
        go_enter Tryz.func206, Tryz.ntmps206
        go_wp2_with (first
        | (go_at_call 167; refine (word_any L nx g s _ _ hs hU hL).mono ?_; rintro e w1 ⟨rfl, hL1, hg1⟩; obtain ⟨c0, c1⟩ := hL1.cells2; have f0 := hL1.frozen 0))
        go_loopw [6] (fun v wr => ∃ (pos fuel n : Nat), v = .int .i64 n ∧ wr.heap[w1.heap.size]? = some (.stringIter u pos) ∧ Below w1.heap.size w1 wr ∧ Hid (numR u fuel pos n = A) ∧ u.size ≤ pos + fuel ∧ n < 10 ^ pos) (fun _ wr => u.size - wr.iterPos w1.heap.size)
        case atStart => exact ⟨0, u.size, 0, rfl, World.iter_heap w1 u 0, (Below.refl _ _).alloc (Nat.le_refl _) _, hA, by omega, by decide⟩
        case round =>
          obtain ⟨pos, fuel, n, rfl, hit, hbw, HS, hbf, hn⟩ := hrel
          have hpos0 := iterPos_of hit
          by_cases hp : pos < u.size
          · have hnx : ∀ ty, (Instr.next (.pointer (some ⟨w1.heap.size, 0, none⟩)) true ty).run Tryz.prog wr = _ := fun ty => Lib.run_next_any_at wr w1.heap.size u pos ty hit hp
            have hwd := width_pos u pos hp
            obtain ⟨fuel, rfl⟩ : ∃ f', fuel = f' + 1 := ⟨fuel - 1, by omega⟩
            have hit2 := Lib.iterAt_heap wr w1.heap.size u pos (pos + (Utf8.decode u pos).2) hit
            have hbw2 := Lib.below_iterAt hbw (k := w1.heap.size) (Nat.le_refl _) u (pos + (Utf8.decode u pos).2)
            have hstep : Hid (A = if 48 ≤ (Utf8.decode u pos).1 ∧ (Utf8.decode u pos).1 ≤ 57 then numR u fuel (pos + (Utf8.decode u pos).2) (10 * n + ((Utf8.decode u pos).1 - 48)) else none) := by
              show _ = _
              rw [← HS.out]; simp [numR, hp]
            obtain ⟨W1, hW1⟩ : ∃ W1, W1 = wr.iterAt w1.heap.size u (pos + (Utf8.decode u pos).2) := ⟨_, rfl⟩
            rw [← hW1] at hnx hit2 hbw2
            clear hW1 hit HS
            have hn14 : n < 10 ^ 14 := Nat.lt_of_lt_of_le hn (Nat.pow_le_pow_right (by decide) (by omega))
            have hn2 : ∀ d, d ≤ 9 → 10 * n + d < 10 ^ (pos + (Utf8.decode u pos).2) := fun d hd => by
              have h10 : 10 ^ (pos + 1) ≤ 10 ^ (pos + (Utf8.decode u pos).2) := Nat.pow_le_pow_right (by decide) (by omega)
              rw [Nat.pow_succ] at h10
              omega
            have hL2 := hL1.later hbw2
            obtain ⟨d0, d1'⟩ := hL2.cells2
            have f0' := hL2.frozen 0
            by_cases hlo : (((Utf8.decode u pos).1 : Nat) : Int) < 48
            · have hAe : A = none := by rw [hstep.out, if_neg (by omega)]
              subst hAe
              subst hT
              go_wp2
              go_ret
              exact ⟨rfl, hL2.set 0 _, grown_trans hg1 (grown_trans (below_grown hbw2 _) (grown_set _ _ _ _))⟩
            · by_cases hhi : (57 : Int) < (((Utf8.decode u pos).1 : Nat) : Int)
              · have hAe : A = none := by rw [hstep.out, if_neg (by omega)]
                subst hAe
                subst hT
                have dlo : decide ((((Utf8.decode u pos).1 : Nat) : Int) < 48) = false := by simpa using hlo
                go_wp2
                go_ret
                exact ⟨rfl, hL2.set 0 _, grown_trans hg1 (grown_trans (below_grown hbw2 _) (grown_set _ _ _ _))⟩
              · have hAe : Hid (A = numR u fuel (pos + (Utf8.decode u pos).2) (10 * n + ((Utf8.decode u pos).1 - 48))) := by
                  show _ = _
                  rw [hstep.out, if_pos (by omega)]
                clear hstep
                have dlo : decide ((((Utf8.decode u pos).1 : Nat) : Int) < 48) = false := by simpa using hlo
                have dhi : decide ((57 : Int) < (((Utf8.decode u pos).1 : Nat) : Int)) = false := by simpa using hhi
                have hq := hn2 ((Utf8.decode u pos).1 - 48) (by omega)
                clear hn2
                go_wp2
                go_roundw
                case rel => exact ⟨_, fuel, _, (by go_num), hit2, hbw2, (by show _ = _; exact hAe.out.symm), by omega, hq⟩
                case measure => rw [iterPos_of hit2, hpos0]; omega
          · have hnx : ∀ ty, (Instr.next (.pointer (some ⟨w1.heap.size, 0, none⟩)) true ty).run Tryz.prog wr = _ := fun ty => Lib.run_next_end_at wr w1.heap.size u pos ty hit hp
            have hAe : A = some n := by rw [← HS.out]; cases fuel <;> simp [numR, hp]
            subst hAe
            subst hT
            go_wp2
            go_ret
            exact ⟨rfl, hL1.later hbw, grown_trans hg1 (below_grown hbw _)⟩

end Go.Proofs.YtlehlbgaboifoabGreatDoor
