/- The contracts of word, flag of package line's reader, by functions of the text. -/
import Derived.Test.YtmldpihjndafaaaDoorTA
namespace Go.Proofs.YtmldpihjndafaaaDoor
open Go.RowKit
set_option linter.unusedSimpArgs false
set_option linter.unusedVariables false

theorem full_of {u : ByteArray} (h : u ≠ ⟨#[]⟩) : u.toList.isEmpty = false := by
  rw [ByteArray.toList_eq]
  cases hl : u.data.toList with
  | nil => exact absurd (by cases u with | mk d => simp at hl; simp [hl]) h
  | cons _ _ => rfl

/-- What take tells, the sign ahead and the rest behind it. -/
def takeF (nx g : Int) (s : ByteArray) : ByteArray × Int × ByteArray :=
  if nx = g then (match tkR s s.size 0 with | some (p, r) => (s.extract 0 p, r, s.extract (p + 1) s.size) | none => (s, -2, ⟨#[]⟩)) else (⟨#[]⟩, nx, s)

theorem takeF_size (nx g : Int) (s : ByteArray) : (takeF nx g s).2.2.size ≤ s.size := by
  unfold takeF
  split
  · split
    · simp only [ByteArray.size_extract]; omega
    · exact Nat.zero_le _
  · exact Nat.le_refl _

theorem takeF_word (nx g : Int) (s : ByteArray) : (takeF nx g s).1.size ≤ s.size := by
  unfold takeF
  split
  · split
    · simp only [ByteArray.size_extract]; omega
    · exact Nat.le_refl _
  · exact Nat.zero_le _

theorem tkR_lt (s : ByteArray) : ∀ (f pos p : Nat) (r : Int), tkR s f pos = some (p, r) → p < s.size
  | 0, pos, p, r, h => by simp [tkR] at h
  | f + 1, pos, p, r, h => by
    unfold tkR at h
    split at h
    · split at h
      · simp only [Option.some.injEq, Prod.mk.injEq] at h; omega
      · exact tkR_lt s f _ p r h
    · cases h

/-- Behind a word either the rest is shorter, or nothing is ahead. -/
theorem takeF_less (g : Int) (s : ByteArray) : (takeF g g s).2.2.size < s.size ∨ ((takeF g g s).2.1 = -2 ∧ (takeF g g s).2.2 = ⟨#[]⟩) := by
  unfold takeF
  rw [if_pos rfl]
  cases h : tkR s s.size 0 with
  | none => exact .inr ⟨rfl, rfl⟩
  | some q =>
    obtain ⟨p, r⟩ := q
    have := tkR_lt s _ _ p r h
    left
    simp only [ByteArray.size_extract]
    omega

theorem take_any (L : Nat) (nx g : Int) (s : ByteArray) (T : ByteArray × Int × ByteArray) (w : World) (hs : s.size ≤ 1000000) (hT : takeF nx g s = T) (hL : RBox w L nx s) :
    Calls Tryd.prog 61 #[.pointer (some ⟨L, 0, none⟩), .int .i32 g] w fun e w' => e = .returned (.string T.1) ∧ RBox w' L T.2.1 T.2.2 ∧ w.grownBy w' (some L) := by
  subst hT
  unfold takeF
  by_cases h : nx = g
  · subst h
    rw [if_pos rfl]
    refine (take_go L nx s _ w hs rfl hL).mono ?_
    rintro e w' ⟨h1, h2⟩
    cases hA : tkR s s.size 0 with
    | none => exact h2 hA
    | some q => exact h1 q.1 q.2 hA
  · rw [if_neg h]
    refine (take_no L nx g s w h hL).mono ?_
    rintro e w' ⟨rfl, rfl⟩
    exact ⟨rfl, hL, below_grown (Below.refl _ _) _⟩

/-- What word tells, the sign ahead and the rest behind it. -/
def wordF (nx g : Int) (s : ByteArray) : ByteArray × Int × ByteArray :=
  if (takeF nx g s).1 = ⟨#[]⟩ then ((takeF nx g s).1, -3, (takeF nx g s).2.2) else takeF nx g s

theorem word_any (L : Nat) (nx g : Int) (s : ByteArray) (T : ByteArray × Int × ByteArray) (w : World) (hs : s.size ≤ 1000000) (hT : wordF nx g s = T) (hL : RBox w L nx s) :
    Calls Tryd.prog 44 #[.pointer (some ⟨L, 0, none⟩), .int .i32 g] w fun e w' => e = .returned (.string T.1) ∧ RBox w' L T.2.1 T.2.2 ∧ w.grownBy w' (some L) := by
  unfold wordF at hT
  obtain ⟨U, hU⟩ : ∃ U, takeF nx g s = U := ⟨_, rfl⟩
  rw [hU] at hT
  obtain ⟨u, n2, s2⟩ := U
  simp only at hT
  by_cases hu : u = ⟨#[]⟩
  · subst hu
    rw [if_pos rfl] at hT
    subst hT
    go_enter Tryd.func44, Tryd.ntmps44
    go_wp2_with (first
      | (go_at_call 61; refine (take_any L nx g s _ _ hs hU hL).mono ?_; rintro e w1 ⟨rfl, hL1, hg1⟩; obtain ⟨c0, c1⟩ := hL1.cells2; have f0 := hL1.frozen 0))
    go_ret
    exact ⟨rfl, hL1.set 0 _, grown_trans hg1 (grown_set _ _ _ _)⟩
  · rw [if_neg hu] at hT
    subst hT
    have hue := full_of hu
    go_enter Tryd.func44, Tryd.ntmps44
    go_wp2_with (first
      | (go_at_call 61; refine (take_any L nx g s _ _ hs hU hL).mono ?_; rintro e w1 ⟨rfl, hL1, hg1⟩; obtain ⟨c0, c1⟩ := hL1.cells2; have f0 := hL1.frozen 0))
    go_ret
    exact ⟨rfl, hL1, hg1⟩

/-- What flag tells, the sign ahead and the rest behind it. -/
def flagF (nx : Int) (s : ByteArray) : Bool × Int × ByteArray :=
  if nx = 33 then (true, (if (takeF nx 33 s).1 = ⟨#[]⟩ then (takeF nx 33 s).2.1 else -3), (takeF nx 33 s).2.2) else (false, nx, s)

theorem flag_any (L : Nat) (nx : Int) (s : ByteArray) (T : Bool × Int × ByteArray) (w : World) (hs : s.size ≤ 1000000) (hT : flagF nx s = T) (hL : RBox w L nx s) :
    Calls Tryd.prog 64 #[.pointer (some ⟨L, 0, none⟩)] w fun e w' => e = .returned (.bool T.1) ∧ RBox w' L T.2.1 T.2.2 ∧ w.grownBy w' (some L) := by
  unfold flagF at hT
  obtain ⟨c0, c1⟩ := hL.cells2
  by_cases h : nx = 33
  · subst h
    rw [if_pos rfl] at hT
    obtain ⟨U, hU⟩ : ∃ U, takeF 33 33 s = U := ⟨_, rfl⟩
    rw [hU] at hT
    obtain ⟨u, n2, s2⟩ := U
    simp only at hT
    by_cases hu : u = ⟨#[]⟩
    · subst hu
      rw [if_pos rfl] at hT
      subst hT
      go_enter Tryd.func64, Tryd.ntmps64
      go_wp2_with (first
        | (go_at_call 61; refine (take_any L 33 33 s _ _ hs hU hL).mono ?_; rintro e w1 ⟨rfl, hL1, hg1⟩; obtain ⟨c0, c1⟩ := hL1.cells2; have f0 := hL1.frozen 0))
      go_ret
      exact ⟨rfl, hL1, hg1⟩
    · rw [if_neg hu] at hT
      subst hT
      have hue := full_of hu
      go_enter Tryd.func64, Tryd.ntmps64
      go_wp2_with (first
        | (go_at_call 61; refine (take_any L 33 33 s _ _ hs hU hL).mono ?_; rintro e w1 ⟨rfl, hL1, hg1⟩; obtain ⟨c0, c1⟩ := hL1.cells2; have f0 := hL1.frozen 0))
      go_ret
      exact ⟨rfl, hL1.set 0 _, grown_trans hg1 (grown_set _ _ _ _)⟩
  · rw [if_neg h] at hT
    subst hT
    go_enter Tryd.func64, Tryd.ntmps64
    go_wp2
    go_ret
    exact ⟨rfl, hL, below_grown (Below.refl _ _) _⟩

end Go.Proofs.YtmldpihjndafaaaDoor
