/- The contracts of verbOf, kindOf, known, peered of package line. -/
import Derived.Test.YtmldpihjndafaabDoorTD
namespace Go.Proofs.YtmldpihjndafaabDoor
open Go.RowKit
set_option linter.unusedSimpArgs false
set_option linter.unusedVariables false

/-- The verb of a kind. -/
def verbB : Nat → ByteArray
  | 1 => ⟨#[110, 111, 100, 101]⟩
  | 2 => ⟨#[103, 111, 110, 101]⟩
  | 3 => ⟨#[112, 114, 101, 112, 97, 114, 101]⟩
  | 4 => ⟨#[99, 111, 109, 109, 105, 116]⟩
  | 5 => ⟨#[97, 98, 111, 114, 116]⟩
  | 6 => ⟨#[114, 101, 108, 101, 97, 115, 101]⟩
  | 7 => ⟨#[103, 97, 110, 103]⟩
  | _ => ⟨#[]⟩

theorem verbOf_any (k : Nat) (h1 : 1 ≤ k) (h7 : k ≤ 7) (w : World) :
    Calls Tryd.prog 44 #[.int .i64 k] w fun e w' => e = .returned (.string (verbB k)) ∧ w' = w := by
  rcases (by omega : k = 1 ∨ k = 2 ∨ k = 3 ∨ k = 4 ∨ k = 5 ∨ k = 6 ∨ k = 7) with rfl | rfl | rfl | rfl | rfl | rfl | rfl
  all_goals
    go_enter Tryd.func44, Tryd.ntmps44
    go_wp2
    go_ret
    exact ⟨rfl, rfl⟩

theorem bytes_ne {a b : ByteArray} (h : a ≠ b) : (a.toList == b.toList) = false := by
  rw [beq_eq_false_iff_ne]
  intro e
  rw [ByteArray.toList_eq, ByteArray.toList_eq] at e
  exact h (ByteArray.ext (Array.toList_inj.1 e))

/-- The kind of this verb from this one on, 0 if there is none. -/
def kindR (v : ByteArray) : Nat → Nat → Nat
  | 0, _ => 0
  | f + 1, k => if verbB k = v then k else kindR v f (k + 1)

set_option maxRecDepth 100000 in
theorem kindOf_any (v : ByteArray) (w : World) :
    Calls Tryd.prog 51 #[.string v] w fun e w' => e = .returned (.int .i64 (kindR v 7 1)) ∧ w' = w := by
  obtain ⟨K, hK⟩ : ∃ K, kindR v 7 1 = K := ⟨_, rfl⟩
  rw [hK]
  go_enter Tryd.func51, Tryd.ntmps51
  go_wp2
  go_loopw [3] (fun x wr => ∃ (k f : Nat), x = .int .i64 k ∧ wr = w ∧ Hid (kindR v f k = K) ∧ k + f = 8 ∧ 1 ≤ k) (fun x _ => 8 - (intOf x).toNat)
  case atStart => exact ⟨1, 7, rfl, rfl, hK, by omega, by omega⟩
  case round =>
    obtain ⟨k, f, rfl, rfl, HS, hkf, hk1⟩ := hrel
    by_cases h7 : (k : Int) ≤ 7
    · obtain ⟨f, rfl⟩ : ∃ f', f = f' + 1 := ⟨f - 1, by omega⟩
      obtain ⟨V, hV⟩ : ∃ V, verbB k = V := ⟨_, rfl⟩
      have hstep : Hid (K = if V = v then k else kindR v f (k + 1)) := by show _ = _; rw [← HS.out, ← hV]; rfl
      clear HS
      by_cases hv : V = v
      · have hKk : K = k := by rw [hstep.out, if_pos hv]
        clear hstep
        subst hv
        subst hKk
        go_wp2_with (go_at_call 44; refine (verbOf_any _ hk1 (by omega) _).mono ?_; rw [hV]; rintro e w1 ⟨rfl, rfl⟩)
        go_ret
        exact ⟨rfl, rfl⟩
      · have hKk : Hid (kindR v f (k + 1) = K) := by show _ = _; rw [hstep.out, if_neg hv]
        clear hstep
        have bv : (V.toList == v.toList) = false := bytes_ne hv
        go_wp2_with (go_at_call 44; refine (verbOf_any _ hk1 (by omega) _).mono ?_; rw [hV]; rintro e w1 ⟨rfl, rfl⟩)
        go_roundw
        case rel => exact ⟨k + 1, f, by go_num, trivial, hKk, by omega, by omega⟩
        case measure => simp [intOf]; omega
    · have hKk : K = 0 := by rw [← HS.out, (by omega : f = 0)]; rfl
      subst hKk
      go_wp2
      go_ret
      exact ⟨rfl, rfl⟩

theorem known_all (k : Int) (w : World) :
    Calls Tryd.prog 25 #[.int .i64 k] w fun e w' => e = .returned (.bool (decide (1 ≤ k) && decide (k ≤ 7))) ∧ w' = w := by
  by_cases h1 : 1 ≤ k
  · have d1 : decide (1 ≤ k) = true := by simpa using h1
    rw [d1]
    go_enter Tryd.func25, Tryd.ntmps25
    go_wp2
    go_ret
    exact ⟨rfl, rfl⟩
  · have d1 : decide (1 ≤ k) = false := by simpa using h1
    rw [d1]
    go_enter Tryd.func25, Tryd.ntmps25
    go_wp2
    go_ret
    exact ⟨rfl, rfl⟩

theorem peered_all (k : Int) (w : World) :
    Calls Tryd.prog 36 #[.int .i64 k] w fun e w' => e = .returned (.bool (decide (k = 3) || decide (k = 7))) ∧ w' = w := by
  by_cases h1 : k = 3
  · subst h1
    go_enter Tryd.func36, Tryd.ntmps36
    go_wp2
    go_ret
    exact ⟨rfl, rfl⟩
  by_cases h2 : k = 7
  · subst h2
    go_enter Tryd.func36, Tryd.ntmps36
    go_wp2
    go_ret
    exact ⟨rfl, rfl⟩
  · have b1 : (k == 3) = false := by simpa using h1
    have b2 : (k == 7) = false := by simpa using h2
    go_enter Tryd.func36, Tryd.ntmps36
    go_wp2
    go_ret
    exact ⟨by simp [h1, h2, b1, b2], rfl⟩

end Go.Proofs.YtmldpihjndafaabDoor
