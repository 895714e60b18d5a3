/- The contract of take of package line's reader. -/
import Derived.Test.YtmldpihjndafaaaDoorTK
import Derived.Deep.DeepCutAuto
import Derived.RegionTactic
import Derived.BigRegion
import Derived.Laws.Pointers
import Derived.Laws.Strings
import Derived.StillTactics
namespace Go.Proofs.YtmldpihjndafaaaDoor
open Go.RowKit
set_option linter.unusedSimpArgs false
set_option linter.unusedVariables false

theorem grown_drew {w w' : World} {q : Option Nat} (h : w.grownBy w' q) : w.grownBy w'.drew q := ⟨h.os, h.tape, h.output, h.size, h.block⟩

/-- The block of a reader: the sign ahead, the rest. -/
abbrev RBox (w : World) (L : Nat) (nx : Int) (s : ByteArray) : Prop := Box w L #[.int .i32 nx, .string s] 86

set_option maxRecDepth 100000 in
set_option maxHeartbeats 4000000 in
theorem take_go (L : Nat) (nx : Int) (s : ByteArray) (A : Option (Nat × Int)) (w : World) (hs : s.size ≤ 1000000) (hA : tkR s s.size 0 = A) (hL : RBox w L nx s) :
    Calls Tryd.prog 61 #[.pointer (some ⟨L, 0, none⟩), .int .i32 nx] w fun e w' =>
      (∀ p r, A = some (p, r) → e = .returned (.string (s.extract 0 p)) ∧ RBox w' L r (s.extract (p + 1) s.size) ∧ w.grownBy w' (some L)) ∧ (A = none → e = .returned (.string s) ∧ RBox w' L (-2) ⟨#[]⟩ ∧ w.grownBy w' (some L)) := by
  obtain ⟨c0, c1⟩ := hL.cells2
  have hlt := hL.lt
  go_enter Tryd.func61, Tryd.ntmps61
  go_wp2
  go_loopw [5] (fun _ wr => ∃ (pos fuel : Nat), wr.heap[w.heap.size]? = some (.stringIter s pos) ∧ Below w.heap.size w wr ∧ Hid (tkR s fuel pos = A) ∧ s.size ≤ pos + fuel) (fun _ wr => s.size - wr.iterPos w.heap.size)
  case atStart => exact ⟨0, s.size, World.iter_heap w s 0, (Below.refl _ _).alloc (Nat.le_refl _) _, hA, by omega⟩
  case round =>
    obtain ⟨pos, fuel, hit, hbw, HS, hb⟩ := hrel
    have hpos0 := iterPos_of hit
    have hL1 := hL.later hbw
    by_cases hp : pos < s.size
    · have hnx : ∀ ty, (Instr.next (.pointer (some ⟨w.heap.size, 0, none⟩)) true ty).run Tryd.prog wr = _ := fun ty => Lib.run_next_any_at wr w.heap.size s pos ty hit hp
      have hwd := width_pos s pos hp
      obtain ⟨fuel, rfl⟩ : ∃ f', fuel = f' + 1 := ⟨fuel - 1, by omega⟩
      have hit2 := Lib.iterAt_heap wr w.heap.size s pos (pos + (Utf8.decode s pos).2) hit
      have hbw2 := Lib.below_iterAt hbw (k := w.heap.size) (Nat.le_refl _) s (pos + (Utf8.decode s pos).2)
      have hstep : Hid (A = if sgn (Utf8.decode s pos).1 then some (pos, ((Utf8.decode s pos).1 : Int)) else tkR s fuel (pos + (Utf8.decode s pos).2)) := by
        show _ = _
        rw [← HS.out]; simp [tkR, hp]
      obtain ⟨W1, hW1⟩ : ∃ W1, W1 = wr.iterAt w.heap.size s (pos + (Utf8.decode s pos).2) := ⟨_, rfl⟩
      rw [← hW1] at hnx hit2 hbw2
      clear hW1 hit HS
      obtain ⟨b, hb9⟩ : ∃ b, sgn (Utf8.decode s pos).1 = b := ⟨_, rfl⟩
      rw [hb9] at hstep
      have hL2 := hL.later hbw2
      obtain ⟨d0, d1⟩ := hL2.cells2
      have f0 := hL2.frozen 0
      have f1 := hL2.frozen 1
      cases b
      · go_wp2_with (first
          | (go_at_call 74; refine (parting_any _ _ hb9 _).mono ?_; rintro e w3 ⟨rfl, rfl⟩))
        go_roundw
        case rel => exact ⟨_, fuel, hit2, hbw2, (by show _ = _; rw [hstep.out]; simp), by omega⟩
        case measure => rw [iterPos_of hit2, hpos0]; omega
      · have hAe : A = some (pos, ((Utf8.decode s pos).1 : Int)) := by rw [hstep.out]; rfl
        go_upto_region 8 with (first
          | (go_at_call 74; refine (parting_any _ _ hb9 _).mono ?_; rintro e w3 ⟨rfl, rfl⟩))
        go_region
        all_goals
          go_wp2
          go_ret
          refine ⟨fun p r h => ?_, fun h => absurd (hAe.symm.trans h) (by simp)⟩
          obtain ⟨rfl, rfl⟩ : pos = p ∧ ((Utf8.decode s pos).1 : Int) = r := by rw [hAe] at h; simpa using h
          exact ⟨rfl, (hL2.set 0 _).set 1 _, grown_trans (below_grown hbw2 _) (grown_drew (grown_trans (grown_set _ _ _ _) (grown_set _ _ _ _)))⟩
    · have hnx : ∀ ty, (Instr.next (.pointer (some ⟨w.heap.size, 0, none⟩)) true ty).run Tryd.prog wr = _ := fun ty => Lib.run_next_end_at wr w.heap.size s pos ty hit hp
      have hAe : A = none := by rw [← HS.out]; cases fuel <;> simp [tkR, hp]
      obtain ⟨d0, d1⟩ := hL1.cells2
      have f0 := hL1.frozen 0
      have f1 := hL1.frozen 1
      go_wp2
      go_ret
      refine ⟨fun p r h => absurd (hAe.symm.trans h) (by simp), fun _ => ?_⟩
      exact ⟨rfl, (hL1.set 0 _).set 1 _, grown_trans (below_grown hbw _) (grown_trans (grown_set _ _ _ _) (grown_set _ _ _ _))⟩

/-- Another sign is ahead: nothing is read. -/
theorem take_no (L : Nat) (nx g : Int) (s : ByteArray) (w : World) (hne : nx ≠ g) (hL : RBox w L nx s) :
    Calls Tryd.prog 61 #[.pointer (some ⟨L, 0, none⟩), .int .i32 g] w fun e w' => e = .returned (.string ⟨#[]⟩) ∧ w' = w := by
  obtain ⟨c0, c1⟩ := hL.cells2
  go_enter Tryd.func61, Tryd.ntmps61
  go_wp2
  go_ret
  exact ⟨rfl, rfl⟩

end Go.Proofs.YtmldpihjndafaaaDoor
