/- The contracts of name and vec of package line's reader. -/
import Derived.Test.YtmldpihjndafaabDoorGC
import Derived.Test.YtmldpihjndafaabDoorSh
namespace Go.Proofs.YtmldpihjndafaabDoor
open Go.RowKit
set_option linter.unusedSimpArgs false
set_option linter.unusedVariables false

theorem wordF_word (nx g : Int) (s : ByteArray) : (wordF nx g s).1.size ≤ s.size := by
  unfold wordF
  split
  · exact takeF_word nx g s
  · exact takeF_word nx g s

theorem wordF_size (nx g : Int) (s : ByteArray) : (wordF nx g s).2.2.size ≤ s.size := by
  unfold wordF
  split
  · exact takeF_size nx g s
  · exact takeF_size nx g s

theorem numF_size (nx g : Int) (s : ByteArray) : (numF nx g s).2.2.size ≤ s.size := by
  unfold numF
  split
  · exact wordF_size nx g s
  · split
    · exact wordF_size nx g s
    · exact wordF_size nx g s

theorem clone_any (s : ByteArray) (w : World) (hs : s.size ≤ 1000000) :
    Calls Tryd.prog 73 #[.string s] w fun e w' => e = .returned (.string s) ∧ Below w.heap.size w w' := by
  go_enter Tryd.func73, Tryd.ntmps73
  go_wp2_with (go_at_call 83; refine (Tryd.stringslite_Clone _ _ (by omega)).mono ?_; rintro e w2 ⟨rfl, hb2⟩)
  go_ret
  exact ⟨rfl, hb2⟩

theorem rname_any (L : Nat) (nx g : Int) (s : ByteArray) (T : ByteArray × Int × ByteArray) (w : World) (hs : s.size ≤ 1000000) (hT : wordF nx g s = T) (hL : RBox w L nx s) :
    Calls Tryd.prog 54 #[.pointer (some ⟨L, 0, none⟩), .int .i32 g] w fun e w' => e = .returned (.string T.1) ∧ RBox w' L T.2.1 T.2.2 ∧ w.grownBy w' (some L) := by
  have hz := wordF_word nx g s
  rw [hT] at hz
  obtain ⟨u, n2, s2⟩ := T
  simp only at hz
  go_enter Tryd.func54, Tryd.ntmps54
  go_wp2_with (first
    | (go_at_call 52; refine (word_any L nx g s _ _ hs hT hL).mono ?_; rintro e w1 ⟨rfl, hL1, hg1⟩)
    | (go_at_call 73; refine (clone_any _ _ (by omega)).mono ?_; rintro e w2 ⟨rfl, hb2⟩))
  go_ret
  exact ⟨rfl, hL1.later hb2, grown_trans hg1 (below_grown hb2 _)⟩

theorem grown_new {w w1 : World} {q : Option Nat} (h : w.grownBy w1 q) {b : Nat} (hb : w.heap.size ≤ b) (i : Nat) (v : Value) : w.grownBy (w1.setCell ⟨b, i, none⟩ v) q := by
  have h2 := (Below.refl 0 w1).setCell (p := ⟨b, i, none⟩) (Nat.zero_le _) v
  exact ⟨h2.os.trans h.os, h2.tape.trans h.tape, h2.output.trans h.output, Nat.le_trans h.size h2.size, fun k hk hne => by
    rw [Below.heap_setCell w1 _ v k (fun e => by have : k = b := e; omega)]
    exact h.block k hk hne⟩

/-- What vec tells, the sign ahead and the rest behind it. -/
def vecF (nx : Int) (s : ByteArray) : (Nat × Nat) × Int × ByteArray :=
  (((numF nx 58 s).1, (numF (numF nx 58 s).2.1 44 (numF nx 58 s).2.2).1), (numF (numF nx 58 s).2.1 44 (numF nx 58 s).2.2).2)

theorem vecF_size (nx : Int) (s : ByteArray) : (vecF nx s).2.2.size ≤ s.size := Nat.le_trans (numF_size _ _ _) (numF_size _ _ _)

set_option maxRecDepth 100000 in
theorem vec_any (L : Nat) (nx : Int) (s : ByteArray) (T : (Nat × Nat) × Int × ByteArray) (w : World) (hs : s.size ≤ 1000000) (hT : vecF nx s = T) (hL : RBox w L nx s) :
    Calls Tryd.prog 70 #[.pointer (some ⟨L, 0, none⟩)] w fun e w' => e = .returned (.agg #[.int .i64 T.1.1, .int .i64 T.1.2]) ∧ RBox w' L T.2.1 T.2.2 ∧ w.grownBy w' (some L) := by
  unfold vecF at hT
  obtain ⟨U, hU⟩ : ∃ U, numF nx 58 s = U := ⟨_, rfl⟩
  rw [hU] at hT
  have hz : U.2.2.size ≤ s.size := hU ▸ numF_size nx 58 s
  obtain ⟨m, n2, s2⟩ := U
  replace hz : s2.size ≤ s.size := hz
  obtain ⟨V, hV⟩ : ∃ V, numF n2 44 s2 = V := ⟨_, rfl⟩
  replace hT : ((m, (numF n2 44 s2).1), (numF n2 44 s2).2) = T := hT
  rw [hV] at hT
  obtain ⟨m3, n3, s3⟩ := V
  replace hT : ((m, m3), n3, s3) = T := hT
  subst hT
  show Calls Tryd.prog 70 #[.pointer (some ⟨L, 0, none⟩)] w fun e w' => e = .returned (.agg #[.int .i64 m, .int .i64 m3]) ∧ RBox w' L n3 s3 ∧ w.grownBy w' (some L)
  have hne : w.heap.size ≠ L := by have := hL.lt; omega
  have hL0 : RBox (w.alloc (.cells #[.int .i64 0, .int .i64 0] 30)) L nx s := hL.up _
  have hB0 : Box (w.alloc (.cells #[.int .i64 0, .int .i64 0] 30)) w.heap.size #[.int .i64 0, .int .i64 0] 30 := Box.new w _ _ rfl
  have hg0 : w.grownBy (w.alloc (.cells #[.int .i64 0, .int .i64 0] 30)) (some L) := below_grown ((Below.refl _ _).alloc (Nat.le_refl _) _) _
  go_enter Tryd.func70, Tryd.ntmps70
  go_wp2_with (first
    | (go_at_call 74; refine (number_any L n2 44 s2 _ _ (by omega) hV hL1).mono ?_; rintro e w2 ⟨rfl, hL2, hg2⟩; have hB2 := (hB0.grown hg1 (by simpa using hne)).grown hg2 (by simpa using hne); obtain ⟨x0, x1⟩ := hB2.cells2; have y0 := hB2.frozen 0; have y1 := hB2.frozen 1)
    | (go_at_call 74; refine (number_any L nx 58 s _ _ hs hU hL0).mono ?_; rintro e w1 ⟨rfl, hL1, hg1⟩))
  have hB3 : Box ((w2.setCell ⟨w.heap.size, 0, none⟩ (.int .i64 m)).setCell ⟨w.heap.size, 1, none⟩ (.int .i64 m3)) w.heap.size #[.int .i64 m, .int .i64 m3] 30 := (hB2.set 0 _).set 1 _
  obtain ⟨r0, r1⟩ := hB3.cells2
  refine bodyPost_ret (by simp [results, Tryd.results70, go_sem, r0, r1]) rfl ⟨rfl, ?_, ?_⟩
  · exact (hL2.other (Ne.symm hne) _ _).other (Ne.symm hne) _ _
  · exact grown_new (grown_new (grown_trans hg0 (grown_trans hg1 hg2)) (Nat.le_refl _) _ _) (Nat.le_refl _) _ _

end Go.Proofs.YtmldpihjndafaabDoor
