/- The contract of gang of package line's reader. -/
import Derived.Test.YtmldpihjndafaabDoorTJ
namespace Go.Proofs.YtmldpihjndafaabDoor
open Go.RowKit
set_option linter.unusedSimpArgs false
set_option linter.unusedVariables false

theorem grown_below {w w' : World} {L B : Nat} (h : w.grownBy w' (some L)) (hL : B ≤ L) (hw : B ≤ w.heap.size) : Below B w w' :=
  ⟨h.os, h.tape, h.output, h.size, fun k hk => h.block k (Nat.lt_of_lt_of_le hk hw) (fun e => by cases e; omega)⟩

theorem peered_is (k : Int) (b : Bool) (h : (decide (k = 3) || decide (k = 7)) = b) (w : World) :
    Calls Tryd.prog 36 #[.int .i64 k] w fun e w' => e = .returned (.bool b) ∧ w' = w := by
  subst h
  exact peered_all k w

/-- The block of a record of a gang. -/
abbrev GBox (w : World) (R : Nat) (k : Int) (g : Nat) (pv qv : Value) : Prop := Box w R #[.int .i64 k, .int .i64 g, pv, qv, .string ⟨#[]⟩, .int .i64 0, .int .i64 0, .slice none 0 0, .slice none 0 0, .bool false] 35

theorem GBox.cells {w : World} {R : Nat} {k : Int} {g : Nat} {pv qv : Value} (h : GBox w R k g pv qv) : w.cell? ⟨R, 0, none⟩ = some (.int .i64 k) ∧ w.cell? ⟨R, 1, none⟩ = some (.int .i64 g) ∧ w.cell? ⟨R, 2, none⟩ = some pv ∧ w.cell? ⟨R, 3, none⟩ = some qv := ⟨h.cell rfl, h.cell rfl, h.cell rfl, h.cell rfl⟩

set_option maxRecDepth 100000 in
set_option maxHeartbeats 4000000 in
theorem gang_plain (L R B : Nat) (k nx : Int) (s : ByteArray) (T : Nat × Int × ByteArray) (w : World) (hs : s.size ≤ 1000000) (hT : numF nx 32 s = T) (hk3 : k ≠ 3) (hk7 : k ≠ 7) (hne : R ≠ L) (hBL : B ≤ L) (hBR : B ≤ R) (hL : RBox w L nx s) (hR : GBox w R k 0 (.slice none 0 0) (.slice none 0 0)) :
    Calls Tryd.prog 55 #[.pointer (some ⟨L, 0, none⟩), .pointer (some ⟨R, 0, none⟩)] w fun e w' => e = .returned (.tuple #[]) ∧ GBox w' R k T.1 (.slice none 0 0) (.slice none 0 0) ∧ RBox w' L T.2.1 T.2.2 ∧ Below B w w' := by
  obtain ⟨g, n1, s1⟩ := T
  have hLw := hL.lt
  have b3 : (k == 3) = false := by simpa using hk3
  have hpe : (decide (k = 3) || decide (k = 7)) = false := by simp [hk3, hk7]
  go_enter Tryd.func55, Tryd.ntmps55
  go_wp2_with (first
    | (go_at_call 36; refine (peered_all _ _).mono ?_; rw [hpe]; rintro e w3 ⟨rfl, rfl⟩)
    | (go_at_call 74; refine (number_any L nx 32 s _ _ hs hT hL).mono ?_; rintro e w1 ⟨rfl, hL1, hg1⟩; have hR1 := Box.grown hR hg1 (by simpa using hne); obtain ⟨x0, x1, x2, x3⟩ := GBox.cells hR1; have y1 := hR1.frozen 1; have hR2 : GBox (w1.setCell ⟨R, 1, none⟩ (.int .i64 g)) R k g (.slice none 0 0) (.slice none 0 0) := hR1.set 1 _; obtain ⟨z0, z1, z2, z3⟩ := GBox.cells hR2; have hL2 := hL1.other (Ne.symm hne) 1 (.int .i64 g)))
  go_end0
  exact ⟨rfl, hR2, hL2, (grown_below hg1 hBL (by omega)).setCell (p := ⟨R, 1, none⟩) hBR _⟩

set_option maxRecDepth 100000 in
set_option maxHeartbeats 4000000 in
theorem gang_seven (L R B : Nat) (nx : Int) (s : ByteArray) (T : Nat × Int × ByteArray) (S : List Nat × Int × ByteArray) (w : World) (hs : s.size ≤ 1000000) (hT : numF nx 32 s = T) (hP : peersF T.2.1 T.2.2 = S) (hne : R ≠ L) (hBL : B ≤ L) (hBR : B ≤ R) (hL : RBox w L nx s) (hR : GBox w R 7 0 (.slice none 0 0) (.slice none 0 0)) :
    Calls Tryd.prog 55 #[.pointer (some ⟨L, 0, none⟩), .pointer (some ⟨R, 0, none⟩)] w fun e w' => e = .returned (.tuple #[]) ∧ ∃ pv, GBox w' R 7 T.1 pv (.slice none 0 0) ∧ w'.ownsRow w.heap.size 3 1 pv S.1.length (S.1.map natV) ∧ RBox w' L S.2.1 S.2.2 ∧ Below B w w' := by
  obtain ⟨g, n1, s1⟩ := T
  have hz1 : s1.size ≤ s.size := by have := numF_size nx 32 s; rw [hT] at this; exact this
  have hLw := hL.lt
  have hRw := hR.lt
  have hpe : (decide ((7 : Int) = 3) || decide ((7 : Int) = 7)) = true := by decide
  obtain ⟨ps, n2, s2⟩ := S
  replace hP : peersF n1 s1 = (ps, n2, s2) := hP
  go_enter Tryd.func55, Tryd.ntmps55
  go_wp2_with (first
    | (go_at_call 36; refine (peered_is _ true (by decide) _).mono ?_; rintro e w9 ⟨rfl, rfl⟩)
    | (go_at_call 75; refine (peers_any L n1 s1 _ _ (by omega) hP hL2).mono ?_; rintro e w3 ⟨pv, rfl, hO3, hL3, hg3⟩; obtain ⟨pa, pc, rfl⟩ := slice_of_own hO3; have hR3 := Box.grown hR2 hg3 (by simpa using hne); obtain ⟨u0, u1, u2, u3⟩ := GBox.cells hR3; have y2 := hR3.frozen 2; have hR4 : GBox (w3.setCell ⟨R, 2, none⟩ (.slice pa ps.length pc)) R 7 g (.slice pa ps.length pc) (.slice none 0 0) := hR3.set 2 _; obtain ⟨v0, v1, v2, v3⟩ := GBox.cells hR4; have hL4 := hL3.other (Ne.symm hne) 2 (.slice pa ps.length pc); have hB4 := (hB2.trans (grown_below hg3 hBL (by have := hg1.size; omega))).setCell (p := ⟨R, 2, none⟩) hBR (.slice pa ps.length pc); have hO4 := own_other (own_low hO3 (by have := hg1.size; omega : w.heap.size ≤ _)) (by omega : R < w.heap.size) 2 (.slice pa ps.length pc); have hq4 : (w3.setCell ⟨R, 2, none⟩ (.slice pa ps.length pc)).heap.size = w3.heap.size := by simp)
    | (go_at_call 74; refine (number_any L nx 32 s _ _ hs hT hL).mono ?_; rintro e w1 ⟨rfl, hL1, hg1⟩; have hR1 := Box.grown hR hg1 (by simpa using hne); obtain ⟨x0, x1, x2, x3⟩ := GBox.cells hR1; have y1 := hR1.frozen 1; have hR2 : GBox (w1.setCell ⟨R, 1, none⟩ (.int .i64 g)) R 7 g (.slice none 0 0) (.slice none 0 0) := hR1.set 1 _; obtain ⟨z0, z1, z2, z3⟩ := GBox.cells hR2; have hL2 := hL1.other (Ne.symm hne) 1 (.int .i64 g); have hB2 := (grown_below hg1 hBL (by omega)).setCell (p := ⟨R, 1, none⟩) hBR (.int .i64 g); have hq2 : (w1.setCell ⟨R, 1, none⟩ (.int .i64 g)).heap.size = w1.heap.size := by simp))
  go_end0
  exact ⟨rfl, .slice pa ps.length pc, hR4, hO4, hL4, hB4⟩

theorem numsF_size (g : Int) : ∀ (f : Nat) (nx : Int) (s : ByteArray), (numsF g f nx s).2.2.size ≤ s.size
  | 0, nx, s => Nat.le_refl _
  | f + 1, nx, s => by
    unfold numsF
    split
    · exact Nat.le_trans (numsF_size g f _ _) (numF_size nx g s)
    · exact Nat.le_refl _

theorem peersF_size (nx : Int) (s : ByteArray) : (peersF nx s).2.2.size ≤ s.size := Nat.le_trans (numsF_size 44 _ _ _) (numF_size nx 32 s)

set_option maxRecDepth 100000 in
set_option maxHeartbeats 4000000 in
theorem gang_three (L R B : Nat) (nx : Int) (s : ByteArray) (T : Nat × Int × ByteArray) (S : List Nat × Int × ByteArray) (V : List PlaceB × Int × ByteArray) (w : World) (hs : s.size ≤ 1000000) (hT : numF nx 32 s = T) (hP : peersF T.2.1 T.2.2 = S) (hQ : placesF (S.2.2.size + 2) S.2.1 S.2.2 = V) (hne : R ≠ L) (hBL : B ≤ L) (hBR : B ≤ R) (hL : RBox w L nx s) (hR : GBox w R 3 0 (.slice none 0 0) (.slice none 0 0)) :
    Calls Tryd.prog 55 #[.pointer (some ⟨L, 0, none⟩), .pointer (some ⟨R, 0, none⟩)] w fun e w' => e = .returned (.tuple #[]) ∧ ∃ pv qv, GBox w' R 3 T.1 pv qv ∧ w'.ownsRow w.heap.size 3 1 pv S.1.length (S.1.map natV) ∧ w'.ownsRow w.heap.size 56 5 qv V.1.length (V.1.flatMap placeCells) ∧ RBox w' L V.2.1 V.2.2 ∧ Below B w w' := by
  obtain ⟨g, n1, s1⟩ := T
  have hz1 : s1.size ≤ s.size := by have := numF_size nx 32 s; rw [hT] at this; exact this
  have hLw := hL.lt
  have hRw := hR.lt
  have hpe : (decide ((3 : Int) = 3) || decide ((3 : Int) = 7)) = true := by decide
  have hz2 : S.2.2.size ≤ s1.size := hP ▸ peersF_size n1 s1
  obtain ⟨ps, n2, s2⟩ := S
  replace hz2 : s2.size ≤ s1.size := hz2
  replace hP : peersF n1 s1 = (ps, n2, s2) := hP
  obtain ⟨qs, n3, s3⟩ := V
  replace hQ : placesF (s2.size + 2) n2 s2 = (qs, n3, s3) := hQ
  go_enter Tryd.func55, Tryd.ntmps55
  go_wp2_with (first
    | (go_at_call 36; refine (peered_is _ true (by decide) _).mono ?_; rintro e w9 ⟨rfl, rfl⟩)
    | (go_at_call 76; refine (places_any L n2 s2 _ _ (by omega) hQ hL4).mono ?_; rintro e w5 ⟨qv, rfl, hO5, hL5, hg5⟩; obtain ⟨qa, qc, rfl⟩ := slice_of_own hO5; have hR5 := Box.grown hR4 hg5 (by simpa using hne); obtain ⟨t0, t1, t2, t3⟩ := GBox.cells hR5; have y3 := hR5.frozen 3)
    | (go_at_call 75; refine (peers_any L n1 s1 _ _ (by omega) hP hL2).mono ?_; rintro e w3 ⟨pv, rfl, hO3, hL3, hg3⟩; obtain ⟨pa, pc, rfl⟩ := slice_of_own hO3; have hR3 := Box.grown hR2 hg3 (by simpa using hne); obtain ⟨u0, u1, u2, u3⟩ := GBox.cells hR3; have y2 := hR3.frozen 2; have hR4 : GBox (w3.setCell ⟨R, 2, none⟩ (.slice pa ps.length pc)) R 3 g (.slice pa ps.length pc) (.slice none 0 0) := hR3.set 2 _; obtain ⟨v0, v1, v2, v3⟩ := GBox.cells hR4; have hL4 := hL3.other (Ne.symm hne) 2 (.slice pa ps.length pc); have hB4 := (hB2.trans (grown_below hg3 hBL (by have := hg1.size; omega))).setCell (p := ⟨R, 2, none⟩) hBR (.slice pa ps.length pc); have hO4 := own_other (own_low hO3 (by have := hg1.size; omega : w.heap.size ≤ _)) (by omega : R < w.heap.size) 2 (.slice pa ps.length pc); have hq4 : (w3.setCell ⟨R, 2, none⟩ (.slice pa ps.length pc)).heap.size = w3.heap.size := by simp)
    | (go_at_call 74; refine (number_any L nx 32 s _ _ hs hT hL).mono ?_; rintro e w1 ⟨rfl, hL1, hg1⟩; have hR1 := Box.grown hR hg1 (by simpa using hne); obtain ⟨x0, x1, x2, x3⟩ := GBox.cells hR1; have y1 := hR1.frozen 1; have hR2 : GBox (w1.setCell ⟨R, 1, none⟩ (.int .i64 g)) R 3 g (.slice none 0 0) (.slice none 0 0) := hR1.set 1 _; obtain ⟨z0, z1, z2, z3⟩ := GBox.cells hR2; have hL2 := hL1.other (Ne.symm hne) 1 (.int .i64 g); have hB2 := (grown_below hg1 hBL (by omega)).setCell (p := ⟨R, 1, none⟩) hBR (.int .i64 g); have hq2 : (w1.setCell ⟨R, 1, none⟩ (.int .i64 g)).heap.size = w1.heap.size := by simp))
  go_end0
  have hx3 : w.heap.size ≤ w3.heap.size := by have := hg1.size; have := hg3.size; omega
  have hR6 : GBox (w5.setCell ⟨R, 3, none⟩ (.slice qa qs.length qc)) R 3 g (.slice pa ps.length pc) (.slice qa qs.length qc) := hR5.set 3 _
  refine ⟨rfl, .slice pa ps.length pc, .slice qa qs.length qc, hR6, ?_, ?_, ?_, ?_⟩
  · exact own_other (own_grown hO4 hg5 (fun g hg e => by cases e; omega)) hRw 3 _
  · exact own_other (own_low hO5 (by omega)) hRw 3 _
  · exact hL5.other (Ne.symm hne) 3 _
  · exact (hB4.trans (grown_below hg5 hBL (by omega))).setCell (p := ⟨R, 3, none⟩) hBR _

end Go.Proofs.YtmldpihjndafaabDoor
