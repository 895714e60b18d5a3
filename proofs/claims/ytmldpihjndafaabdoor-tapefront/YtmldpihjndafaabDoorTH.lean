/- The contract of place of package line's reader. -/
import Derived.Test.YtmldpihjndafaabDoorGE
namespace Go.Proofs.YtmldpihjndafaabDoor
open Go.RowKit
set_option linter.unusedSimpArgs false
set_option linter.unusedVariables false

theorem Box.cells5 {w : World} {B : Nat} {t : TypeId} {x0 x1 x2 x3 x4 : Value} (h : Box w B #[x0, x1, x2, x3, x4] t) : w.cell? ⟨B, 0, none⟩ = some x0 ∧ w.cell? ⟨B, 1, none⟩ = some x1 ∧ w.cell? ⟨B, 2, none⟩ = some x2 ∧ w.cell? ⟨B, 3, none⟩ = some x3 ∧ w.cell? ⟨B, 4, none⟩ = some x4 :=
  ⟨h.cell rfl, h.cell rfl, h.cell rfl, h.cell rfl, h.cell rfl⟩

theorem flagF_size (nx : Int) (s : ByteArray) : (flagF nx s).2.2.size ≤ s.size := by
  unfold flagF
  split
  · exact takeF_size nx 33 s
  · exact Nat.le_refl _

/-- A place: pod, node, need, alone. -/
structure PlaceB where
  pod : ByteArray
  node : ByteArray
  cpu : Nat
  mem : Nat
  alone : Bool

/-- What place tells, the sign ahead and the rest behind it. -/
def placeF (nx : Int) (s : ByteArray) : PlaceB × Int × ByteArray :=
  match wordF nx 32 s with
  | (p, n1, s1) => match wordF n1 62 s1 with
    | (n, n2, s2) => match vecF n2 s2 with
      | ((c, m), n3, s3) => match flagF n3 s3 with
        | (a, n4, s4) => (⟨p, n, c, m, a⟩, n4, s4)

set_option maxRecDepth 100000 in
set_option maxHeartbeats 2000000 in
theorem place_any (L : Nat) (nx : Int) (s : ByteArray) (T : PlaceB × Int × ByteArray) (w : World) (hs : s.size ≤ 1000000) (hT : placeF nx s = T) (hL : RBox w L nx s) :
    Calls Tryd.prog 84 #[.pointer (some ⟨L, 0, none⟩)] w fun e w' => e = .returned (.agg #[.string T.1.pod, .string T.1.node, .int .i64 T.1.cpu, .int .i64 T.1.mem, .bool T.1.alone]) ∧ RBox w' L T.2.1 T.2.2 ∧ w.grownBy w' (some L) := by
  unfold placeF at hT
  obtain ⟨U, hU⟩ : ∃ U, wordF nx 32 s = U := ⟨_, rfl⟩
  have hz1 : U.2.2.size ≤ s.size := hU ▸ wordF_size nx 32 s
  rw [hU] at hT
  obtain ⟨p, n1, s1⟩ := U
  replace hz1 : s1.size ≤ s.size := hz1
  simp only at hT
  obtain ⟨U, hV⟩ : ∃ U, wordF n1 62 s1 = U := ⟨_, rfl⟩
  have hz2 : U.2.2.size ≤ s1.size := hV ▸ wordF_size n1 62 s1
  rw [hV] at hT
  obtain ⟨n, n2, s2⟩ := U
  replace hz2 : s2.size ≤ s1.size := hz2
  simp only at hT
  obtain ⟨U, hW⟩ : ∃ U, vecF n2 s2 = U := ⟨_, rfl⟩
  have hz3 : U.2.2.size ≤ s2.size := hW ▸ vecF_size n2 s2
  rw [hW] at hT
  obtain ⟨⟨c, m⟩, n3, s3⟩ := U
  replace hz3 : s3.size ≤ s2.size := hz3
  simp only at hT
  obtain ⟨U, hX⟩ : ∃ U, flagF n3 s3 = U := ⟨_, rfl⟩
  rw [hX] at hT
  obtain ⟨al, n4, s4⟩ := U
  simp only at hT
  subst hT
  show Calls Tryd.prog 84 #[.pointer (some ⟨L, 0, none⟩)] w fun e w' => e = .returned (.agg #[.string p, .string n, .int .i64 c, .int .i64 m, .bool al]) ∧ RBox w' L n4 s4 ∧ w.grownBy w' (some L)
  have hne : w.heap.size ≠ L := by have := hL.lt; omega
  have hL0 : RBox (w.alloc (.cells #[.string ⟨#[]⟩, .string ⟨#[]⟩, .int .i64 0, .int .i64 0, .bool false] 56)) L nx s := hL.up _
  have hB0 : Box (w.alloc (.cells #[.string ⟨#[]⟩, .string ⟨#[]⟩, .int .i64 0, .int .i64 0, .bool false] 56)) w.heap.size #[.string ⟨#[]⟩, .string ⟨#[]⟩, .int .i64 0, .int .i64 0, .bool false] 56 := Box.new w _ _ rfl
  have hg0 : w.grownBy (w.alloc (.cells #[.string ⟨#[]⟩, .string ⟨#[]⟩, .int .i64 0, .int .i64 0, .bool false] 56)) (some L) := below_grown ((Below.refl _ _).alloc (Nat.le_refl _) _) _
  go_enter Tryd.func84, Tryd.ntmps84
  go_wp2_with (first
    | (go_at_call 72; refine (flag_any L n3 s3 _ _ (by omega) hX hL3).mono ?_; rintro e w4 ⟨rfl, hL4, hg4⟩; have hB4 := (((hB0.grown hg1 (by simpa using hne)).grown hg2 (by simpa using hne)).grown hg3 (by simpa using hne)).grown hg4 (by simpa using hne); obtain ⟨x0, x1, x2, x3, x4⟩ := hB4.cells5; have y0 := hB4.frozen 0; have y1 := hB4.frozen 1; have y2 := hB4.frozen 2; have y3 := hB4.frozen 3; have y4 := hB4.frozen 4)
    | (go_at_call 70; refine (vec_any L n2 s2 _ _ (by omega) hW hL2).mono ?_; rintro e w3 ⟨rfl, hL3, hg3⟩)
    | (go_at_call 54; refine (rname_any L n1 62 s1 _ _ (by omega) hV hL1).mono ?_; rintro e w2 ⟨rfl, hL2, hg2⟩)
    | (go_at_call 54; refine (rname_any L nx 32 s _ _ hs hU hL0).mono ?_; rintro e w1 ⟨rfl, hL1, hg1⟩))
  have hB5 : Box (((((w4.setCell ⟨w.heap.size, 0, none⟩ (.string p)).setCell ⟨w.heap.size, 1, none⟩ (.string n)).setCell ⟨w.heap.size, 2, none⟩ (.int .i64 c)).setCell ⟨w.heap.size, 3, none⟩ (.int .i64 m)).setCell ⟨w.heap.size, 4, none⟩ (.bool al)) w.heap.size #[.string p, .string n, .int .i64 c, .int .i64 m, .bool al] 56 := ((((hB4.set 0 _).set 1 _).set 2 _).set 3 _).set 4 _
  obtain ⟨r0, r1, r2, r3, r4⟩ := hB5.cells5
  refine bodyPost_ret (by simp [results, Tryd.results84, go_sem, r0, r1, r2, r3, r4]) rfl ⟨rfl, ?_, ?_⟩
  · exact ((((hL4.other (Ne.symm hne) _ _).other (Ne.symm hne) _ _).other (Ne.symm hne) _ _).other (Ne.symm hne) _ _).other (Ne.symm hne) _ _
  · exact grown_new (grown_new (grown_new (grown_new (grown_new (grown_trans hg0 (grown_trans hg1 (grown_trans hg2 (grown_trans hg3 hg4)))) (Nat.le_refl _) _ _) (Nat.le_refl _) _ _) (Nat.le_refl _) _ _) (Nat.le_refl _) _ _) (Nat.le_refl _) _ _

end Go.Proofs.YtmldpihjndafaabDoor
