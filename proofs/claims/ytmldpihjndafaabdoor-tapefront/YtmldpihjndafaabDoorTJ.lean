/- The contract of node of package line's reader. -/
import Derived.Test.YtmldpihjndafaabDoorTI
namespace Go.Proofs.YtmldpihjndafaabDoor
open Go.RowKit
set_option linter.unusedSimpArgs false
set_option linter.unusedVariables false

theorem own_low {w : World} {base base' : Nat} {t : TypeId} {z : Nat} {v : Value} {n : Nat} {xs : List Value} (h : w.ownsRow base t z v n xs) (hb : base' ≤ base) : w.ownsRow base' t z v n xs := by
  refine ⟨h.1, ?_⟩
  rcases h.2 with h2 | ⟨g, cap, cur, hv, hg, hrest⟩
  · exact .inl h2
  · exact .inr ⟨g, cap, cur, hv, Nat.le_trans hb hg, hrest⟩

theorem own_other {w : World} {base b : Nat} {t : TypeId} {z : Nat} {v : Value} {n : Nat} {xs : List Value} (h : w.ownsRow base t z v n xs) (hb : b < base) (i : Nat) (x : Value) : (w.setCell ⟨b, i, none⟩ x).ownsRow base t z v n xs :=
  own_grown h (grown_set w b i x) (fun g hg e => by cases e; omega)

theorem namesF_size (g : Int) : ∀ (f : Nat) (nx : Int) (s : ByteArray), (namesF g f nx s).2.2.size ≤ s.size
  | 0, nx, s => Nat.le_refl _
  | f + 1, nx, s => by
    unfold namesF
    split
    · exact Nat.le_trans (namesF_size g f _ _) (wordF_size nx g s)
    · exact Nat.le_refl _

theorem slice_of_own {w : World} {base : Nat} {t : TypeId} {z : Nat} {v : Value} {n : Nat} {xs : List Value} (h : w.ownsRow base t z v n xs) : ∃ a c, v = .slice a n c := by
  rcases h.2 with ⟨rfl, rfl⟩ | ⟨g, cap, cur, rfl, _⟩
  · exact ⟨_, _, rfl⟩
  · exact ⟨_, _, rfl⟩

/-- A node: name, cap, marks, taints, closed. -/
structure NodeB where
  name : ByteArray
  cpu : Nat
  mem : Nat
  marks : List ByteArray
  taints : List ByteArray
  closed : Bool

/-- What node tells, the sign ahead and the rest behind it. -/
def nodeF (nx : Int) (s : ByteArray) : NodeB × Int × ByteArray :=
  match wordF nx 32 s with
  | (p, n1, s1) => match vecF n1 s1 with
    | ((c, m), n2, s2) => match namesF 43 (s2.size + 2) n2 s2 with
      | (ms, n3, s3) => match namesF 126 (s3.size + 2) n3 s3 with
        | (ts, n4, s4) => match flagF n4 s4 with
          | (a, n5, s5) => (⟨p, c, m, ms, ts, a⟩, n5, s5)

set_option maxRecDepth 100000 in
set_option maxHeartbeats 4000000 in
theorem rnode_any (L : Nat) (nx : Int) (s : ByteArray) (T : NodeB × Int × ByteArray) (w : World) (hs : s.size ≤ 1000000) (hT : nodeF nx s = T) (hL : RBox w L nx s) :
    Calls Tryd.prog 53 #[.pointer (some ⟨L, 0, none⟩)] w fun e w' => ∃ v1 v2, e = .returned (.agg #[.string T.1.name, .int .i64 T.1.cpu, .int .i64 T.1.mem, v1, v2, .bool T.1.closed]) ∧ w'.ownsRow w.heap.size 9 1 v1 T.1.marks.length (T.1.marks.map Value.string) ∧ w'.ownsRow w.heap.size 9 1 v2 T.1.taints.length (T.1.taints.map Value.string) ∧ RBox w' L T.2.1 T.2.2 ∧ w.grownBy w' (some L) := by
  unfold nodeF at hT
  obtain ⟨U, hU⟩ : ∃ U, wordF nx 32 s = U := ⟨_, rfl⟩
  have hz1 : U.2.2.size ≤ s.size := hU ▸ wordF_size nx 32 s
  rw [hU] at hT
  obtain ⟨p, n1, s1⟩ := U
  replace hz1 : s1.size ≤ s.size := hz1
  simp only at hT
  obtain ⟨U, hV⟩ : ∃ U, vecF n1 s1 = U := ⟨_, rfl⟩
  have hz2 : U.2.2.size ≤ s1.size := hV ▸ vecF_size n1 s1
  rw [hV] at hT
  obtain ⟨⟨c, m⟩, n2, s2⟩ := U
  replace hz2 : s2.size ≤ s1.size := hz2
  simp only at hT
  obtain ⟨U, hW⟩ : ∃ U, namesF 43 (s2.size + 2) n2 s2 = U := ⟨_, rfl⟩
  have hz3 : U.2.2.size ≤ s2.size := hW ▸ namesF_size 43 (s2.size + 2) n2 s2
  rw [hW] at hT
  obtain ⟨ms, n3, s3⟩ := U
  replace hz3 : s3.size ≤ s2.size := hz3
  simp only at hT
  obtain ⟨U, hX⟩ : ∃ U, namesF 126 (s3.size + 2) n3 s3 = U := ⟨_, rfl⟩
  have hz4 : U.2.2.size ≤ s3.size := hX ▸ namesF_size 126 (s3.size + 2) n3 s3
  rw [hX] at hT
  obtain ⟨ts, n4, s4⟩ := U
  replace hz4 : s4.size ≤ s3.size := hz4
  simp only at hT
  obtain ⟨U, hY⟩ : ∃ U, flagF n4 s4 = U := ⟨_, rfl⟩
  rw [hY] at hT
  obtain ⟨al, n5, s5⟩ := U
  simp only at hT
  subst hT
  show Calls Tryd.prog 53 #[.pointer (some ⟨L, 0, none⟩)] w fun e w' => ∃ v1 v2, e = .returned (.agg #[.string p, .int .i64 c, .int .i64 m, v1, v2, .bool al]) ∧ w'.ownsRow w.heap.size 9 1 v1 ms.length (ms.map Value.string) ∧ w'.ownsRow w.heap.size 9 1 v2 ts.length (ts.map Value.string) ∧ RBox w' L n5 s5 ∧ w.grownBy w' (some L)
  have hLw := hL.lt
  have hne : w.heap.size ≠ L := by omega
  have hL0 : RBox (w.alloc (.cells #[.string ⟨#[]⟩, .int .i64 0, .int .i64 0, .slice none 0 0, .slice none 0 0, .bool false] 33)) L nx s := hL.up _
  have hB0 : Box (w.alloc (.cells #[.string ⟨#[]⟩, .int .i64 0, .int .i64 0, .slice none 0 0, .slice none 0 0, .bool false] 33)) w.heap.size #[.string ⟨#[]⟩, .int .i64 0, .int .i64 0, .slice none 0 0, .slice none 0 0, .bool false] 33 := Box.new w _ _ rfl
  have hg0 : w.grownBy (w.alloc (.cells #[.string ⟨#[]⟩, .int .i64 0, .int .i64 0, .slice none 0 0, .slice none 0 0, .bool false] 33)) (some L) := below_grown ((Below.refl _ _).alloc (Nat.le_refl _) _) _
  have hk : (w.alloc (.cells #[.string ⟨#[]⟩, .int .i64 0, .int .i64 0, .slice none 0 0, .slice none 0 0, .bool false] 33)).heap.size = w.heap.size + 1 := by simp
  go_enter Tryd.func53, Tryd.ntmps53
  go_wp2_with (first
    | (go_at_call 72; refine (flag_any L n4 s4 _ _ (by omega) hY hL4).mono ?_; rintro e w5 ⟨rfl, hL5, hg5⟩; have hB5 := ((((hB0.grown hg1 (by simpa using hne)).grown hg2 (by simpa using hne)).grown hg3 (by simpa using hne)).grown hg4 (by simpa using hne)).grown hg5 (by simpa using hne); obtain ⟨x0, x1, x2, x3, x4, x5⟩ := hB5.cells6; have y0 := hB5.frozen 0; have y1 := hB5.frozen 1; have y2 := hB5.frozen 2; have y3 := hB5.frozen 3; have y4 := hB5.frozen 4; have y5 := hB5.frozen 5)
    | (go_at_call 71; refine (names_any L n3 126 s3 _ _ (by omega) (by omega) hX hL3).mono ?_; rintro e w4 ⟨v2, rfl, hO2, hL4, hg4⟩; obtain ⟨a2, k2, rfl⟩ := slice_of_own hO2)
    | (go_at_call 71; refine (names_any L n2 43 s2 _ _ (by omega) (by omega) hW hL2).mono ?_; rintro e w3 ⟨v1, rfl, hO1, hL3, hg3⟩; obtain ⟨a1, k1, rfl⟩ := slice_of_own hO1)
    | (go_at_call 70; refine (vec_any L n1 s1 _ _ (by omega) hV hL1).mono ?_; rintro e w2 ⟨rfl, hL2, hg2⟩)
    | (go_at_call 54; refine (rname_any L nx 32 s _ _ hs hU hL0).mono ?_; rintro e w1 ⟨rfl, hL1, hg1⟩))
  have hs2 : w.heap.size + 1 ≤ w2.heap.size := by have := hg1.size; have := hg2.size; omega
  have hs3 : w.heap.size + 1 ≤ w3.heap.size := by have := hg3.size; omega
  have hO1' : w5.ownsRow (w.heap.size + 1) 9 1 (.slice a1 ms.length k1) ms.length (ms.map Value.string) := own_grown (own_grown (own_low hO1 hs2) hg4 (fun g hg e => by cases e; omega)) hg5 (fun g hg e => by cases e; omega)
  have hO2' : w5.ownsRow (w.heap.size + 1) 9 1 (.slice a2 ts.length k2) ts.length (ts.map Value.string) := own_grown (own_low hO2 hs3) hg5 (fun g hg e => by cases e; omega)
  have hB6 : Box ((((((w5.setCell ⟨w.heap.size, 0, none⟩ (.string p)).setCell ⟨w.heap.size, 1, none⟩ (.int .i64 c)).setCell ⟨w.heap.size, 2, none⟩ (.int .i64 m)).setCell ⟨w.heap.size, 3, none⟩ (.slice a1 ms.length k1)).setCell ⟨w.heap.size, 4, none⟩ (.slice a2 ts.length k2)).setCell ⟨w.heap.size, 5, none⟩ (.bool al)) w.heap.size #[.string p, .int .i64 c, .int .i64 m, .slice a1 ms.length k1, .slice a2 ts.length k2, .bool al] 33 := (((((hB5.set 0 _).set 1 _).set 2 _).set 3 _).set 4 _).set 5 _
  obtain ⟨r0, r1, r2, r3, r4, r5⟩ := hB6.cells6
  refine bodyPost_ret (by simp [results, Tryd.results53, go_sem, r0, r1, r2, r3, r4, r5]) rfl ⟨.slice a1 ms.length k1, .slice a2 ts.length k2, rfl, ?_, ?_, ?_, ?_⟩
  · exact own_low (own_other (own_other (own_other (own_other (own_other (own_other hO1' (Nat.lt_succ_self _) _ _) (Nat.lt_succ_self _) _ _) (Nat.lt_succ_self _) _ _) (Nat.lt_succ_self _) _ _) (Nat.lt_succ_self _) _ _) (Nat.lt_succ_self _) _ _) (Nat.le_succ _)
  · exact own_low (own_other (own_other (own_other (own_other (own_other (own_other hO2' (Nat.lt_succ_self _) _ _) (Nat.lt_succ_self _) _ _) (Nat.lt_succ_self _) _ _) (Nat.lt_succ_self _) _ _) (Nat.lt_succ_self _) _ _) (Nat.lt_succ_self _) _ _) (Nat.le_succ _)
  · exact ((((((hL5.other (Ne.symm hne) _ _).other (Ne.symm hne) _ _).other (Ne.symm hne) _ _).other (Ne.symm hne) _ _).other (Ne.symm hne) _ _).other (Ne.symm hne) _ _)
  · exact (grown_new (grown_new (grown_new (grown_new (grown_new (grown_new (grown_trans hg0 (grown_trans hg1 (grown_trans hg2 (grown_trans hg3 (grown_trans hg4 hg5))))) (Nat.le_refl _) _ _) (Nat.le_refl _) _ _) (Nat.le_refl _) _ _) (Nat.le_refl _) _ _) (Nat.le_refl _) _ _) (Nat.le_refl _) _ _)

end Go.Proofs.YtmldpihjndafaabDoor
