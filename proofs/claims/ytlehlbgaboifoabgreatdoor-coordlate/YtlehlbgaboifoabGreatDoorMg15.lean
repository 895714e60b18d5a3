/- The contract of Parse of package line: no line of a kind; lines of one number alone. -/
import Derived.Test.YtlehlbgaboifoabGreatDoorMg12
namespace Go.Proofs.YtlehlbgaboifoabGreatDoor
open Go.RowKit
set_option linter.unusedSimpArgs false
set_option linter.unusedVariables false

set_option maxRecDepth 100000 in
set_option maxHeartbeats 2000000 in
theorem parse_bad (s : ByteArray) (T : ByteArray × Int × ByteArray) (w : World) (hs : s.size ≤ 1000000) (hT : wordF (-1) (-1) s = T) (hk : kindR T.1 7 1 = 0) :
    Calls Tryz.prog 111 #[.string s] w fun e w' => e = .returned (.tuple #[.agg #[.int .i64 0, .int .i64 0, .slice none 0 0, .slice none 0 0, .string ⟨#[]⟩, .int .i64 0, .int .i64 0, .slice none 0 0, .slice none 0 0, .bool false], .int .i64 8]) ∧ Below w.heap.size w w' := by
  have kr := fun W => read_bad s T W hs hT hk
  clear hT hk
  go_enter Tryz.func111, Tryz.ntmps111
  go_upto_region 3 with (first
    | (go_at_call 135; refine (kr _).mono ?_; rintro e w1 ⟨rfl, hb1⟩
       have q := (Box.new w #[.int .i64 0, .int .i64 0, .slice none 0 0, .slice none 0 0, .string ⟨#[]⟩, .int .i64 0, .int .i64 0, .slice none 0 0, .slice none 0 0, .bool false] 88 rfl).later hb1
       have hW := fin hb1 (up (Below.refl w.heap.size w) _)
       have hlt := q.lt))
  have q2 := q.up (.cells #[.int .i64 0, .int .i64 0, .slice none 0 0, .slice none 0 0, .string ⟨#[]⟩, .int .i64 0, .int .i64 0, .slice none 0 0, .slice none 0 0, .bool false] 88)
  have hW2 := up hW (.cells #[.int .i64 0, .int .i64 0, .slice none 0 0, .slice none 0 0, .string ⟨#[]⟩, .int .i64 0, .int .i64 0, .slice none 0 0, .slice none 0 0, .bool false] 88)
  generalize w1.alloc (.cells #[.int .i64 0, .int .i64 0, .slice none 0 0, .slice none 0 0, .string ⟨#[]⟩, .int .i64 0, .int .i64 0, .slice none 0 0, .slice none 0 0, .bool false] 88) = W2 at *
  obtain ⟨x0, x1, x2, x3, x4, x5, x6, x7, x8, x9⟩ := RecBox.cells q2
  have f0 := q2.frozen 0
  have f1 := q2.frozen 1
  have f2 := q2.frozen 2
  have f3 := q2.frozen 3
  have f4 := q2.frozen 4
  have f5 := q2.frozen 5
  have f6 := q2.frozen 6
  have f7 := q2.frozen 7
  have f8 := q2.frozen 8
  have f9 := q2.frozen 9
  go_wp2
  have q9 := RecBox.setAll (c0 := .int .i64 0) (c1 := .int .i64 0) (c2 := .slice none 0 0) (c3 := .slice none 0 0) (c4 := .string ⟨#[]⟩) (c5 := .int .i64 0) (c6 := .int .i64 0) (c7 := .slice none 0 0) (c8 := .slice none 0 0) (c9 := .bool false) q2
  have hW9 := below_setAll (A := w.heap.size) (Nat.le_refl _) [.int .i64 0, .int .i64 0, .slice none 0 0, .slice none 0 0, .string ⟨#[]⟩, .int .i64 0, .int .i64 0, .slice none 0 0, .slice none 0 0, .bool false] 0 hW2
  change bodyPost _ _ _ _ _ (W2.setCells w.heap.size 0 [.int .i64 0, .int .i64 0, .slice none 0 0, .slice none 0 0, .string ⟨#[]⟩, .int .i64 0, .int .i64 0, .slice none 0 0, .slice none 0 0, .bool false])
  generalize W2.setCells w.heap.size 0 [.int .i64 0, .int .i64 0, .slice none 0 0, .slice none 0 0, .string ⟨#[]⟩, .int .i64 0, .int .i64 0, .slice none 0 0, .slice none 0 0, .bool false] = W9 at *
  obtain ⟨y0, y1, y2, y3, y4, y5, y6, y7, y8, y9⟩ := RecBox.cells q9
  exact bodyPost_ret (by simp [results, Tryz.results111, go_sem, y0, y1, y2, y3, y4, y5, y6, y7, y8, y9]) rfl ⟨rfl, hW9⟩

set_option maxRecDepth 100000 in
set_option maxHeartbeats 2000000 in
theorem parse_four_form (s : ByteArray) (T : ByteArray × Int × ByteArray) (N : Nat × Int × ByteArray) (w : World) (hs : s.size ≤ 1000000) (hT : wordF (-1) (-1) s = T) (hk : kindR T.1 7 1 = 4) (hN : numF T.2.1 32 T.2.2 = N) (hs1 : T.2.2.size ≤ 1000000) (he : N.2.1 ≠ -2) :
    Calls Tryz.prog 111 #[.string s] w fun e w' => e = .returned (.tuple #[.agg #[.int .i64 0, .int .i64 0, .slice none 0 0, .slice none 0 0, .string ⟨#[]⟩, .int .i64 0, .int .i64 0, .slice none 0 0, .slice none 0 0, .bool false], .int .i64 8]) ∧ Below w.heap.size w w' := by
  obtain ⟨gn, n2, s2⟩ := N
  have kr := fun W => read_four s T (gn, n2, s2) W hs hT hk hN hs1
  try dsimp only at he
  simp only [show (n2 == -2) = false by simp [he]] at kr
  clear hT hk hN hs1 he
  go_enter Tryz.func111, Tryz.ntmps111
  go_upto_region 3 with (first
    | (go_at_call 135; refine (kr _).mono ?_; rintro e w1 ⟨rfl, hb1⟩
       have q := (Box.new w #[.int .i64 0, .int .i64 0, .slice none 0 0, .slice none 0 0, .string ⟨#[]⟩, .int .i64 0, .int .i64 0, .slice none 0 0, .slice none 0 0, .bool false] 88 rfl).later hb1
       have hW := fin hb1 (up (Below.refl w.heap.size w) _)
       have hlt := q.lt))
  have q2 := q.up (.cells #[.int .i64 4, .int .i64 gn, .slice none 0 0, .slice none 0 0, .string ⟨#[]⟩, .int .i64 0, .int .i64 0, .slice none 0 0, .slice none 0 0, .bool false] 88)
  have hW2 := up hW (.cells #[.int .i64 4, .int .i64 gn, .slice none 0 0, .slice none 0 0, .string ⟨#[]⟩, .int .i64 0, .int .i64 0, .slice none 0 0, .slice none 0 0, .bool false] 88)
  generalize w1.alloc (.cells #[.int .i64 4, .int .i64 gn, .slice none 0 0, .slice none 0 0, .string ⟨#[]⟩, .int .i64 0, .int .i64 0, .slice none 0 0, .slice none 0 0, .bool false] 88) = W2 at *
  obtain ⟨x0, x1, x2, x3, x4, x5, x6, x7, x8, x9⟩ := RecBox.cells q2
  have f0 := q2.frozen 0
  have f1 := q2.frozen 1
  have f2 := q2.frozen 2
  have f3 := q2.frozen 3
  have f4 := q2.frozen 4
  have f5 := q2.frozen 5
  have f6 := q2.frozen 6
  have f7 := q2.frozen 7
  have f8 := q2.frozen 8
  have f9 := q2.frozen 9
  go_wp2
  have q9 := RecBox.setAll (c0 := .int .i64 0) (c1 := .int .i64 0) (c2 := .slice none 0 0) (c3 := .slice none 0 0) (c4 := .string ⟨#[]⟩) (c5 := .int .i64 0) (c6 := .int .i64 0) (c7 := .slice none 0 0) (c8 := .slice none 0 0) (c9 := .bool false) q2
  have hW9 := below_setAll (A := w.heap.size) (Nat.le_refl _) [.int .i64 0, .int .i64 0, .slice none 0 0, .slice none 0 0, .string ⟨#[]⟩, .int .i64 0, .int .i64 0, .slice none 0 0, .slice none 0 0, .bool false] 0 hW2
  change bodyPost _ _ _ _ _ (W2.setCells w.heap.size 0 [.int .i64 0, .int .i64 0, .slice none 0 0, .slice none 0 0, .string ⟨#[]⟩, .int .i64 0, .int .i64 0, .slice none 0 0, .slice none 0 0, .bool false])
  generalize W2.setCells w.heap.size 0 [.int .i64 0, .int .i64 0, .slice none 0 0, .slice none 0 0, .string ⟨#[]⟩, .int .i64 0, .int .i64 0, .slice none 0 0, .slice none 0 0, .bool false] = W9 at *
  obtain ⟨y0, y1, y2, y3, y4, y5, y6, y7, y8, y9⟩ := RecBox.cells q9
  exact bodyPost_ret (by simp [results, Tryz.results111, go_sem, y0, y1, y2, y3, y4, y5, y6, y7, y8, y9]) rfl ⟨rfl, hW9⟩

set_option maxRecDepth 100000 in
set_option maxHeartbeats 2000000 in
theorem parse_four_arg (s : ByteArray) (T : ByteArray × Int × ByteArray) (N : Nat × Int × ByteArray) (w : World) (hs : s.size ≤ 1000000) (hT : wordF (-1) (-1) s = T) (hk : kindR T.1 7 1 = 4) (hN : numF T.2.1 32 T.2.2 = N) (hs1 : T.2.2.size ≤ 1000000) (he : N.2.1 = -2) (hg : gangE N.1 = 2) :
    Calls Tryz.prog 111 #[.string s] w fun e w' => e = .returned (.tuple #[.agg #[.int .i64 0, .int .i64 0, .slice none 0 0, .slice none 0 0, .string ⟨#[]⟩, .int .i64 0, .int .i64 0, .slice none 0 0, .slice none 0 0, .bool false], .int .i64 2]) ∧ Below w.heap.size w w' := by
  obtain ⟨gn, n2, s2⟩ := N
  have kr := fun W => read_four s T (gn, n2, s2) W hs hT hk hN hs1
  try dsimp only at he
  try dsimp only at hg
  subst he
  have kc := fun W => check_four gn W
  rw [hg] at kc
  clear hT hk hN hs1 hg
  go_enter Tryz.func111, Tryz.ntmps111
  go_upto_region 6 with (first
    | (go_at_call 135; refine (kr _).mono ?_; rintro e w1 ⟨rfl, hb1⟩
       have q := (Box.new w #[.int .i64 0, .int .i64 0, .slice none 0 0, .slice none 0 0, .string ⟨#[]⟩, .int .i64 0, .int .i64 0, .slice none 0 0, .slice none 0 0, .bool false] 88 rfl).later hb1
       have hW := fin hb1 (up (Below.refl w.heap.size w) _)
       have hlt := q.lt)
    | (go_at_call 34; refine (kc _).mono ?_; rintro e w2 ⟨rfl, hb2⟩
       have q2 := (q.up (.cells #[.int .i64 4, .int .i64 gn, .slice none 0 0, .slice none 0 0, .string ⟨#[]⟩, .int .i64 0, .int .i64 0, .slice none 0 0, .slice none 0 0, .bool false] 88)).later hb2
       have r2 := (Box.new w1 #[.int .i64 4, .int .i64 gn, .slice none 0 0, .slice none 0 0, .string ⟨#[]⟩, .int .i64 0, .int .i64 0, .slice none 0 0, .slice none 0 0, .bool false] 88 rfl).later hb2
       have hW2 := fin hb2 (up hW (.cells #[.int .i64 4, .int .i64 gn, .slice none 0 0, .slice none 0 0, .string ⟨#[]⟩, .int .i64 0, .int .i64 0, .slice none 0 0, .slice none 0 0, .bool false] 88))))
  obtain ⟨x0, x1, x2, x3, x4, x5, x6, x7, x8, x9⟩ := RecBox.cells q2
  obtain ⟨z0, z1, z2, z3, z4, z5, z6, z7, z8, z9⟩ := RecBox.cells r2
  have ne1 : ¬ w.heap.size = w1.heap.size := by omega
  have ne2 : ¬ w1.heap.size = w.heap.size := by omega
  have f0 := q2.frozen 0
  have f1 := q2.frozen 1
  have f2 := q2.frozen 2
  have f3 := q2.frozen 3
  have f4 := q2.frozen 4
  have f5 := q2.frozen 5
  have f6 := q2.frozen 6
  have f7 := q2.frozen 7
  have f8 := q2.frozen 8
  have f9 := q2.frozen 9
  go_wp2
  have q9 := RecBox.setAll (c0 := .int .i64 0) (c1 := .int .i64 0) (c2 := .slice none 0 0) (c3 := .slice none 0 0) (c4 := .string ⟨#[]⟩) (c5 := .int .i64 0) (c6 := .int .i64 0) (c7 := .slice none 0 0) (c8 := .slice none 0 0) (c9 := .bool false) q2
  have hW9 := below_setAll (A := w.heap.size) (Nat.le_refl _) [.int .i64 0, .int .i64 0, .slice none 0 0, .slice none 0 0, .string ⟨#[]⟩, .int .i64 0, .int .i64 0, .slice none 0 0, .slice none 0 0, .bool false] 0 hW2
  change bodyPost _ _ _ _ _ (w2.setCells w.heap.size 0 [.int .i64 0, .int .i64 0, .slice none 0 0, .slice none 0 0, .string ⟨#[]⟩, .int .i64 0, .int .i64 0, .slice none 0 0, .slice none 0 0, .bool false])
  generalize w2.setCells w.heap.size 0 [.int .i64 0, .int .i64 0, .slice none 0 0, .slice none 0 0, .string ⟨#[]⟩, .int .i64 0, .int .i64 0, .slice none 0 0, .slice none 0 0, .bool false] = W9 at *
  obtain ⟨y0, y1, y2, y3, y4, y5, y6, y7, y8, y9⟩ := RecBox.cells q9
  exact bodyPost_ret (by simp [results, Tryz.results111, go_sem, y0, y1, y2, y3, y4, y5, y6, y7, y8, y9]) rfl ⟨rfl, hW9⟩

set_option maxRecDepth 100000 in
set_option maxHeartbeats 2000000 in
theorem parse_four_ok (s : ByteArray) (T : ByteArray × Int × ByteArray) (N : Nat × Int × ByteArray) (w : World) (hs : s.size ≤ 1000000) (hT : wordF (-1) (-1) s = T) (hk : kindR T.1 7 1 = 4) (hN : numF T.2.1 32 T.2.2 = N) (hs1 : T.2.2.size ≤ 1000000) (he : N.2.1 = -2) (hg : gangE N.1 = 0) :
    Calls Tryz.prog 111 #[.string s] w fun e w' => e = .returned (.tuple #[.agg #[.int .i64 4, .int .i64 N.1, .slice none 0 0, .slice none 0 0, .string ⟨#[]⟩, .int .i64 0, .int .i64 0, .slice none 0 0, .slice none 0 0, .bool false], .int .i64 0]) ∧ Below w.heap.size w w' := by
  obtain ⟨gn, n2, s2⟩ := N
  have kr := fun W => read_four s T (gn, n2, s2) W hs hT hk hN hs1
  try dsimp only at he
  try dsimp only at hg
  subst he
  have kc := fun W => check_four gn W
  rw [hg] at kc
  clear hT hk hN hs1 hg
  go_enter Tryz.func111, Tryz.ntmps111
  go_upto_region 7 with (first
    | (go_at_call 135; refine (kr _).mono ?_; rintro e w1 ⟨rfl, hb1⟩
       have q := (Box.new w #[.int .i64 0, .int .i64 0, .slice none 0 0, .slice none 0 0, .string ⟨#[]⟩, .int .i64 0, .int .i64 0, .slice none 0 0, .slice none 0 0, .bool false] 88 rfl).later hb1
       have hW := fin hb1 (up (Below.refl w.heap.size w) _)
       have hlt := q.lt)
    | (go_at_call 34; refine (kc _).mono ?_; rintro e w2 ⟨rfl, hb2⟩
       have q2 := (q.up (.cells #[.int .i64 4, .int .i64 gn, .slice none 0 0, .slice none 0 0, .string ⟨#[]⟩, .int .i64 0, .int .i64 0, .slice none 0 0, .slice none 0 0, .bool false] 88)).later hb2
       have r2 := (Box.new w1 #[.int .i64 4, .int .i64 gn, .slice none 0 0, .slice none 0 0, .string ⟨#[]⟩, .int .i64 0, .int .i64 0, .slice none 0 0, .slice none 0 0, .bool false] 88 rfl).later hb2
       have hW2 := fin hb2 (up hW (.cells #[.int .i64 4, .int .i64 gn, .slice none 0 0, .slice none 0 0, .string ⟨#[]⟩, .int .i64 0, .int .i64 0, .slice none 0 0, .slice none 0 0, .bool false] 88))))
  obtain ⟨x0, x1, x2, x3, x4, x5, x6, x7, x8, x9⟩ := RecBox.cells q2
  obtain ⟨z0, z1, z2, z3, z4, z5, z6, z7, z8, z9⟩ := RecBox.cells r2
  have ne1 : ¬ w.heap.size = w1.heap.size := by omega
  have ne2 : ¬ w1.heap.size = w.heap.size := by omega
  have f0 := q2.frozen 0
  have f1 := q2.frozen 1
  have f2 := q2.frozen 2
  have f3 := q2.frozen 3
  have f4 := q2.frozen 4
  have f5 := q2.frozen 5
  have f6 := q2.frozen 6
  have f7 := q2.frozen 7
  have f8 := q2.frozen 8
  have f9 := q2.frozen 9
  go_wp2
  have q9 := RecBox.setAll (c0 := .int .i64 4) (c1 := .int .i64 gn) (c2 := .slice none 0 0) (c3 := .slice none 0 0) (c4 := .string ⟨#[]⟩) (c5 := .int .i64 0) (c6 := .int .i64 0) (c7 := .slice none 0 0) (c8 := .slice none 0 0) (c9 := .bool false) q2
  have hW9 := below_setAll (A := w.heap.size) (Nat.le_refl _) [.int .i64 4, .int .i64 gn, .slice none 0 0, .slice none 0 0, .string ⟨#[]⟩, .int .i64 0, .int .i64 0, .slice none 0 0, .slice none 0 0, .bool false] 0 hW2
  change bodyPost _ _ _ _ _ (w2.setCells w.heap.size 0 [.int .i64 4, .int .i64 gn, .slice none 0 0, .slice none 0 0, .string ⟨#[]⟩, .int .i64 0, .int .i64 0, .slice none 0 0, .slice none 0 0, .bool false])
  generalize w2.setCells w.heap.size 0 [.int .i64 4, .int .i64 gn, .slice none 0 0, .slice none 0 0, .string ⟨#[]⟩, .int .i64 0, .int .i64 0, .slice none 0 0, .slice none 0 0, .bool false] = W9 at *
  obtain ⟨y0, y1, y2, y3, y4, y5, y6, y7, y8, y9⟩ := RecBox.cells q9
  exact bodyPost_ret (by simp [results, Tryz.results111, go_sem, y0, y1, y2, y3, y4, y5, y6, y7, y8, y9]) rfl ⟨rfl, hW9⟩

set_option maxRecDepth 100000 in
set_option maxHeartbeats 2000000 in
theorem parse_five_form (s : ByteArray) (T : ByteArray × Int × ByteArray) (N : Nat × Int × ByteArray) (w : World) (hs : s.size ≤ 1000000) (hT : wordF (-1) (-1) s = T) (hk : kindR T.1 7 1 = 5) (hN : numF T.2.1 32 T.2.2 = N) (hs1 : T.2.2.size ≤ 1000000) (he : N.2.1 ≠ -2) :
    Calls Tryz.prog 111 #[.string s] w fun e w' => e = .returned (.tuple #[.agg #[.int .i64 0, .int .i64 0, .slice none 0 0, .slice none 0 0, .string ⟨#[]⟩, .int .i64 0, .int .i64 0, .slice none 0 0, .slice none 0 0, .bool false], .int .i64 8]) ∧ Below w.heap.size w w' := by
  obtain ⟨gn, n2, s2⟩ := N
  have kr := fun W => read_five s T (gn, n2, s2) W hs hT hk hN hs1
  try dsimp only at he
  simp only [show (n2 == -2) = false by simp [he]] at kr
  clear hT hk hN hs1 he
  go_enter Tryz.func111, Tryz.ntmps111
  go_upto_region 3 with (first
    | (go_at_call 135; refine (kr _).mono ?_; rintro e w1 ⟨rfl, hb1⟩
       have q := (Box.new w #[.int .i64 0, .int .i64 0, .slice none 0 0, .slice none 0 0, .string ⟨#[]⟩, .int .i64 0, .int .i64 0, .slice none 0 0, .slice none 0 0, .bool false] 88 rfl).later hb1
       have hW := fin hb1 (up (Below.refl w.heap.size w) _)
       have hlt := q.lt))
  have q2 := q.up (.cells #[.int .i64 5, .int .i64 gn, .slice none 0 0, .slice none 0 0, .string ⟨#[]⟩, .int .i64 0, .int .i64 0, .slice none 0 0, .slice none 0 0, .bool false] 88)
  have hW2 := up hW (.cells #[.int .i64 5, .int .i64 gn, .slice none 0 0, .slice none 0 0, .string ⟨#[]⟩, .int .i64 0, .int .i64 0, .slice none 0 0, .slice none 0 0, .bool false] 88)
  generalize w1.alloc (.cells #[.int .i64 5, .int .i64 gn, .slice none 0 0, .slice none 0 0, .string ⟨#[]⟩, .int .i64 0, .int .i64 0, .slice none 0 0, .slice none 0 0, .bool false] 88) = W2 at *
  obtain ⟨x0, x1, x2, x3, x4, x5, x6, x7, x8, x9⟩ := RecBox.cells q2
  have f0 := q2.frozen 0
  have f1 := q2.frozen 1
  have f2 := q2.frozen 2
  have f3 := q2.frozen 3
  have f4 := q2.frozen 4
  have f5 := q2.frozen 5
  have f6 := q2.frozen 6
  have f7 := q2.frozen 7
  have f8 := q2.frozen 8
  have f9 := q2.frozen 9
  go_wp2
  have q9 := RecBox.setAll (c0 := .int .i64 0) (c1 := .int .i64 0) (c2 := .slice none 0 0) (c3 := .slice none 0 0) (c4 := .string ⟨#[]⟩) (c5 := .int .i64 0) (c6 := .int .i64 0) (c7 := .slice none 0 0) (c8 := .slice none 0 0) (c9 := .bool false) q2
  have hW9 := below_setAll (A := w.heap.size) (Nat.le_refl _) [.int .i64 0, .int .i64 0, .slice none 0 0, .slice none 0 0, .string ⟨#[]⟩, .int .i64 0, .int .i64 0, .slice none 0 0, .slice none 0 0, .bool false] 0 hW2
  change bodyPost _ _ _ _ _ (W2.setCells w.heap.size 0 [.int .i64 0, .int .i64 0, .slice none 0 0, .slice none 0 0, .string ⟨#[]⟩, .int .i64 0, .int .i64 0, .slice none 0 0, .slice none 0 0, .bool false])
  generalize W2.setCells w.heap.size 0 [.int .i64 0, .int .i64 0, .slice none 0 0, .slice none 0 0, .string ⟨#[]⟩, .int .i64 0, .int .i64 0, .slice none 0 0, .slice none 0 0, .bool false] = W9 at *
  obtain ⟨y0, y1, y2, y3, y4, y5, y6, y7, y8, y9⟩ := RecBox.cells q9
  exact bodyPost_ret (by simp [results, Tryz.results111, go_sem, y0, y1, y2, y3, y4, y5, y6, y7, y8, y9]) rfl ⟨rfl, hW9⟩

set_option maxRecDepth 100000 in
set_option maxHeartbeats 2000000 in
theorem parse_five_arg (s : ByteArray) (T : ByteArray × Int × ByteArray) (N : Nat × Int × ByteArray) (w : World) (hs : s.size ≤ 1000000) (hT : wordF (-1) (-1) s = T) (hk : kindR T.1 7 1 = 5) (hN : numF T.2.1 32 T.2.2 = N) (hs1 : T.2.2.size ≤ 1000000) (he : N.2.1 = -2) (hg : gangE N.1 = 2) :
    Calls Tryz.prog 111 #[.string s] w fun e w' => e = .returned (.tuple #[.agg #[.int .i64 0, .int .i64 0, .slice none 0 0, .slice none 0 0, .string ⟨#[]⟩, .int .i64 0, .int .i64 0, .slice none 0 0, .slice none 0 0, .bool false], .int .i64 2]) ∧ Below w.heap.size w w' := by
  obtain ⟨gn, n2, s2⟩ := N
  have kr := fun W => read_five s T (gn, n2, s2) W hs hT hk hN hs1
  try dsimp only at he
  try dsimp only at hg
  subst he
  have kc := fun W => check_five gn W
  rw [hg] at kc
  clear hT hk hN hs1 hg
  go_enter Tryz.func111, Tryz.ntmps111
  go_upto_region 6 with (first
    | (go_at_call 135; refine (kr _).mono ?_; rintro e w1 ⟨rfl, hb1⟩
       have q := (Box.new w #[.int .i64 0, .int .i64 0, .slice none 0 0, .slice none 0 0, .string ⟨#[]⟩, .int .i64 0, .int .i64 0, .slice none 0 0, .slice none 0 0, .bool false] 88 rfl).later hb1
       have hW := fin hb1 (up (Below.refl w.heap.size w) _)
       have hlt := q.lt)
    | (go_at_call 34; refine (kc _).mono ?_; rintro e w2 ⟨rfl, hb2⟩
       have q2 := (q.up (.cells #[.int .i64 5, .int .i64 gn, .slice none 0 0, .slice none 0 0, .string ⟨#[]⟩, .int .i64 0, .int .i64 0, .slice none 0 0, .slice none 0 0, .bool false] 88)).later hb2
       have r2 := (Box.new w1 #[.int .i64 5, .int .i64 gn, .slice none 0 0, .slice none 0 0, .string ⟨#[]⟩, .int .i64 0, .int .i64 0, .slice none 0 0, .slice none 0 0, .bool false] 88 rfl).later hb2
       have hW2 := fin hb2 (up hW (.cells #[.int .i64 5, .int .i64 gn, .slice none 0 0, .slice none 0 0, .string ⟨#[]⟩, .int .i64 0, .int .i64 0, .slice none 0 0, .slice none 0 0, .bool false] 88))))
  obtain ⟨x0, x1, x2, x3, x4, x5, x6, x7, x8, x9⟩ := RecBox.cells q2
  obtain ⟨z0, z1, z2, z3, z4, z5, z6, z7, z8, z9⟩ := RecBox.cells r2
  have ne1 : ¬ w.heap.size = w1.heap.size := by omega
  have ne2 : ¬ w1.heap.size = w.heap.size := by omega
  have f0 := q2.frozen 0
  have f1 := q2.frozen 1
  have f2 := q2.frozen 2
  have f3 := q2.frozen 3
  have f4 := q2.frozen 4
  have f5 := q2.frozen 5
  have f6 := q2.frozen 6
  have f7 := q2.frozen 7
  have f8 := q2.frozen 8
  have f9 := q2.frozen 9
  go_wp2
  have q9 := RecBox.setAll (c0 := .int .i64 0) (c1 := .int .i64 0) (c2 := .slice none 0 0) (c3 := .slice none 0 0) (c4 := .string ⟨#[]⟩) (c5 := .int .i64 0) (c6 := .int .i64 0) (c7 := .slice none 0 0) (c8 := .slice none 0 0) (c9 := .bool false) q2
  have hW9 := below_setAll (A := w.heap.size) (Nat.le_refl _) [.int .i64 0, .int .i64 0, .slice none 0 0, .slice none 0 0, .string ⟨#[]⟩, .int .i64 0, .int .i64 0, .slice none 0 0, .slice none 0 0, .bool false] 0 hW2
  change bodyPost _ _ _ _ _ (w2.setCells w.heap.size 0 [.int .i64 0, .int .i64 0, .slice none 0 0, .slice none 0 0, .string ⟨#[]⟩, .int .i64 0, .int .i64 0, .slice none 0 0, .slice none 0 0, .bool false])
  generalize w2.setCells w.heap.size 0 [.int .i64 0, .int .i64 0, .slice none 0 0, .slice none 0 0, .string ⟨#[]⟩, .int .i64 0, .int .i64 0, .slice none 0 0, .slice none 0 0, .bool false] = W9 at *
  obtain ⟨y0, y1, y2, y3, y4, y5, y6, y7, y8, y9⟩ := RecBox.cells q9
  exact bodyPost_ret (by simp [results, Tryz.results111, go_sem, y0, y1, y2, y3, y4, y5, y6, y7, y8, y9]) rfl ⟨rfl, hW9⟩

set_option maxRecDepth 100000 in
set_option maxHeartbeats 2000000 in
theorem parse_five_ok (s : ByteArray) (T : ByteArray × Int × ByteArray) (N : Nat × Int × ByteArray) (w : World) (hs : s.size ≤ 1000000) (hT : wordF (-1) (-1) s = T) (hk : kindR T.1 7 1 = 5) (hN : numF T.2.1 32 T.2.2 = N) (hs1 : T.2.2.size ≤ 1000000) (he : N.2.1 = -2) (hg : gangE N.1 = 0) :
    Calls Tryz.prog 111 #[.string s] w fun e w' => e = .returned (.tuple #[.agg #[.int .i64 5, .int .i64 N.1, .slice none 0 0, .slice none 0 0, .string ⟨#[]⟩, .int .i64 0, .int .i64 0, .slice none 0 0, .slice none 0 0, .bool false], .int .i64 0]) ∧ Below w.heap.size w w' := by
  obtain ⟨gn, n2, s2⟩ := N
  have kr := fun W => read_five s T (gn, n2, s2) W hs hT hk hN hs1
  try dsimp only at he
  try dsimp only at hg
  subst he
  have kc := fun W => check_five gn W
  rw [hg] at kc
  clear hT hk hN hs1 hg
  go_enter Tryz.func111, Tryz.ntmps111
  go_upto_region 7 with (first
    | (go_at_call 135; refine (kr _).mono ?_; rintro e w1 ⟨rfl, hb1⟩
       have q := (Box.new w #[.int .i64 0, .int .i64 0, .slice none 0 0, .slice none 0 0, .string ⟨#[]⟩, .int .i64 0, .int .i64 0, .slice none 0 0, .slice none 0 0, .bool false] 88 rfl).later hb1
       have hW := fin hb1 (up (Below.refl w.heap.size w) _)
       have hlt := q.lt)
    | (go_at_call 34; refine (kc _).mono ?_; rintro e w2 ⟨rfl, hb2⟩
       have q2 := (q.up (.cells #[.int .i64 5, .int .i64 gn, .slice none 0 0, .slice none 0 0, .string ⟨#[]⟩, .int .i64 0, .int .i64 0, .slice none 0 0, .slice none 0 0, .bool false] 88)).later hb2
       have r2 := (Box.new w1 #[.int .i64 5, .int .i64 gn, .slice none 0 0, .slice none 0 0, .string ⟨#[]⟩, .int .i64 0, .int .i64 0, .slice none 0 0, .slice none 0 0, .bool false] 88 rfl).later hb2
       have hW2 := fin hb2 (up hW (.cells #[.int .i64 5, .int .i64 gn, .slice none 0 0, .slice none 0 0, .string ⟨#[]⟩, .int .i64 0, .int .i64 0, .slice none 0 0, .slice none 0 0, .bool false] 88))))
  obtain ⟨x0, x1, x2, x3, x4, x5, x6, x7, x8, x9⟩ := RecBox.cells q2
  obtain ⟨z0, z1, z2, z3, z4, z5, z6, z7, z8, z9⟩ := RecBox.cells r2
  have ne1 : ¬ w.heap.size = w1.heap.size := by omega
  have ne2 : ¬ w1.heap.size = w.heap.size := by omega
  have f0 := q2.frozen 0
  have f1 := q2.frozen 1
  have f2 := q2.frozen 2
  have f3 := q2.frozen 3
  have f4 := q2.frozen 4
  have f5 := q2.frozen 5
  have f6 := q2.frozen 6
  have f7 := q2.frozen 7
  have f8 := q2.frozen 8
  have f9 := q2.frozen 9
  go_wp2
  have q9 := RecBox.setAll (c0 := .int .i64 5) (c1 := .int .i64 gn) (c2 := .slice none 0 0) (c3 := .slice none 0 0) (c4 := .string ⟨#[]⟩) (c5 := .int .i64 0) (c6 := .int .i64 0) (c7 := .slice none 0 0) (c8 := .slice none 0 0) (c9 := .bool false) q2
  have hW9 := below_setAll (A := w.heap.size) (Nat.le_refl _) [.int .i64 5, .int .i64 gn, .slice none 0 0, .slice none 0 0, .string ⟨#[]⟩, .int .i64 0, .int .i64 0, .slice none 0 0, .slice none 0 0, .bool false] 0 hW2
  change bodyPost _ _ _ _ _ (w2.setCells w.heap.size 0 [.int .i64 5, .int .i64 gn, .slice none 0 0, .slice none 0 0, .string ⟨#[]⟩, .int .i64 0, .int .i64 0, .slice none 0 0, .slice none 0 0, .bool false])
  generalize w2.setCells w.heap.size 0 [.int .i64 5, .int .i64 gn, .slice none 0 0, .slice none 0 0, .string ⟨#[]⟩, .int .i64 0, .int .i64 0, .slice none 0 0, .slice none 0 0, .bool false] = W9 at *
  obtain ⟨y0, y1, y2, y3, y4, y5, y6, y7, y8, y9⟩ := RecBox.cells q9
  exact bodyPost_ret (by simp [results, Tryz.results111, go_sem, y0, y1, y2, y3, y4, y5, y6, y7, y8, y9]) rfl ⟨rfl, hW9⟩

set_option maxRecDepth 100000 in
set_option maxHeartbeats 2000000 in
theorem parse_six_form (s : ByteArray) (T : ByteArray × Int × ByteArray) (N : Nat × Int × ByteArray) (w : World) (hs : s.size ≤ 1000000) (hT : wordF (-1) (-1) s = T) (hk : kindR T.1 7 1 = 6) (hN : numF T.2.1 32 T.2.2 = N) (hs1 : T.2.2.size ≤ 1000000) (he : N.2.1 ≠ -2) :
    Calls Tryz.prog 111 #[.string s] w fun e w' => e = .returned (.tuple #[.agg #[.int .i64 0, .int .i64 0, .slice none 0 0, .slice none 0 0, .string ⟨#[]⟩, .int .i64 0, .int .i64 0, .slice none 0 0, .slice none 0 0, .bool false], .int .i64 8]) ∧ Below w.heap.size w w' := by
  obtain ⟨gn, n2, s2⟩ := N
  have kr := fun W => read_six s T (gn, n2, s2) W hs hT hk hN hs1
  try dsimp only at he
  simp only [show (n2 == -2) = false by simp [he]] at kr
  clear hT hk hN hs1 he
  go_enter Tryz.func111, Tryz.ntmps111
  go_upto_region 3 with (first
    | (go_at_call 135; refine (kr _).mono ?_; rintro e w1 ⟨rfl, hb1⟩
       have q := (Box.new w #[.int .i64 0, .int .i64 0, .slice none 0 0, .slice none 0 0, .string ⟨#[]⟩, .int .i64 0, .int .i64 0, .slice none 0 0, .slice none 0 0, .bool false] 88 rfl).later hb1
       have hW := fin hb1 (up (Below.refl w.heap.size w) _)
       have hlt := q.lt))
  have q2 := q.up (.cells #[.int .i64 6, .int .i64 gn, .slice none 0 0, .slice none 0 0, .string ⟨#[]⟩, .int .i64 0, .int .i64 0, .slice none 0 0, .slice none 0 0, .bool false] 88)
  have hW2 := up hW (.cells #[.int .i64 6, .int .i64 gn, .slice none 0 0, .slice none 0 0, .string ⟨#[]⟩, .int .i64 0, .int .i64 0, .slice none 0 0, .slice none 0 0, .bool false] 88)
  generalize w1.alloc (.cells #[.int .i64 6, .int .i64 gn, .slice none 0 0, .slice none 0 0, .string ⟨#[]⟩, .int .i64 0, .int .i64 0, .slice none 0 0, .slice none 0 0, .bool false] 88) = W2 at *
  obtain ⟨x0, x1, x2, x3, x4, x5, x6, x7, x8, x9⟩ := RecBox.cells q2
  have f0 := q2.frozen 0
  have f1 := q2.frozen 1
  have f2 := q2.frozen 2
  have f3 := q2.frozen 3
  have f4 := q2.frozen 4
  have f5 := q2.frozen 5
  have f6 := q2.frozen 6
  have f7 := q2.frozen 7
  have f8 := q2.frozen 8
  have f9 := q2.frozen 9
  go_wp2
  have q9 := RecBox.setAll (c0 := .int .i64 0) (c1 := .int .i64 0) (c2 := .slice none 0 0) (c3 := .slice none 0 0) (c4 := .string ⟨#[]⟩) (c5 := .int .i64 0) (c6 := .int .i64 0) (c7 := .slice none 0 0) (c8 := .slice none 0 0) (c9 := .bool false) q2
  have hW9 := below_setAll (A := w.heap.size) (Nat.le_refl _) [.int .i64 0, .int .i64 0, .slice none 0 0, .slice none 0 0, .string ⟨#[]⟩, .int .i64 0, .int .i64 0, .slice none 0 0, .slice none 0 0, .bool false] 0 hW2
  change bodyPost _ _ _ _ _ (W2.setCells w.heap.size 0 [.int .i64 0, .int .i64 0, .slice none 0 0, .slice none 0 0, .string ⟨#[]⟩, .int .i64 0, .int .i64 0, .slice none 0 0, .slice none 0 0, .bool false])
  generalize W2.setCells w.heap.size 0 [.int .i64 0, .int .i64 0, .slice none 0 0, .slice none 0 0, .string ⟨#[]⟩, .int .i64 0, .int .i64 0, .slice none 0 0, .slice none 0 0, .bool false] = W9 at *
  obtain ⟨y0, y1, y2, y3, y4, y5, y6, y7, y8, y9⟩ := RecBox.cells q9
  exact bodyPost_ret (by simp [results, Tryz.results111, go_sem, y0, y1, y2, y3, y4, y5, y6, y7, y8, y9]) rfl ⟨rfl, hW9⟩

set_option maxRecDepth 100000 in
set_option maxHeartbeats 2000000 in
theorem parse_six_arg (s : ByteArray) (T : ByteArray × Int × ByteArray) (N : Nat × Int × ByteArray) (w : World) (hs : s.size ≤ 1000000) (hT : wordF (-1) (-1) s = T) (hk : kindR T.1 7 1 = 6) (hN : numF T.2.1 32 T.2.2 = N) (hs1 : T.2.2.size ≤ 1000000) (he : N.2.1 = -2) (hg : gangE N.1 = 2) :
    Calls Tryz.prog 111 #[.string s] w fun e w' => e = .returned (.tuple #[.agg #[.int .i64 0, .int .i64 0, .slice none 0 0, .slice none 0 0, .string ⟨#[]⟩, .int .i64 0, .int .i64 0, .slice none 0 0, .slice none 0 0, .bool false], .int .i64 2]) ∧ Below w.heap.size w w' := by
  obtain ⟨gn, n2, s2⟩ := N
  have kr := fun W => read_six s T (gn, n2, s2) W hs hT hk hN hs1
  try dsimp only at he
  try dsimp only at hg
  subst he
  have kc := fun W => check_six gn W
  rw [hg] at kc
  clear hT hk hN hs1 hg
  go_enter Tryz.func111, Tryz.ntmps111
  go_upto_region 6 with (first
    | (go_at_call 135; refine (kr _).mono ?_; rintro e w1 ⟨rfl, hb1⟩
       have q := (Box.new w #[.int .i64 0, .int .i64 0, .slice none 0 0, .slice none 0 0, .string ⟨#[]⟩, .int .i64 0, .int .i64 0, .slice none 0 0, .slice none 0 0, .bool false] 88 rfl).later hb1
       have hW := fin hb1 (up (Below.refl w.heap.size w) _)
       have hlt := q.lt)
    | (go_at_call 34; refine (kc _).mono ?_; rintro e w2 ⟨rfl, hb2⟩
       have q2 := (q.up (.cells #[.int .i64 6, .int .i64 gn, .slice none 0 0, .slice none 0 0, .string ⟨#[]⟩, .int .i64 0, .int .i64 0, .slice none 0 0, .slice none 0 0, .bool false] 88)).later hb2
       have r2 := (Box.new w1 #[.int .i64 6, .int .i64 gn, .slice none 0 0, .slice none 0 0, .string ⟨#[]⟩, .int .i64 0, .int .i64 0, .slice none 0 0, .slice none 0 0, .bool false] 88 rfl).later hb2
       have hW2 := fin hb2 (up hW (.cells #[.int .i64 6, .int .i64 gn, .slice none 0 0, .slice none 0 0, .string ⟨#[]⟩, .int .i64 0, .int .i64 0, .slice none 0 0, .slice none 0 0, .bool false] 88))))
  obtain ⟨x0, x1, x2, x3, x4, x5, x6, x7, x8, x9⟩ := RecBox.cells q2
  obtain ⟨z0, z1, z2, z3, z4, z5, z6, z7, z8, z9⟩ := RecBox.cells r2
  have ne1 : ¬ w.heap.size = w1.heap.size := by omega
  have ne2 : ¬ w1.heap.size = w.heap.size := by omega
  have f0 := q2.frozen 0
  have f1 := q2.frozen 1
  have f2 := q2.frozen 2
  have f3 := q2.frozen 3
  have f4 := q2.frozen 4
  have f5 := q2.frozen 5
  have f6 := q2.frozen 6
  have f7 := q2.frozen 7
  have f8 := q2.frozen 8
  have f9 := q2.frozen 9
  go_wp2
  have q9 := RecBox.setAll (c0 := .int .i64 0) (c1 := .int .i64 0) (c2 := .slice none 0 0) (c3 := .slice none 0 0) (c4 := .string ⟨#[]⟩) (c5 := .int .i64 0) (c6 := .int .i64 0) (c7 := .slice none 0 0) (c8 := .slice none 0 0) (c9 := .bool false) q2
  have hW9 := below_setAll (A := w.heap.size) (Nat.le_refl _) [.int .i64 0, .int .i64 0, .slice none 0 0, .slice none 0 0, .string ⟨#[]⟩, .int .i64 0, .int .i64 0, .slice none 0 0, .slice none 0 0, .bool false] 0 hW2
  change bodyPost _ _ _ _ _ (w2.setCells w.heap.size 0 [.int .i64 0, .int .i64 0, .slice none 0 0, .slice none 0 0, .string ⟨#[]⟩, .int .i64 0, .int .i64 0, .slice none 0 0, .slice none 0 0, .bool false])
  generalize w2.setCells w.heap.size 0 [.int .i64 0, .int .i64 0, .slice none 0 0, .slice none 0 0, .string ⟨#[]⟩, .int .i64 0, .int .i64 0, .slice none 0 0, .slice none 0 0, .bool false] = W9 at *
  obtain ⟨y0, y1, y2, y3, y4, y5, y6, y7, y8, y9⟩ := RecBox.cells q9
  exact bodyPost_ret (by simp [results, Tryz.results111, go_sem, y0, y1, y2, y3, y4, y5, y6, y7, y8, y9]) rfl ⟨rfl, hW9⟩

set_option maxRecDepth 100000 in
set_option maxHeartbeats 2000000 in
theorem parse_six_ok (s : ByteArray) (T : ByteArray × Int × ByteArray) (N : Nat × Int × ByteArray) (w : World) (hs : s.size ≤ 1000000) (hT : wordF (-1) (-1) s = T) (hk : kindR T.1 7 1 = 6) (hN : numF T.2.1 32 T.2.2 = N) (hs1 : T.2.2.size ≤ 1000000) (he : N.2.1 = -2) (hg : gangE N.1 = 0) :
    Calls Tryz.prog 111 #[.string s] w fun e w' => e = .returned (.tuple #[.agg #[.int .i64 6, .int .i64 N.1, .slice none 0 0, .slice none 0 0, .string ⟨#[]⟩, .int .i64 0, .int .i64 0, .slice none 0 0, .slice none 0 0, .bool false], .int .i64 0]) ∧ Below w.heap.size w w' := by
  obtain ⟨gn, n2, s2⟩ := N
  have kr := fun W => read_six s T (gn, n2, s2) W hs hT hk hN hs1
  try dsimp only at he
  try dsimp only at hg
  subst he
  have kc := fun W => check_six gn W
  rw [hg] at kc
  clear hT hk hN hs1 hg
  go_enter Tryz.func111, Tryz.ntmps111
  go_upto_region 7 with (first
    | (go_at_call 135; refine (kr _).mono ?_; rintro e w1 ⟨rfl, hb1⟩
       have q := (Box.new w #[.int .i64 0, .int .i64 0, .slice none 0 0, .slice none 0 0, .string ⟨#[]⟩, .int .i64 0, .int .i64 0, .slice none 0 0, .slice none 0 0, .bool false] 88 rfl).later hb1
       have hW := fin hb1 (up (Below.refl w.heap.size w) _)
       have hlt := q.lt)
    | (go_at_call 34; refine (kc _).mono ?_; rintro e w2 ⟨rfl, hb2⟩
       have q2 := (q.up (.cells #[.int .i64 6, .int .i64 gn, .slice none 0 0, .slice none 0 0, .string ⟨#[]⟩, .int .i64 0, .int .i64 0, .slice none 0 0, .slice none 0 0, .bool false] 88)).later hb2
       have r2 := (Box.new w1 #[.int .i64 6, .int .i64 gn, .slice none 0 0, .slice none 0 0, .string ⟨#[]⟩, .int .i64 0, .int .i64 0, .slice none 0 0, .slice none 0 0, .bool false] 88 rfl).later hb2
       have hW2 := fin hb2 (up hW (.cells #[.int .i64 6, .int .i64 gn, .slice none 0 0, .slice none 0 0, .string ⟨#[]⟩, .int .i64 0, .int .i64 0, .slice none 0 0, .slice none 0 0, .bool false] 88))))
  obtain ⟨x0, x1, x2, x3, x4, x5, x6, x7, x8, x9⟩ := RecBox.cells q2
  obtain ⟨z0, z1, z2, z3, z4, z5, z6, z7, z8, z9⟩ := RecBox.cells r2
  have ne1 : ¬ w.heap.size = w1.heap.size := by omega
  have ne2 : ¬ w1.heap.size = w.heap.size := by omega
  have f0 := q2.frozen 0
  have f1 := q2.frozen 1
  have f2 := q2.frozen 2
  have f3 := q2.frozen 3
  have f4 := q2.frozen 4
  have f5 := q2.frozen 5
  have f6 := q2.frozen 6
  have f7 := q2.frozen 7
  have f8 := q2.frozen 8
  have f9 := q2.frozen 9
  go_wp2
  have q9 := RecBox.setAll (c0 := .int .i64 6) (c1 := .int .i64 gn) (c2 := .slice none 0 0) (c3 := .slice none 0 0) (c4 := .string ⟨#[]⟩) (c5 := .int .i64 0) (c6 := .int .i64 0) (c7 := .slice none 0 0) (c8 := .slice none 0 0) (c9 := .bool false) q2
  have hW9 := below_setAll (A := w.heap.size) (Nat.le_refl _) [.int .i64 6, .int .i64 gn, .slice none 0 0, .slice none 0 0, .string ⟨#[]⟩, .int .i64 0, .int .i64 0, .slice none 0 0, .slice none 0 0, .bool false] 0 hW2
  change bodyPost _ _ _ _ _ (w2.setCells w.heap.size 0 [.int .i64 6, .int .i64 gn, .slice none 0 0, .slice none 0 0, .string ⟨#[]⟩, .int .i64 0, .int .i64 0, .slice none 0 0, .slice none 0 0, .bool false])
  generalize w2.setCells w.heap.size 0 [.int .i64 6, .int .i64 gn, .slice none 0 0, .slice none 0 0, .string ⟨#[]⟩, .int .i64 0, .int .i64 0, .slice none 0 0, .slice none 0 0, .bool false] = W9 at *
  obtain ⟨y0, y1, y2, y3, y4, y5, y6, y7, y8, y9⟩ := RecBox.cells q9
  exact bodyPost_ret (by simp [results, Tryz.results111, go_sem, y0, y1, y2, y3, y4, y5, y6, y7, y8, y9]) rfl ⟨rfl, hW9⟩

end Go.Proofs.YtlehlbgaboifoabGreatDoor
